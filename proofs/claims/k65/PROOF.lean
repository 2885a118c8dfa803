import PyProof.Rows.All
import Wide.All
import OpenK.AllK
import Wide.FinOn
import Lean
import PyProof.EqAt
import PyProof.EqKinds
import PyProof.TupleCall
import PyProof.Rows.SortRuns
import PyProof.Rows.SortShellK
import PyProof.P3Eq
import PyProof.Draws
import PyProof.EnumMake
import PyProof.NeData
import KE.LcSums
import PyProof.WalkInts
import PyProof.SeqI3
import KE.KSortTup
import KE.KRevIter
import PyProof.FactsAll.range_2
import PyProof.SetRoads
import PyProof.FactsAll.set_1
import PyProof.Rows.SetFrom
import PyProof.CollectWalk
import PyProof.Walks
import PyProof.TupleIter
import PyProof.TupleKey
import KE.KDictOf
import PyProof.Rows.TupDisplay
import PyProof.MinMaxWalk
import PyProof.WalksMore
import PySem.Challenge.RW_rooklands_k65_no_stairs
local macro_rules | `(tactic| omega) => `(tactic| first | lia | omega +splitDisjunctions)
open PySem.W renaming Frag->Qa,keepIn->Qg,kitOne->Qk,nsIn->Qo,mg_of->Qt,codeIn->QU,mg_none_of->QY,fnOf->Q4,kia_one->Ze,mroIn->Zq,findIn->ZB,excIn->ZZ,clsIn->Qak,cellsFrom_some->QbL,callWith_K->Qdi,methodObj->Qd1,instObj->Qe2,OpenLaw->Qe3,lookIn->QfH,looks_mroIn->Qj3,hideAll_get->Qj4,of_hideAll->QkT,codeRec_of->QkU,specialIn->Qk4,kitx_list->Qk5,kitx_dict->Qk6,plainGet->QnP,takesIn->QnW,hideAll->QnX,typeIn->Qp2,looks_findIn->Qr7,WalkO->Qsd,Looks->Qse
open PySem renaming PyData->Qb,Program->QC,FuncData->QP,Around->Q2,Expr->Q3,World->Ja,wpAny_holding->JL,wpAny_newObj_type->JQ,wpAny_call_entry->JW,wpAny_truthy_bool->Zc,wpAny_callSpecial?_slot->Zd,wpAny_setState_of->Zr,wpAny_field->ZI,IsTupleKey->ZL,wpAny_seqItems->ZY,wpAny_loadPart'->Z4,wpAny_askSetting->Yc,sizeLine_eq->Yh,Builtin->Yn,Stmt->Yt,Paired->Yu,Scope->YM,wpAny_setField_rec->YQ,wpAny_pyIter_tuple->YR,ReadsAll->YS,mem_of_lookup->Qac,Fin->Qan,wpAny_comprehension_free->Qau,wpAny_attempt->QaD,call_meets->QaW,NameKind->Qa0,codeAny_mono->Qa5,Reads->Qbf,wpAny_newFunctionEnv->Qbk,wpAny_passesOwn->QbF,wpAny_execs_nil->QbG,wpAny_typeOf->Qb2,wpAny_Call_Name_kw->Qb3,wpAny_setField->Qcj,wpAny_pyIter_enum->Qcv,Comprehension->QcR,wpAny_pyIter_zip->Qc6,wpAny_forIn_list->Qc7,wpAny_execs_cons->Qc8,codeAny_compStart_list->Qdh,exec_Assign_Name_used->QdY,builtinLookup_eq_fast->QdZ,Builtin->Qd2,Operator->Qed,wpAny_updateSeq_pair->Qeq,isSubtype_type->QeY,BindsTo->Qe7,wpAny_onRaise->QfD,wpAny_newList->QfE,CmpOp->QfK,wpAny_call->QgL,typeIs_int->QgM,IsPart->QhW,wpAny_isInstance->Qh1,noFill_tuple_add->Qh2,typeLookup_type->QjZ,codeAny_builtin->Qj1,Model->Qj6,wpAny_newFunctionEnv_cells->QkP,wpAny_letOwnedTupleGo_enum->QkQ,wpAny_newTuple->Qk1,wpAny_letOwnedTupleGo_zip->Qk2,wpAny_binaryOp_repeat_ref->Qk3,Result->QnO,seq_tuple_add->QnU,call->QnV,seqSlot_of->Qp1,wpAny_isTrue_Compare1->Qr4,wpAny_eqIsQuiet_tuple->Qr5,seqIndex_neg->Qr6,concat_meets->Qr9,codeAny_call_function->Qsa,IsZip->Qsl,wpAny_loadName_local->QuQ,codeAny_call_builtin->QuR,wpAny_setEntries_of->Qu4,wpAny_loadName_cell->Qu5,wpAny_letGo->Qu6,seqIndex_of->Qu7,wpAny_eqBool_tuple->QxW,wpAny_List_spliced->QxX,ZipApart->QxZ,Within->Qx0,wpAny_storeSet_of->Qyp,wpAny_sequenceKey->Qyq,wpAny_pyIter_slot->Qyr,wpAny_pyIter_list->Qys,wpAny_assign_Name->Qyt,wpAny_Return_some->Qyu,wpAny_Name->Qyv,slot_list_getitem->Qyw
open Array renaming length_toList->Qc,getElem?_toList->Q8,toList_append->Jy,getElem_toList->Za,getD->Zo,perm_iff_toList_perm->ZA,mem_toList_iff->ZK,getElem?_eq_none->ZV,getElem?_eq_some_iff->Z1,mem_of_getElem?->YD,getD_eq_getD_getElem?->YE,toList_extract->QaV,replicate->Qa7,getElem_setIfInBounds->Qa8,size_extract->Qbn,getElem?_eq_getElem->Qbs,toList_push->QbK,toList_inj->Qb6,toList_reverse->QcS,size_map->Qde,all_eq_true_iff_forall_mem->Qeg,toList_setIfInBounds->QgI,size_setIfInBounds->QhY,toList_filterMap->Qi4,forIn_toList->QnR,foldl_toList->QnS,toList_zip->Qra,toList_map->Qrb,toList->Qyc
open PySem.Heap renaming get?_push_of_some->Qd,lt_size->Qp,get?_push_size->QD,get?_update_self->ZH,size_push->ZN,get?_update_other->Yw,SameBut->YJ,IsTuple->QkX,FlyingW->QyK
open List renaming length_map->Qe,getElem?_eq_getElem->Qf,getD_eq_getElem?_getD->Qi,range->Qq,size_toArray->Qr,mem_cons->Qv,length_append->Qw,length_cons->Qy,getElem?_map->Qz,mem_of_getElem?->QK,mem_map->QL,getElem?_eq_some_iff->QM,length_range->QN,mem_range->QV,mem_iff_getElem?->QZ,mem_append_right->Q0,replicate->Q1,append_assoc->Q5,not_mem_nil->Q6,mem_cons_of_mem->Q7,map_cons->Jd,getElem?_append_right->Ji,mem_singleton->Jj,take_append_drop->Jn,map_map->Jo,lookup_cons->Jq,length_take->Jr,mem_append->Js,append_nil->Jt,pairwise_iff_getElem->Jx,pairwise_append->JH,mem_cons_self->JM,getElem?_eq_none->JR,map_congr_left->J5,all_eq_true->Zi,getElem?_range->Zn,mem_filterMap->Zs,map_append->Zu,filterMap_cons->ZC,getElem?_append_left->ZD,filterMap_append->ZG,take_length->ZJ,take_add_one->ZO,toList_toArray->ZS,replicate_succ->ZT,mem_filter->ZU,toArray->Z5,perm_append_comm->Z6,drop_zero->Ya,length_set->Yg,getElem?_cons_succ->Yk,length_drop->Yo,drop_of_length_le->Yv,getElem?_drop->Yy,nodup_cons->YI,flatten_cons->YT,mem_append_left->Y2,extract_eq_take_drop->Y9,drop_eq_getElem_cons->Qaa,mem_flatMap->Qae,getElem_mem->Qaf,range_succ->Qap,mapM_toArray->Qaz,ext_getElem?->QaA,mem_of_mem_drop->QaX,getElem?_set_ne->QaY,nil_append->Qbd,map_id->Qbe,map_filterMap->Qbq,filterMap_map->Qbr,getLastD_eq_getLast?->QbA,length_eq_zero_iff->Qb4,getElem?_replicate->Qb5,nodup_range->Qcl,mem_toArray->Qcm,getElem_map->Qcn,take_of_length_le->Qco,range_succ_eq_map->Qcp,getElem?_set_self->Qcq,zipWith->QcH,of_mem_zip->QcI,length_replicate->QcJ,length_nil->QcK,foldl_cons->QcL,mem_of_mem_take->Qdc,mem_iff_getElem->Qdd,take_take->Qdj,length_zipWith->QdI,flatMap_append->QdJ,zip_cons_cons->Qee,getElem?_take->Qef,flatMap_cons->QeZ,map_nil->Qe5,zipIdx_cons->Qfd,ext_getElem->Qfe,lookup->QgE,length->QgF,forIn_cons->QgG,perm_ext_iff_of_nodup->QgT,drop_drop->QhV,length_filterMap_le->Qh4,getElem?_take_of_lt->Qh5,foldl->Qh6,getElem?_cons_zero->Qi0,filter_cons_of_pos->Qi1,filter_cons_of_neg->Qi2,length_filter_le->QkW,getLast?_append->Qla,pairwise_cons->QnZ,getElem_range->Qn0,find?_eq_none->Qn1,take_sublist->Qp4,reverse_cons->Qp5,nodup_append->Qp6,getElem?_set->Qp7,perm_middle->Qsg,map_zipWith->Qsh,map_snd_zip->Qsi,map_flatMap->Qsj,flatMap_map->Qsk,zipIdx_nil->QuV,find?_some->QuW,take_zero->Qvd,nodup_nil->Qve,forIn_nil->Qvf,filterMap->Qvg,take_nil->Qx2,drop_nil->Qx3,any_cons->Qx4,all_cons->Qx5
open PySem.PyData renaming int->Qh,canLayAll0->Jc,depthAll->Jl,eqv->JD,tuple->Zm,canLay0->Qav,depth->Qbg,bool->Qda,list->QkV,eqvAll->QuT
open Nat renaming le_refl->Qj,zero_le->Qu,ne_of_lt->QF,lt_of_lt_of_le->QR,le_trans->Jb,zero_add->JU,lt_of_le_of_lt->Z7,le_of_lt->Z8,lt_irrefl->Ym,not_lt_zero->YN,lt_trichotomy->YX,lt_succ_of_lt->YY,ne_of_gt->QaJ,min_eq_left->Qbh,succ_pos->Qbz,add_zero->QcP,mod_lt->Qdb,sub_self->Qfb,mul_comm->Qfc,min_le_right->QfI,le_max_right->QfJ,succ_mul->Qk7,succ_add->Qk8,min_self->Qk9,add_sub_cancel->Qp3,le_of_lt_succ->Qsf,le_add_right->QuU,min_le_left->Qvc
open PyProof.Rows renaming wpS_bind->Ql,wpS_pure->Qm,SortSt->JX,wpS_forRange->JZ,slot_tuple_getitem->J3,callWith_type1->Zl,SortKind->Yd,wpS_mono->Yx,wpS_modify->Qat,listUpdate_at->Qbo,get?_update_seq->QbH,wpS_get->Qci,seqEpoch_at->QcM,AllBare->Qd3,wpS_lift->Qec,oneTypeOnly'_eq->Qj0,subscriptTail_builtinR->QpY,listItems_at->Qr8,getElem?_mirror_all->Qu8,entry_tuple_getitem->Qu9,args_tuple_getitem->QxY
open Bool renaming and_eq_true_iff->Qs,false_ne_true->QJ,and_eq_true->JS,false_eq_true->Zw,eq_iff_iff->Qaq,or_eq_true_iff->QdN,not_eq_true'->Qe0,true_and->Qi3,or_eq_true->QuX,not_true->Qyb
open Option.some renaming inj->QB
open PySem.Value renaming ref->QQ,none->JI,type->Z2,bool->Z3,builtin->Qd0,int->QfF,notImplemented->QkR,str->Qsb,float->Qyy
open PySem.SetTable renaming bits->Jg,runEnd->Jk,turns->Jw,below->JJ,Probe->Zb,insertAt->Zy,leap->Yf,advance->YW,laid->QaF,fresh->Qbc,layClean->Qbl,fits->Qby,slot->Qc9,toList_insertAt->QfG,fill->QgD,has->QhT,sizeAbove->Qj2
open PySem.NameKind renaming free->Jh,cell->YC
open Or renaming inl->Jp,inr->JF
open PySem.SetTable.layClean renaming free->Ju
open PySem.SetTable.probe renaming go->Jz
open False renaming elim->JE
open PySem.Builtin.SmallTypes renaming nextOf->JK,ownedTupleIsFree->ZE,ownedTupleHandOut->Qbi
open ForInStep renaming yield->JY,done->Qa6
open PySem.Obj renaming mapSeq->J4,data_mapFields->YB,isFreed_of_fields->QcO,cls_mapFields->Qe4,putSet->QiZ,mapFields->Qj5
open Classical renaming byContradiction->J8
open PySem.Heap.SameBut renaming update->Zv
open PySem.Builtin.Int renaming intBits->Zx,intTooBig->QfL
open Option renaming map_eq_some_iff->Zz,isSome_iff_exists->QgS,getD_none->QnY,guard->Qvb,none->Qx1
open Int renaming toNat_natCast->ZR,le_trans->QcQ,mul_assoc->Qj8,emod_lt_of_pos->Qp8,le_antisymm->Qvh,emod_nonneg->Qvi
open List.Perm renaming refl->Z0,append_left->Yp,append_right->Qam,trans->QaK,swap->Qe6,eq_of_pairwise->Qff
open PySem.Builtin.Slice renaming slicePlaces->Yz,sliceAdjust->QaL,sliceApplied->QdL,slicePartIndex->QyQ,sliceFields->QyR
open PySem.Builtin.Tuple renaming tupleExact->YK,tupleItemsOf->QdK,tupleTooMany->QyN,tupleIsExact->QyO,tupleCompareSizes->QyP
open PySem.Builtin.List renaming listTooLong->YO,listExtendWith->QdM,listSameRef->Qer
open PySem.F renaming slot_tuple_iterator_next->Qab,args_tuple_add_2->Qbp,entry_tuple_add->QbI,slot_tuple_add->QbM,slot_tuple_lt->Qck,slot_zip_next->Qdk,slot_int_rmul->Qdl,excBase_ValueError->Qfa,plainAttrs_list->QgQ,args_tuple_lt_2->QgR,slot_tuple_mul->QgU,entry_tuple_lt->QhU,args_tuple_iterator_next_1->QhX,slot_set_iter->Qh3,entry_tuple_iterator_next->Qh7,excAttr_ValueError->Qp9,slot_tuple_rmul->Qvj,plain_list_iadd->Qvk,args_zip_next_1->Qvl,args_int_rmul_2->Qvm,slot_int_index->Qx8,entry_zip_next->Qx9,entry_int_rmul->Qya,fills_int_mul->QyL
open PySem.PassesOwn renaming never->Qad
open PySem.Str renaming ofString->Qal
open PySem.SetTable.below renaming go->QaT
open PySem.SeqAt.Reads renaming unique->QaU
open PySem.Challenge renaming rw_rooklands_k65_no_stairs->QaZ,pw_rooklands_k65_no_stairs->Qva
open Ne renaming symm->Qbm
open List.Pairwise renaming filter->QbJ,sublist->QyI,nil->QyJ
open True renaming intro->QcN
open Array.Perm renaming refl->Qeh
open PySem.SeqAt renaming eqAt_reads->Qe1
open PySem.Calls renaming Name_function_global->QgH,call_function_entry->QgV,evalArgs_plain->QkY,spliced_cons->QnQ,spliced_nil->Qn2
open Sum renaming inr->QgN,inl->QgO
open PySem.SeqAt.EqAt renaming bool_bool->QgP
open PyProof.Rows.IsTup renaming new->Qj7
open PySem.Around renaming under_plainId->Qj9
open PySem.Shared renaming heap->QkS,TypeIs->QuS
open String renaming splitOnAux->QnM,splitOn->Qsc
open PyProof.Rows.SortSt renaming mk'->QnN
open PySem.pickOrder renaming go->QpZ
open StateT renaming run_pure->Qp0
open PySem.Builtin.Frozenset renaming oneOther->Qsm
open And renaming intro->Qvn
open PySem.Heap.UpToSlots renaming of_keeps->Qx6
open PySem.Heap.IsSliceOf renaming new->Qx7
open PySem.W.WShape renaming has->Qyx
open PySem.W.Looks renaming of_pure->Qyz
open PySem.EqMixed renaming ne_str_int->QyA,ne_str_bool->QyB,ne_int_str->QyC,ne_bool_str->QyD,eq_str_int->QyE,eq_str_bool->QyF,eq_int_str->QyG,eq_bool_str->QyH
open PySem.CmpOp renaming NotIn->QyM
open PySem.Builtin.Range renaming rangeSize->QyS
open PySem PySem.Spec PyProof.Rows
set_option Elab.async false
set_option linter.all false
set_option maxRecDepth 100000
namespace L2
abbrev Key:=Sum Int Str
def Qxf:Key->Value->Bool
 |.inl k,v=>Value.isInt k v
 |.inr x,v=>Value.isStrOf x v
def QA6(w:Ja):Key->Int
 |.inl k=>hashInt k
 |.inr x=>hashStr w x
theorem Ye:∀{k:Key}{v:Value},Qxf k v=true->(∃i t,k=QgO i/\v=QfF i t)∨(∃x t,k=QgN x/\v=Qsb x t)
 |.inl i,v,h=>by
  obtain⟨t,e⟩:=Value.isInt_shape (k:=i) (v:=v) h;exact .inl ⟨i,t,rfl,e⟩
 |.inr x,v,h=>by
  obtain⟨t,e⟩:=Value.isStrOf_shape (x:=x) (v:=v) h;exact .inr ⟨x,t,rfl,e⟩
theorem Qxe(a b:Int):decide ((QgO a:Key)=QgO b)=(a == b):=by
 by_cases e:a=b
 ·subst e;simp
 ·have h:¬(QgO a:Key)=QgO b:=λq=>e (Sum.inl.inj q)
  rw[decide_eq_false h];exact(beq_eq_false_iff_ne.mpr e).symm
theorem Qxa(a b:Str):decide ((QgN a:Key)=QgN b)=decide (a=b):=by
 by_cases e:a=b
 ·subst e;simp
 ·have h:¬(QgN a:Key)=QgN b:=λq=>e (Sum.inr.inj q)
  rw[decide_eq_false h,decide_eq_false e]
theorem Qxd(a:Int)(b:Str):decide ((QgO a:Key)=QgN b)=false:=decide_eq_false (λq=>nomatch q)
theorem Qxb(a:Str)(b:Int):decide ((QgN a:Key)=QgO b)=false:=decide_eq_false (λq=>nomatch q)
def Qmu(prog:QC)(w:Ja):PySem.KeyKind prog w Key where
 is:=Qxf
 hash:=QA6 w
 inj:=λv a b ha hb=>by
  rcases Ye ha with⟨i,t,rfl,rfl⟩ | ⟨x,t,rfl,rfl⟩
  ·rcases Ye hb with⟨j,u,rfl,e⟩ | ⟨y,u,rfl,e⟩
   ·injection e with e1 _;rw[e1]
   ·exact nomatch e
  ·rcases Ye hb with⟨j,u,rfl,e⟩ | ⟨y,u,rfl,e⟩
   ·exact nomatch e
   ·injection e with e1 _;rw[e1]
 byValue:=λk v h=>by
  rcases Ye h with⟨i,t,rfl,rfl⟩ | ⟨x,t,rfl,rfl⟩<;>rfl
 pyHash:=λhv h=>by
  rcases Ye hv with⟨i,t,rfl,rfl⟩ | ⟨x,t,rfl,rfl⟩
  ·exact wpAny_pyHash_int h
  ·exact wpAny_pyHash_str h
 eqBool:=λhu hv h=>by
  rcases Ye hu with⟨i,t,rfl,rfl⟩ | ⟨x,t,rfl,rfl⟩
  ·rcases Ye hv with⟨j,u,rfl,rfl⟩ | ⟨y,u,rfl,rfl⟩
   ·rw[Qxe] at h;exact wpAny_eqBool_int h
   ·rw[Qxd] at h;exact SeqAt.EqAt.int_str i t y u _ _ _ _ h
  ·rcases Ye hv with⟨j,u,rfl,rfl⟩ | ⟨y,u,rfl,rfl⟩
   ·rw[Qxb] at h;exact SeqAt.EqAt.str_int x t j u _ _ _ _ h
   ·rw[Qxa] at h;exact wpAny_eqBool_str h
 «strs» := λk x t v h=>by
  rcases Ye h with⟨i,u,rfl,e⟩ | ⟨y,u,rfl,e⟩
  ·exact nomatch e
  ·injection e with e1 _
   subst e1;cases v<;>rfl
inductive V where
 |non | bl (b:Bool) | int (i:Int) | str (x:Str) | byt (b:Array UInt8) | flt (b:UInt64) | ref (a:Addr) | ty (n:String)
 deriving DecidableEq
def RelV:V->Value->Prop
 |.non,u=>u=JI
 |.bl b,u=>u=Z3 b
 |.int i,u=>∃t,u=QfF i t
 |.str x,u=>∃t,u=Qsb x t
 |.byt b,u=>∃t,u=Value.bytes b t
 |.flt b,u=>∃t,u=Qyy b t
 |.ref a,u=>u=QQ a
 |.ty n,u=>u=Z2 n
abbrev Vals:List V->List Value->Prop:=Yu RelV
theorem Vals.length{xs:List V}{us:List Value}(r:Vals xs us):xs.length=us.length:=Paired.length r
theorem Vals.get:∀{xs:List V}{us:List Value}{i:Nat}{x:V},Vals xs us->xs[i]? = some x->∃u,us[i]? = some u/\RelV x u
 |_,_,_,_,.nil,e=>by simp at e
 |_,_,0,_,.cons r _,e=>by simp at e;subst e;exact⟨_,rfl,r⟩
 |_,_,i+1,x,.cons _ t,e=>by
  obtain⟨u,h1,h2⟩:=Vals.get (i:=i) (x:=x) t (by simpa using e);exact⟨u,by simpa using h1,h2⟩
theorem Vals.set{x:V}{u:Value}(r:RelV x u):∀{xs:List V}{us:List Value}(i:Nat),Vals xs us->Vals (xs.set i x) (us.set i u)
 |_,_,_,.nil=>.nil
 |_,_,0,.cons _ t=>.cons r t
 |_,_,i+1,.cons q t=>.cons q (Vals.set r i t)
theorem Vals.append:∀{xs ys:List V}{us ws:List Value},Vals xs us->Vals ys ws->Vals (xs++ys) (us++ws)
 |_,_,_,_,.nil,s=>s
 |_,_,_,_,.cons r t,s=>.cons r (Vals.append t s)
theorem Vals.take:∀{xs:List V}{us:List Value}(n:Nat),Vals xs us->Vals (xs.take n) (us.take n)
 |_,_,0,_=>.nil
 |_,_,_+1,.nil=>.nil
 |_,_,n+1,.cons r t=>.cons r (Vals.take n t)
theorem Vals.drop:∀{xs:List V}{us:List Value}(n:Nat),Vals xs us->Vals (xs.drop n) (us.drop n)
 |_,_,0,r=>r
 |_,_,_+1,.nil=>.nil
 |_,_,n+1,.cons _ t=>Vals.drop n t
def QzS:Option V->Option Value->Prop
 |some v,some u=>RelV v u
 |none,none=>True
 |_,_=>False
def KV{κ:Type}:List (κ×V)->List (κ×Value)->Prop:=Yu λ(p:κ×V)(q:κ×Value)=>p.1=q.1/\RelV p.2 q.2
def kV:Key->V
 |.inl i=>.int i
 |.inr x=>.str x
inductive HO where
 /-- a list -/
 |lst (xs:List V)
 /-- a tuple (never changes) -/
 |tup (xs:List V)
 /-- a dict whose keys are ints and texts;one whose keys are tuples of ints and texts (the empty one is both) -/
 |dK (kvs:List (Key×V)) | dT (kvs:List (List Key×V))
 /-- a set of ints: its members,its size -/
 |set (S:Int->Bool) (n:Nat)
 /-- an instance of the class at C,its dict at dx,its attributes -/
 |ins (C dx:Addr) (fs:List (Str×V))
 /-- the dict of the instance at x -/
 |own (x:Addr)
 /-- the dict of an exception -/
 |xd (fs:List (Str×V))
 /-- a bound method,f of x -/
 |met (f x:Addr)
 /-- a range object lo,lo+1,.. below hi -/
 |rng (lo hi:Int)
 /-- a thing that is known to the object (the script;a dict while a loop walks it): read,never written while it is so -/
 |frz (o:Obj) (u:HO)
 /-- a code object's table -/
 |tbl (ps:Array Value)
 /-- any other thing,by what is true of its one object (a def of one's own: SetO a S n:=HO.ext λh=>..) -/
 |ext (φ:Heap->Prop)
abbrev Hp:=Addr->Option HO
def upd(H:Hp)(a:Addr)(o:HO):Hp:=λb=>if b=a then some o else H b
theorem JB{H:Hp}{a:Addr}{o:HO}:upd H a o a=some o:=by unfold upd;rw[if_pos rfl]
theorem JG{H:Hp}{a b:Addr}{o:HO}(h:b≠a):upd H a o b=H b:=by unfold upd;rw[if_neg h]
theorem Zp{H:Hp}{a b:Addr}{o:HO}(h:H a=some o)(h':H b=none):a≠b:=by
 intro e;subst e;rw[h] at h';cases h'
section
variable(P:QC)(w:Ja)
def ObjOk(H:Hp)(h:Heap)(a:Addr):HO->Prop
 |.lst xs=>xs.length<=sizeLine/\∃(its:List Value)(n:Nat),Vals xs its/\h.get? a=some { cls:=.type "list",data:=.seq its.toArray n }
 |.tup xs=>xs.length<=sizeLine/\∃its:List Value,Vals xs its/\IsTup h a its.toArray
 |.dK kvs=>kvs.length<=sizeLine/\(a == sysModules)=false/\∃vs,KV kvs vs/\h.DictOf (Qmu P w) a vs
 |.dT kvs=>kvs.length<=sizeLine/\(a == sysModules)=false/\∃xs:List (List Key×Addr×Value),
   Yu (λ(p:List Key×V)(q:List Key×Addr×Value)=>p.1=q.1/\H q.2.1=some (.tup (p.1.map kV))/\RelV p.2 q.2.2) kvs xs /\
   ∃o es ep,h.get? a=some o/\o.ExactDict/\o.data=.dict es ep/\es.toList=xs.map (entryOfKey (tupleKind (Qmu P w)))/\(xs.map (·.1)).Nodup
 |.set S n=>h.SetOf (intKind P w) a S n
 |.ins C dx fs=>H dx=some (.own a)/\fs.length<=1000/\dx≠a/\h.get? a=some (PySem.W.instObj C dx) /\
   ∃mA,h.Ns1 dx mA/\(∀f,QzS (fs.lookup f) (mA f))/\PySem.Within mA (fs.map (·.1))
 |.own _=>∃o,h.get? a=some o
 |.xd fs=>∃mA,h.Ns1 a mA/\∀f,QzS (fs.lookup f) (mA f)
 |.rng lo hi=>∃t u v,h.get? a=some { cls:=.type "range",data:=.fields #[.int lo t,.int hi u,.int 1 v] }
 |.frz o u=>h.get? a=some o/\ObjOk H h a u
 |.tbl ps=>h.get? a=some { cls:=.none,data:=.fields ps }
 |.met f x=>h.get? a=some (PySem.W.methodObj (.ref f) (.ref x))
 |.ext φ=>φ h/\(∃o,h.get? a=some o)/\∀h1 h2:Heap,φ h1->(∀o,h1.get? a=some o->h2.get? a=some o)->φ h2
def HOk(H:Hp)(h:Heap):Prop:=∀a o,H a=some o->ObjOk P w H h a o
end
section
variable{P:QC}{w:Ja}{H H':Hp}{h h':Heap}{a:Addr}{o:HO}
theorem ObjOk.lt(x:ObjOk P w H h a o):a<h.objs.size:=by
 cases o with
 |lst xs=>obtain⟨_,_,_,_,e⟩:=x;exact Qp e
 |tup xs=>obtain⟨_,_,_,p⟩:=x;exact p.lt
 |dK kvs=>obtain⟨_,_,_,_,o,_,_,e,_⟩:=x;exact Qp e
 |dT kvs=>obtain⟨_,_,_,_,o,_,_,e,_⟩:=x;exact Qp e
 |set S n=>obtain⟨o,_,_,_,e,_⟩:=x;exact Qp e
 |ins C dx fs=>obtain⟨_,_,_,e,_⟩:=x;exact Qp e
 |own y=>obtain⟨_,e⟩:=x;exact Qp e
 |xd fs=>obtain⟨_,⟨_,_,_,e,_⟩,_⟩:=x;exact Qp e
 |rng lo hi=>obtain⟨_,_,_,e⟩:=x;exact Qp e
 |frz ob u=>obtain⟨e,_⟩:=x;exact Qp e
 |tbl ps=>exact Qp (show h.get? a=some _ from x)
 |met f y=>exact Qp (show h.get? a=some _ from x)
 |ext φ=>obtain⟨_,⟨_,e⟩,_⟩:=x;exact Qp e
theorem Yu.mapP{α β:Type}{F G:α->β->Prop}:∀{l₁:List α}{l₂:List β},Yu F l₁ l₂->(∀a b,F a b->G a b)->Yu G l₁ l₂
 |_,_,.nil,_=>.nil
 |_,_,.cons r t,f=>.cons (f _ _ r) (Yu.mapP t f)
theorem ObjOk.stay(x:ObjOk P w H h a o)(k:∀b u,(b=a∨H b=some (.own a))->h.get? b=some u->h'.get? b=some u)
  (ho:∀b,H b=some (.own a)->H' b=some (.own a))(ht:∀b xs,H b=some (.tup xs)->H' b=some (.tup xs)):ObjOk P w H' h' a o:=by
 induction o with
 |lst xs=>obtain⟨z,its,n,r,e⟩:=x;exact⟨z,its,n,r,k _ _ (.inl rfl) e⟩
 |tup xs=>obtain⟨z,its,r,ob,e,c⟩:=x;exact⟨z,its,r,ob,k _ _ (.inl rfl) e,c⟩
 |dK kvs=>obtain⟨z,y,vs,r,ob,es,ep,e,c⟩:=x;exact⟨z,y,vs,r,ob,es,ep,k _ _ (.inl rfl) e,c⟩
 |dT kvs=>
  obtain⟨z,y,xs,r,ob,es,ep,e,c⟩:=x;exact⟨z,y,xs,Yu.mapP r λp q z=>⟨z.1,ht _ _ z.2.1,z.2.2⟩,ob,es,ep,k _ _ (.inl rfl) e,c⟩
 |set S n=>obtain⟨ob,es,ep,t,e,c⟩:=x;exact⟨ob,es,ep,t,k _ _ (.inl rfl) e,c⟩
 |ins C dx fs=>
  obtain⟨d,z,ne,e,mA,⟨od,es,ep,e2,c⟩,r⟩:=x;exact⟨ho _ d,z,ne,k _ _ (.inl rfl) e,mA,⟨od,es,ep,k _ _ (.inr d) e2,c⟩,r⟩
 |own y=>obtain⟨ob,e⟩:=x;exact⟨ob,k _ _ (.inl rfl) e⟩
 |xd fs=>obtain⟨mA,⟨od,es,ep,e,c⟩,r⟩:=x;exact⟨mA,⟨od,es,ep,k _ _ (.inl rfl) e,c⟩,r⟩
 |rng lo hi=>obtain⟨t,u,v,e⟩:=x;exact⟨t,u,v,k _ _ (.inl rfl) e⟩
 |frz ob u ih=>obtain⟨e,q⟩:=x;exact⟨k _ _ (.inl rfl) e,ih q⟩
 |tbl ps=>
  have e:h.get? a=some { cls:=.none,data:=.fields ps }:=x;show h'.get? a=some { cls:=.none,data:=.fields ps };exact k a _ (.inl rfl) e
 |met f y=>
  have e:h.get? a=some (PySem.W.methodObj (.ref f) (.ref y)):=x;show h'.get? a=some (PySem.W.methodObj (.ref f) (.ref y));exact k a _ (.inl rfl) e
 |ext φ=>obtain⟨p,⟨o,e⟩,st⟩:=x;exact⟨st _ _ p λo q=>k _ _ (.inl rfl) q,⟨o,k _ _ (.inl rfl) e⟩,st⟩
theorem HOk.lt(x:HOk P w H h)(e:H a=some o):a<h.objs.size:=(x a o e).lt
theorem HOk.fresh(x:HOk P w H h)(e:h.objs.size<=a):H a=none:=by
 cases q:H a with
 |none=>rfl
 |some u=>exact absurd (QR (x.lt q) e) (Ym _)
theorem HOk.kept(x:HOk P w H h)(k:∀b u,h.get? b=some u->h'.get? b=some u):HOk P w H h':=λa o e=>
 (x a o e).stay (λb u _ q=>k b u q) (λ_ q=>q) λ_ _ q=>q
theorem HOk.laid(x:HOk P w H h)(k:∀b u,h.get? b=some u->h'.get? b=some u)(hp:h.objs.size<=a)(new:ObjOk P w (upd H a o) h' a o):HOk P w (upd H a o) h':=λb u e=>by
 have hn:=x.fresh hp;by_cases hb:b=a
 ·subst hb;rw[JB] at e;cases e;exact new
 ·rw[JG hb] at e;exact(x b u e).stay (λc v _ q=>k c v q) (λc q=>by rw[JG (Zp q hn)];exact q) λc xs q=>by rw[JG (Zp q hn)];exact q
end
def Rd(H:Hp)(a:Addr)(u:HO):Prop:=H a=some u∨∃o,H a=some (.frz o u)
theorem Rd.ok{P:QC}{w:Ja}{H:Hp}{h:Heap}{a:Addr}{u:HO}(r:Rd H a u)(x:HOk P w H h):ObjOk P w H h a u:=by
 rcases r with r | ⟨o,r⟩
 ·exact x a u r
 ·obtain⟨_,q⟩:=x a _ r;exact q
def Mut:Option HO->Prop
 |some (.lst _)=>True
 |some (.dK _)=>True
 |some (.dT _)=>True
 |some (.set _ _)=>True
 |some (.ins _ _ _)=>True
 |some (.ext _)=>True
 |_=>False
section
variable{P:QC}{w:Ja}{H:Hp}{h h':Heap}{x e:Addr}{o':HO}
theorem HOk.write(ok:HOk P w H h)(mu:Mut (H x))(he:e=x∨H e=some (.own x))(k:∀b u,b≠e->h.get? b=some u->h'.get? b=some u)(heo:∃u,h'.get? e=some u)
  (new:ObjOk P w (upd H x o') h' x o'):HOk P w (upd H x o') h':=λb u q=>by
 have nown:∀c y,H c=some (.own y)->c≠x:=λc y r z=>by subst z;rw[r] at mu;exact mu
 have ntup:∀c xs,H c=some (.tup xs)->c≠x:=λc xs r z=>by subst z;rw[r] at mu;exact mu
 by_cases hb:b=x
 ·subst hb;rw[JB] at q;cases q;exact new
 ·rw[JG hb] at q;by_cases hbe:b=e
  ·have q':H b=some (.own x):=by
    rcases he with z | z
    ·exact absurd (hbe.trans z) hb
    ·rw[hbe];exact z
   rw[q] at q';cases q';obtain⟨v,hv⟩:=heo;exact⟨v,by rw[hbe];exact hv⟩
  ·refine(ok b u q).stay (λc v hc r=>k c v ?_ r) (λc r=>by rw[JG (nown c b r)];exact r) λc xs r=>by rw[JG (ntup c xs r)];exact r
   rcases hc with rfl | hc
   ·exact hbe
   ·rintro rfl;rcases he with z | z
    ·exact nown c b hc z
    ·rw[hc] at z;cases z;exact hb rfl
end
structure Un (fs ex:List Addr) (H H':Hp) (h h':Heap):Prop where
 keep:∀b o,h.get? b=some o->H b=none->b∉fs->b∉ex->h'.get? b=some o
 slot:∀b o,h.get? b=some o->H b=none->b∈fs->b∉ex->∃sl,h'.get? b=some { o with slots:=sl }
 free:∀b o,h.get? b=some o->H b=none->b∉ex->H' b=none
 there:∀b o,h.get? b=some o->b∉ex->∃o',h'.get? b=some o'
 tups:∀b xs,H b=some (.tup xs)->H' b=some (.tup xs)
 frzs:∀b o u,H b=some (.frz o u)->H' b=some (.frz o u)
 tbls:∀b ps,H b=some (.tbl ps)->∃more,H' b=some (.tbl (ps++more))
section
variable{fs fs' ex ex':List Addr}{H H1 H2:Hp}{h h1 h2 h':Heap}{a x e:Addr}{o:HO}
theorem Un.any(u:Un fs ex H H1 h h1){b:Addr}{ob:Obj}(q:h.get? b=some ob)(n:H b=none)(hx:b∉ex):∃sl,h1.get? b=some { ob with slots:=sl }:=by
 by_cases hb:b∈fs
 ·exact u.slot b ob q n hb hx
 ·exact⟨ob.slots,u.keep b ob q n hb hx⟩
theorem Un.kept(k:∀b u,h.get? b=some u->h'.get? b=some u):Un fs ex H H h h':=
 ⟨λb ob q _ _ _=>k b ob q,λb ob q _ _ _=>⟨ob.slots,k b ob q⟩,λ_ _ _ n _=>n,λb ob q _=>⟨ob,k b ob q⟩,λ_ _ q=>q,λ_ _ _ q=>q,λ_ ps q=>⟨#[],by rw[q];simp⟩⟩
theorem Un.refl:Un fs ex H H h h:=Un.kept λ_ _ q=>q
theorem Un.laid(k:∀b u,h.get? b=some u->h'.get? b=some u)(hp:h.objs.size<=a)(hn:H a=none):Un fs ex H (upd H a o) h h' where
 keep:=λb u q _ _ _=>k b u q
 slot:=λb u q _ _ _=>⟨u.slots,k b u q⟩
 free:=λb u q n _=>by rw[JG (QF (QR (Qp q) hp))];exact n
 there:=λb u q _=>⟨u,k b u q⟩
 tups:=λb xs q=>by rw[JG (Zp q hn)];exact q
 frzs:=λb u xs q=>by rw[JG (Zp q hn)];exact q
 tbls:=λb ps q=>⟨#[],by rw[JG (Zp q hn),q];simp⟩
theorem Un.write(mu:Mut (H x))(he:e=x∨H e=some (.own x))(k:∀b u,b≠e->h.get? b=some u->h'.get? b=some u)(heo:∃u,h'.get? e=some u):Un fs ex H (upd H x o) h h':=by
 have hx:∀b,H b=none->b≠x:=λb n z=>by subst z;rw[n] at mu;exact mu
 have hb:∀b,H b=none->b≠e:=λb n z=>by
  subst z;rcases he with r | r
  ·exact hx b n r
  ·rw[n] at r;cases r
 have hm:∀b u,H b=some u->¬Mut (some u)->b≠x:=λb u q nm z=>by subst z;rw[q] at mu;exact nm mu
 refine⟨λb u q n _ _=>k b u (hb b n) q,λb u q n _ _=>⟨u.slots,k b u (hb b n) q⟩,λb u q n _=>by rw[JG (hx b n)];exact n,λb u q _=>?_,
  λb xs q=>by rw[JG (hm b _ q λz=>z)];exact q,λb u xs q=>by rw[JG (hm b _ q λz=>z)];exact q,λb ps q=>⟨#[],by rw[JG (hm b _ q λz=>z),q];simp⟩⟩
 by_cases hbe:b=e
 ·subst hbe;exact heo
 ·exact⟨u,k b u hbe q⟩
end
def trk(h:Heap)(H:Hp):List Addr:=(Qq h.objs.size).filter λa=>(H a).isSome
def Qpz(h:Heap)(H:Hp):Heap:=PySem.W.hideAll h (trk h H)
theorem QmK(h:Heap)(H:Hp):(Qpz h H).objs.size=h.objs.size:=PySem.W.hideAll_size _ _
theorem Qpy{h:Heap}{H:Hp}{b:Addr}{o:Obj}(e:h.get? b=some o)(n:H b=none):(Qpz h H).get? b=some o:=
 PySem.W.hideAll_get _ e λhm=>by
  have q:(H b).isSome=true:=(ZU.mp hm).2;rw[n] at q;simp at q
theorem QtL{h:Heap}{H:Hp}{b:Addr}{o:Obj}(e:(Qpz h H).get? b=some o):h.get? b=some o/\H b=none:=by
 have e':h.get? b=some o:=PySem.W.of_hideAll (trk h H) e;refine⟨e',?_⟩;cases q:H b with
 |none=>rfl
 |some x=>
  have hm:b∈trk h H:=ZU.mpr ⟨QV.mpr (Qp e'),by simp[q]⟩;have z:(Qpz h H).get? b=none:=PySem.W.hideAll_none (trk h H) hm;rw[z] at e;cases e
def QuO(g h:Heap)(L:Addr):List (Addr×Obj):=(Qq h.objs.size).filterMap λa=>if a=L∨(g.get? a).isSome=true then none else(h.get? a).map λo=>(a,o)
def rest(g h:Heap)(L d:Addr):List (Addr×Obj):=(QuO g h L).filter λp=>decide (p.1≠d)
structure Mod (K:PySem.W.Frag) (mg:Str->Option Value) (base:Heap):Prop where
 kin:K.In base
 glob:base.Ns mainGlobals mg
 blt:∃mb,base.Ns builtinsNs mb/\∀x:Str,x ≠ "__name__" -> mb x=bootBuiltins x
 nolimit:base.NoLimit
structure Cx where
 prog:QC
 w:Ja
 K:PySem.W.Frag
 mg:Str->Option Value
 base:Heap
 A:Q2
 N:List Str
 s₀:Shared
 H₀:Hp
 env:Env
 outer:List Env
 stack:List Env
 ex:List Addr
 fn:Str->Bool
 calm:Bool
 pn:List (Addr×Obj)
 xe:Value->Shared->Prop
def frs(l:List Env):List Addr:=l.filterMap (·.frame)
abbrev Cx.fs (X:Cx):List Addr:=frs X.outer
def Vis(sc:YM)(x:Str):Prop:=sc.names.lookup x=some .local∨sc.names.lookup x=some .cell∨sc.names.lookup x=some .free
def Loc(sc:YM)(x:Str):Prop:=sc.names.lookup x=some .local∨sc.names.lookup x=some .cell
def Look(env:Env)(h:Heap)(m:Str->Option Value)(x:Str)(u:Value):Prop:=
 (env.kindOf x=some .local/\m x=some u)∨((env.kindOf x=some .cell∨env.kindOf x=some .free)/\∃c,env.cells.lookup x=some c/\h.IsCell c (some u))
structure Cx.Ok (X:Cx):Prop where
 mod:Mod X.K X.mg X.base
 kind:X.env.scope.kind=.function
 glob:X.env.globals=mainGlobals
 blt:X.env.builtins=builtinsNs
 above:X.s₀.heap.objs.size<=X.env.locals
 inj:∀x y c,X.env.cells.lookup x=some c->X.env.cells.lookup y=some c->x=y
 has:∀x,(X.env.kindOf x=some .cell∨X.env.kindOf x=some .free)->∃c,X.env.cells.lookup x=some c
 cab:∀x c,X.fn x=true->X.env.cells.lookup x=some c->X.s₀.heap.objs.size<=c
 hd:X.calm=true->X.A.handled=none
 frames:X.A.frames=some X.stack
 stk:X.stack=X.outer∨(X.stack=X.env::X.outer/\X.env.frame=some X.env.locals)
 exf:∀b∈X.ex,b≠X.env.locals/\∀x c,X.env.cells.lookup x=some c->c≠b
 bs:∀b o,X.base.get? b=some o->X.s₀.heap.get? b=some o/\X.H₀ b=none
 bsz:X.base.objs.size<=X.s₀.heap.objs.size
 noex:∀b o,X.base.get? b=some o->b∉X.ex
 exfs:∀b∈X.ex,b∉X.fs
 funs:X.s₀.heap.FunFrames X.base X.outer
 frf:∀b∈X.fs,X.H₀ b=none
structure Inv (X:Cx) (pins:List (Addr×Obj)) (σ:List (Option V)) (H:Hp) (s:Shared):Prop where
 ok:X.Ok
 os:s.os=X.s₀.os
 bare:Qd3 s.gens
 base:Un X.fs X.ex X.H₀ H X.s₀.heap s.heap
 loc:∃m,s.heap.Ns X.env.locals m/\∀(i:Nat)(x:Str)(v:V),X.N[i]? = some x->σ[i]? = some (some v)->Vis X.env.scope x->∃u,RelV v u/\Look X.env s.heap m x u
 cell:∀x c,X.env.cells.lookup x=some c->∃v,s.heap.IsCell c v
 free:H X.env.locals=none
 freeC:∀x c,X.env.cells.lookup x=some c->H c=none
 pin:∀p∈X.pn++pins,s.heap.get? p.1=some p.2/\H p.1=none/\p.1≠X.env.locals/\p.1∉X.fs/\∀v,p.2.data≠.cell v
 hok:HOk X.prog X.w H s.heap
 len:σ.length=X.N.length
section
variable{X:Cx}{pins:List (Addr×Obj)}{σ:List (Option V)}{H H':Hp}{s:Shared}{h':Heap}
theorem Cx.Ok.nofr(ok:X.Ok){b:Addr}{o:Obj}(e:X.base.get? b=some o):b∉X.fs:=λhb=>by
 have:=(ok.funs.mem hb).1;rw[e] at this;cases this
theorem Inv.bs(I:Inv X pins σ H s):∀b o,X.base.get? b=some o->s.heap.get? b=some o/\H b=none:=λb o e=>
 ⟨I.base.keep b o (I.ok.bs b o e).1 (I.ok.bs b o e).2 (I.ok.nofr e) (I.ok.noex b o e),I.base.free b o (I.ok.bs b o e).1 (I.ok.bs b o e).2 (I.ok.noex b o e)⟩
theorem Inv.bk(I:Inv X pins σ H s):∀b o,X.base.get? b=some o->s.heap.get? b=some o:=λb o e=>(I.bs b o e).1
theorem Inv.mod(I:Inv X pins σ H s):Mod X.K X.mg X.base:=I.ok.mod
theorem Inv.kIn(I:Inv X pins σ H s):X.K.In s.heap:=I.ok.mod.kin.keeps I.bk
theorem Inv.fr(I:Inv X pins σ H s):∃m,Fr X.base X.env.locals s.heap m:=
 let ⟨m,hn,_⟩:=I.loc
 ⟨m,hn,I.bk,Jb I.ok.bsz I.ok.above⟩
theorem Inv.lt(I:Inv X pins σ H s):X.env.locals<s.heap.objs.size:=let ⟨_,hn,_⟩:=I.loc;hn.lt
theorem Inv.sz(I:Inv X pins σ H s):X.s₀.heap.objs.size<=s.heap.objs.size:=Jb I.ok.above (Z8 I.lt)
theorem Inv.nofs(I:Inv X pins σ H s){a:Addr}(h:s.heap.objs.size<=a):a∉X.fs:=λhb=>by
 obtain⟨_,o,ho,_⟩:=I.ok.funs.mem hb;exact absurd (QR (Qp ho) (Jb I.sz h)) (Ym _)
theorem Inv.cne(I:Inv X pins σ H s):∀x c,X.env.cells.lookup x=some c->c≠X.env.locals:=λx c e z=>by
 obtain⟨v,o,ho,hd⟩:=I.cell x c e;obtain⟨m,⟨o',es,ep,ho',hd',_⟩,_⟩:=I.loc;rw[z,ho'] at ho;cases ho;rw[hd'] at hd;cases hd
theorem Inv.funs(I:Inv X pins σ H s):s.heap.FunFrames X.base X.outer:=by
 have all:∀(l:List Env),(∀b∈frs l,b∈X.fs)->X.s₀.heap.FunFrames X.base l->s.heap.FunFrames X.base l:=by
  intro l;induction l with
  |nil=>intro _ _;trivial
  |cons env r ih=>
   intro hs hl;obtain⟨hk,⟨L,o,hf,hn,ho,hd⟩,hr⟩:=hl;have hL:L∈X.fs:=hs L (by unfold frs;rw[ZC,hf];exact JM);obtain⟨sl,e⟩:=I.base.slot L o ho (I.ok.frf L hL) hL λz=>I.ok.exfs L z hL
   exact⟨hk,⟨L,_,hf,hn,e,hd⟩,ih (λb hb=>hs b (by unfold frs;rw[ZC,hf];exact Q7 _ hb)) hr⟩
 exact all X.outer (λ_ hb=>hb) I.ok.funs
theorem Inv.stack(I:Inv X pins σ H s):s.heap.FunFrames X.base X.stack:=by
 rcases I.ok.stk with e | ⟨e,hf⟩
 ·rw[e];exact I.funs
 ·rw[e];obtain⟨m,hn,_⟩:=I.loc;refine .cons (by rw[I.ok.kind];decide) hf hn ?_ I.funs
  exact Heap.get?_none_of_le (Jb I.ok.bsz I.ok.above)
theorem Inv.stkSub(I:Inv X pins σ H s):∀b∈frs X.stack,b∈X.env.locals::X.fs:=λb hb=>by
 rcases I.ok.stk with e | ⟨e,hf⟩
 ·rw[e] at hb;exact Q7 _ hb
 ·rw[e] at hb;unfold frs at hb;rw[ZC,hf] at hb;exact hb
theorem Inv.stkFree(I:Inv X pins σ H s):∀b∈frs X.stack,H b=none:=λb hb=>by
 rcases Qv.mp (I.stkSub b hb) with e | hb
 ·rw[e];exact I.free
 ·obtain⟨_,o,ho,_⟩:=I.ok.funs.mem hb;exact I.base.free b o ho (I.ok.frf b hb) λz=>I.ok.exfs b z hb
theorem Inv.step{g':Array GenState}{t':Nat}{d':Drawn}{ch:List Addr}(I:Inv X pins σ H s)
  (hch:∀b∈ch,(b∈X.ex∨X.s₀.heap.objs.size<=b)/\b≠X.env.locals/\(∀x c,X.env.cells.lookup x=some c->c≠b)/\∀p∈X.pn++pins,p.1≠b)
  (keep:∀b o,b≠X.env.locals->b∉X.fs->b∉ch->s.heap.get? b=some o->H b=none->h'.get? b=some o)
  (slot:∀b o,b≠X.env.locals->b∈X.fs->b∉ch->s.heap.get? b=some o->H b=none->∃sl,h'.get? b=some { o with slots:=sl })(free:∀b o,b∉ch->s.heap.get? b=some o->H b=none->H' b=none)
  (there:∀b o,b∉ch->s.heap.get? b=some o->∃o',h'.get? b=some o')
  (tups:∀b xs,H b=some (.tup xs)->H' b=some (.tup xs))(frzs:∀b o u,H b=some (.frz o u)->H' b=some (.frz o u))(tbls:∀b ps,H b=some (.tbl ps)->∃more,H' b=some (.tbl (ps++more)))
  (ns:∀m,s.heap.Ns X.env.locals m->h'.Ns X.env.locals m)(hok:HOk X.prog X.w H' h')(hg:Qd3 g') :
  Inv X pins σ H' { s with heap:=h',gens:=g',drawn:=d',toks:=t' }:=by
 have neL:∀b o,X.s₀.heap.get? b=some o->b≠X.env.locals:=λb o e=>QF (QR (Qp e) I.ok.above)
 have neC:∀b o,X.s₀.heap.get? b=some o->b∉X.ex->b∉ch:=λb o e hx hb=>by
  rcases(hch b hb).1 with z | z
  ·exact hx z
  ·exact absurd (QR (Qp e) z) (Ym _)
 have cellK:∀x c,X.env.cells.lookup x=some c->∀v,s.heap.IsCell c v->h'.IsCell c v:=λx c e v ⟨o,ho,hd⟩=>by
  have nch:c∉ch:=λz=>(hch c z).2.2.1 x c e rfl
  by_cases hc:c∈X.fs
  ·obtain⟨sl,q⟩:=slot c o (I.cne x c e) hc nch ho (I.freeC x c e);exact⟨_,q,hd⟩
  ·exact⟨o,keep c o (I.cne x c e) hc nch ho (I.freeC x c e),hd⟩
 refine⟨I.ok,I.os,hg,⟨λb o e n hb hx=>?_,λb o e n hb hx=>?_,λb o e n hx=>?_,λb o e hx=>?_,λb xs e=>tups b xs (I.base.tups b xs e),λb o xs e=>frzs b o xs (I.base.frzs b o xs e),λb ps e=>?_⟩,?_,λx c e=>?_,?_,λx c e=>?_,λp hp=>?_,hok,I.len⟩
 ·exact keep b o (neL b o e) hb (neC b o e hx) (I.base.keep b o e n hb hx) (I.base.free b o e n hx)
 ·obtain⟨sl,e1⟩:=I.base.slot b o e n hb hx;obtain⟨sl',e2⟩:=slot b _ (neL b o e) hb (neC b o e hx) e1 (I.base.free b o e n hx);exact⟨sl',e2⟩
 ·obtain⟨o',e1⟩:=I.base.there b o e hx;exact free b o' (neC b o e hx) e1 (I.base.free b o e n hx)
 ·obtain⟨o',e1⟩:=I.base.there b o e hx;exact there b o' (neC b o e hx) e1
 ·obtain⟨m1,e1⟩:=I.base.tbls b ps e;obtain⟨m2,e2⟩:=tbls b _ e1;exact⟨m1++m2,by rw[e2,Array.append_assoc]⟩
 ·obtain⟨m,hn,hl⟩:=I.loc;refine⟨m,ns m hn,λi x v e1 e2 e3=>?_⟩;obtain⟨u,r,l⟩:=hl i x v e1 e2 e3;refine⟨u,r,?_⟩;rcases l with l | ⟨k,c,e,z⟩
  ·exact .inl l
  ·exact .inr ⟨k,c,e,cellK x c e _ z⟩
 ·obtain⟨v,z⟩:=I.cell x c e;exact⟨v,cellK x c e v z⟩
 ·obtain⟨m,⟨o,_,_,ho,_⟩,_⟩:=I.loc;exact free _ o (λz=>(hch _ z).2.1 rfl) ho I.free
 ·obtain⟨v,o,ho,hd⟩:=I.cell x c e;exact free c o (λz=>(hch c z).2.2.1 x c e rfl) ho (I.freeC x c e)
 ·obtain⟨e,n,ne,nf,d⟩:=I.pin p hp;have nch:p.1∉ch:=λz=>(hch p.1 z).2.2.2 p hp rfl
  exact⟨keep p.1 p.2 ne nf nch e n,free p.1 p.2 nch e n,ne,nf,d⟩
theorem Inv.un{t':Nat}(I:Inv X pins σ H s)(u:Un X.fs [] H H' s.heap h')(hok:HOk X.prog X.w H' h'):Inv X pins σ H' { s with heap:=h',toks:=t' }:=by
 obtain⟨m,⟨o,es,ep,ho,r⟩,_⟩:=id I.loc;obtain⟨sl,hL⟩:=u.any ho I.free (by simp);exact I.step (g':=s.gens) (d':=s.drawn) (ch:=[]) (λ_ z=>nomatch z) (λb o _ hb _ e n=>u.keep b o e n hb (by simp)) (λb o _ hb _ e n=>u.slot b o e n hb (by simp)) (λb o _ e n=>u.free b o e n (by simp)) (λb o _ e=>u.there b o e (by simp)) u.tups u.frzs u.tbls (λm' hm=>by
  obtain⟨o',es',ep',ho',r'⟩:=hm;rw[ho] at ho';cases ho';exact⟨_,es',ep',hL,r'⟩) hok I.bare
theorem Inv.call{g':Array GenState}{t':Nat}{d':Drawn}{ch:List Addr}(I:Inv X pins σ H s)(u:Un (frs X.stack) ch H H' s.heap h')(hok:HOk X.prog X.w H' h')(hg:Qd3 g')
  (hch:∀b∈ch,(b∈X.ex∨X.s₀.heap.objs.size<=b)/\b≠X.env.locals/\(∀x c,X.env.cells.lookup x=some c->c≠b)/\∀p∈X.pn++pins,p.1≠b) :
  Inv X pins σ H' { s with heap:=h',gens:=g',drawn:=d',toks:=t' }:=by
 obtain⟨m,⟨o,es,ep,ho,r⟩,_⟩:=id I.loc;obtain⟨sl,hL⟩:=u.any ho I.free λz=>(hch _ z).2.1 rfl
 exact I.step (ch:=ch) hch (λb o hL hb hc e n=>u.keep b o e n (λz=>(Qv.mp (I.stkSub b z)).elim hL hb) hc) (λb o _ _ hc e n=>u.any e n hc) (λb o hc e n=>u.free b o e n hc) (λb o hc e=>u.there b o e hc) u.tups u.frzs u.tbls (λm' hm=>by
  obtain⟨o',es',ep',ho',r'⟩:=hm;rw[ho] at ho';cases ho';exact⟨_,es',ep',hL,r'⟩) hok hg
theorem Inv.turned{t':Nat}{it:Addr}(I:Inv X pins σ H s)(k:∀b o,b≠it->s.heap.get? b=some o->h'.get? b=some o)(hn:H it=none)(hL:it≠X.env.locals)
  (h1:it∈X.ex∨X.s₀.heap.objs.size<=it)(h2:∀x c,X.env.cells.lookup x=some c->c≠it)(h3:∀p∈X.pn++pins,p.1≠it):Inv X pins σ H { s with heap:=h',toks:=t' }:=by
 have nit:∀b u,H b=some u->b≠it:=λb u e z=>by rw[z,hn] at e;cases e
 refine I.step (g':=s.gens) (d':=s.drawn) (ch:=[it]) (λb hb=>?_) (λb o _ _ hc e _=>k b o (λz=>hc (by simp[z])) e) (λb o _ _ hc e _=>⟨o.slots,k b o (λz=>hc (by simp[z])) e⟩) (λ_ _ _ _ n=>n)
  (λb o hc e=>⟨o,k b o (λz=>hc (by simp[z])) e⟩) (λ_ _ e=>e) (λ_ _ _ e=>e) (λb ps e=>⟨#[],by rw[e];simp⟩) (λm hm=>?_) (λb u e=>?_) I.bare
 ·have e:b=it:=by simpa using hb
  subst e;exact⟨h1,hL,h2,h3⟩
 ·obtain⟨o,es,ep,ho,r⟩:=hm;exact⟨o,es,ep,k _ o (Qbm hL) ho,r⟩
 ·refine(I.hok b u e).stay (λc v hc q=>k c v ?_ q) (λ_ q=>q) λ_ _ q=>q
  rcases hc with z | z
  ·rw[z];exact nit b u e
  ·exact nit c _ z
theorem Inv.tok(I:Inv X pins σ H s)(t:Nat):Inv X pins σ H { s with toks:=t }:=I.un (h':=s.heap) (t':=t) Un.refl I.hok
theorem Inv.kept{t':Nat}(I:Inv X pins σ H s)(k:∀b u,s.heap.get? b=some u->h'.get? b=some u):Inv X pins σ H { s with heap:=h',toks:=t' }:=I.un (Un.kept k) (I.hok.kept k)
theorem Inv.laid{a:Addr}{o:HO}{t':Nat}(I:Inv X pins σ H s)(k:∀b u,s.heap.get? b=some u->h'.get? b=some u)(hp:s.heap.objs.size<=a)(new:ObjOk X.prog X.w (upd H a o) h' a o) :
  Inv X pins σ (upd H a o) { s with heap:=h',toks:=t' }:=I.un (Un.laid k hp (I.hok.fresh hp)) (I.hok.laid k hp new)
theorem Inv.write{x e:Addr}{o:HO}{t':Nat}(I:Inv X pins σ H s)(mu:Mut (H x))(he:e=x∨H e=some (.own x))(k:∀b u,b≠e->s.heap.get? b=some u->h'.get? b=some u)(heo:∃u,h'.get? e=some u)
  (new:ObjOk X.prog X.w (upd H x o) h' x o):Inv X pins σ (upd H x o) { s with heap:=h',toks:=t' }:=I.un (Un.write mu he k heo) (I.hok.write mu he k heo new)
theorem Inv.weak{σ':List (Option V)}(I:Inv X pins σ H s)(hl:σ'.length=σ.length)(w:∀(i:Nat) v,σ'[i]? = some (some v)->σ[i]? = some (some v)):Inv X pins σ' H s:=
 ⟨I.ok,I.os,I.bare,I.base,let ⟨m,hn,hl'⟩:=I.loc;⟨m,hn,λi x v e1 e2 e3=>hl' i x v e1 (w i v e2) e3⟩,I.cell,I.free,I.freeC,I.pin,I.hok,hl.trans I.len⟩
theorem Inv.pins_of{pins':List (Addr×Obj)}(I:Inv X pins σ H s)(h:∀p∈pins',s.heap.get? p.1=some p.2/\H p.1=none/\p.1≠X.env.locals/\p.1∉X.fs/\∀v,p.2.data≠.cell v):Inv X pins' σ H s:=
 ⟨I.ok,I.os,I.bare,I.base,I.loc,I.cell,I.free,I.freeC,λp hp=>(Js.mp hp).elim (λz=>I.pin p (Y2 _ z)) (h p),I.hok,I.len⟩
theorem Qgf{N:List Str}(hN:N.Nodup){i j:Nat}{x:Str}(a:N[i]? = some x)(b:N[j]? = some x):i=j:=by
 obtain⟨h1,e1⟩:=QM.mp a;obtain⟨h2,e2⟩:=QM.mp b;exact(List.getElem_inj hN).mp (e1.trans e2.symm)
theorem Qg1{M:Qj6}{A:Q2}{E:Value->Shared->Prop}{i:Nat}{x:Str}{v:V}{u:Value}{Q:Unit->Shared->Prop}(I:Inv X pins σ H s)(hN:X.N.Nodup)(hi:X.N[i]? = some x)(hx:Loc X.env.scope x)(r:RelV v u)
  (h:∀s',Inv X pins (σ.set i (some v)) H s'->(∃a,YJ a s.heap s'.heap/\(a=X.env.locals∨X.env.cells.lookup x=some a))->Q () s')(hf:X.fn x=true∨X.env.scope.names.lookup x=some .local:=by first | exact .inl rfl | exact .inr rfl | assumption):wpAny M A (storeName X.env x u) Q E s:=by
 obtain⟨m,hn,hl⟩:=id I.loc;have hcls:(X.env.scope.kind == .class||(X.env.scope.kind == .module&&X.env.locals != X.env.globals))=false:=by rw[I.ok.kind];rfl
 have hiσ:i < σ.length:=by rw[I.len];exact(QM.mp hi).1
 have cne:=I.cne;have tracked:∀{a:Addr}{h':Heap},(∃o,s.heap.get? a=some o/\H a=none)->YJ a s.heap h'->HOk X.prog X.w H h':=λ{a h'} ha hs b ob e=>by
  obtain⟨_,_,hfree⟩:=ha;refine(I.hok b ob e).stay (λc w' hc q=>(hs.2 c ?_).trans q) (λ_ q=>q) λ_ _ q=>q
  rintro rfl;rcases hc with rfl | hc
  ·rw[hfree] at e;cases e
  ·rw[hfree] at hc;cases hc
 rcases hx with hk | hk
 ·refine wpAny_storeName_local hk hn (λh' hn' hs=>?_) hcls;obtain⟨oL,_,_,hoL,_⟩:=id hn;refine h _ ⟨I.ok,I.os,I.bare,⟨λb o e n hb hx=>?_,λb o e n hb hx=>?_,I.base.free,λb o e hx=>?_,I.base.tups,I.base.frzs,I.base.tbls⟩,⟨_,hn',λj y v' e1 e2 e3=>?_⟩,λy c e=>?_,I.free,I.freeC,λp hp=>?_,tracked ⟨oL,hoL,I.free⟩ hs,by simpa using I.len⟩ ⟨_,hs,.inl rfl⟩
  ·exact(hs.2 b (QF (QR (Qp e) I.ok.above))).trans (I.base.keep b o e n hb hx)
  ·obtain⟨sl,e1⟩:=I.base.slot b o e n hb hx;exact⟨sl,(hs.2 b (QF (QR (Qp e) I.ok.above))).trans e1⟩
  ·obtain⟨o',e1⟩:=I.base.there b o e hx;exact⟨o',(hs.2 b (QF (QR (Qp e) I.ok.above))).trans e1⟩
  ·by_cases hj:j=i
   ·subst hj;rw[hi] at e1;cases e1;rw[Qcq hiσ] at e2;cases e2;exact⟨u,r,.inl ⟨hk,by simp⟩⟩
   ·rw[QaY (Qbm hj)] at e2;obtain⟨u',r',q⟩:=hl j y v' e1 e2 e3;refine⟨u',r',?_⟩;rcases q with⟨k,e⟩ | ⟨k,c,e,z⟩
    ·refine .inl ⟨k,?_⟩;have:y≠x:=λe=>hj (Qgf hN e1 (e ▸ hi))
     simp[this,e]
    ·exact .inr ⟨k,c,e,z.sameBut hs (cne y c e)⟩
  ·obtain⟨w',z⟩:=I.cell y c e;exact⟨w',z.sameBut hs (cne y c e)⟩
  ·obtain⟨e,n,ne,nf,d⟩:=I.pin p hp;exact⟨(hs.2 p.1 ne).trans e,n,ne,nf,d⟩
 ·have hfn:X.fn x=true:=by
   rcases hf with z | z
   ·exact z
   ·rw[z] at hk;cases hk
  obtain⟨c,hc⟩:=I.ok.has x (.inl hk);obtain⟨w',z⟩:=I.cell x c hc;refine wpAny_storeName_cell I.ok.kind hk hc z (λh' hc' hs=>?_);obtain⟨oc,hoc,hocd⟩:=id z;refine h { s with heap:=h' } ⟨I.ok,I.os,I.bare,⟨λb o e n hb hx=>?_,λb o e n hb hx=>?_,I.base.free,λb o e hx=>?_,I.base.tups,I.base.frzs,I.base.tbls⟩,⟨m,hn.sameBut hs (Qbm (cne x c hc)),λj y v' e1 e2 e3=>?_⟩,λy c' e=>?_,I.free,I.freeC,λp hp=>?_,tracked ⟨oc,hoc,I.freeC x c hc⟩ hs,by simpa using I.len⟩ ⟨c,hs,.inr hc⟩
  ·exact(hs.2 b (QF (QR (Qp e) (I.ok.cab x c hfn hc)))).trans (I.base.keep b o e n hb hx)
  ·obtain⟨sl,e1⟩:=I.base.slot b o e n hb hx;exact⟨sl,(hs.2 b (QF (QR (Qp e) (I.ok.cab x c hfn hc)))).trans e1⟩
  ·obtain⟨o',e1⟩:=I.base.there b o e hx;exact⟨o',(hs.2 b (QF (QR (Qp e) (I.ok.cab x c hfn hc)))).trans e1⟩
  ·by_cases hj:j=i
   ·subst hj;rw[hi] at e1;cases e1;rw[Qcq hiσ] at e2;cases e2;exact⟨u,r,.inr ⟨.inl hk,c,hc,hc'⟩⟩
   ·rw[QaY (Qbm hj)] at e2;obtain⟨u',r',q⟩:=hl j y v' e1 e2 e3;refine⟨u',r',?_⟩;rcases q with q | ⟨k,c',e,z'⟩
    ·exact .inl q
    ·refine .inr ⟨k,c',e,z'.sameBut hs ?_⟩;rintro rfl;exact hj (Qgf hN e1 (I.ok.inj _ _ _ e hc ▸ hi))
  ·by_cases hcc:c'=c
   ·subst hcc;exact⟨_,hc'⟩
   ·obtain⟨w2,z2⟩:=I.cell y c' e;exact⟨w2,z2.sameBut hs hcc⟩
  ·obtain⟨e,n,ne,nf,d⟩:=I.pin p hp;refine⟨(hs.2 p.1 ?_).trans e,n,ne,nf,d⟩;intro q;rw[q,hoc] at e;have q':oc=p.2:=QB e;exact d w' (by rw[<- q'];exact hocd)
theorem Qei{M:Qj6}{A:Q2}{E:Value->Shared->Prop}{i:Nat}{x:Str}{v:V}{u:Value}{Q:Unit->Shared->Prop}(I:Inv X pins σ H s)(hN:X.N.Nodup)(hi:X.N[i]? = some x)(hx:Loc X.env.scope x)(r:RelV v u)
  (h:∀s',Inv X pins (σ.set i (some v)) H s'->Q () s')(hf:X.fn x=true∨X.env.scope.names.lookup x=some .local:=by first | exact .inl rfl | exact .inr rfl | assumption):wpAny M A (storeName X.env x u) Q E s:=
 Qg1 I hN hi hx r (λs' I' _=>h s' I') hf
theorem Inv.call'{s':Shared}{ch:List Addr}(I:Inv X pins σ H s)(ho:s'.os=s.os)(u:Un (frs X.stack) ch H H' s.heap s'.heap)(hok:HOk X.prog X.w H' s'.heap)(hg:Qd3 s'.gens)
  (hch:∀b∈ch,(b∈X.ex∨X.s₀.heap.objs.size<=b)/\b≠X.env.locals/\(∀x c,X.env.cells.lookup x=some c->c≠b)/\∀p∈X.pn++pins,p.1≠b):Inv X pins σ H' s':=by
 obtain⟨h',g',d',t',o'⟩:=s';have e:o'=s.os:=ho;subst e;exact I.call (g':=g') (t':=t') (d':=d') u hok hg hch
end
abbrev XK:=Value->Option Addr->Hp->Prop
abbrev St:=List (Option V)
abbrev VK:=V->Hp->Prop
abbrev TE:=St->Hp->VK->Prop
abbrev TT:=St->Hp->(Bool->Hp->Prop)->Prop
abbrev TA:=St->Hp->(List V->Hp->Prop)->Prop
structure Ends where
 nx:St->Hp->Prop
 rt:VK
 bk:St->Hp->Prop:=λ_ _=>False
 ct:St->Hp->Prop:=λ_ _=>False
abbrev TS:=Ends->St->Hp->Prop
def EP(X:Cx)(pins:List (Addr×Obj))(σ:St)(Q:VK)(u:Value)(s':Shared):Prop:=∃v H',Inv X pins σ H' s'/\RelV v u/\Q v H'
def TP(X:Cx)(pins:List (Addr×Obj))(σ:St)(Q:Bool->Hp->Prop)(b:Bool)(s':Shared):Prop:=∃H',Inv X pins σ H' s'/\Q b H'
def AP(X:Cx)(pins:List (Addr×Obj))(σ:St)(Q:List V->Hp->Prop)(us:List Value)(s':Shared):Prop:=∃vs H',Inv X pins σ H' s'/\Vals vs us/\Q vs H'
def SP(X:Cx)(pins:List (Addr×Obj))(D:Ends)(f:Flow)(s':Shared):Prop:=
 match f with
 |.next=>∃σ' H',Inv X pins σ' H' s'/\D.nx σ' H'
 |.brk=>∃σ' H',Inv X pins σ' H' s'/\D.bk σ' H'
 |.cont=>∃σ' H',Inv X pins σ' H' s'/\D.ct σ' H'
 |.ret u=>∃v σ' H',Inv X pins σ' H' s'/\RelV v u/\D.rt v H'
def PE(X:Cx)(e:Q3)(t:TE):Prop:=
 ∀(pins:List (Addr×Obj))(s:Shared)(σ:St)(H:Hp)(Q:VK),Inv X pins σ H s->t σ H Q->wpAny (model X.prog X.w) X.A (eval e X.env) (EP X pins σ Q) X.xe s
def PT(X:Cx)(e:Q3)(t:TT):Prop:=
 ∀(pins:List (Addr×Obj))(s:Shared)(σ:St)(H:Hp)(Q:Bool->Hp->Prop),Inv X pins σ H s->t σ H Q->wpAny (model X.prog X.w) X.A (isTrue e X.env (eval e X.env)) (TP X pins σ Q) X.xe s
def PW(X:Cx)(e:Q3)(t:TT):Prop:=
 ∀(whole:Sem Value)(pins:List (Addr×Obj))(s:Shared)(σ:St)(H:Hp)(Q:Bool->Hp->Prop),Inv X pins σ H s->t σ H Q->wpAny (model X.prog X.w) X.A (isTrue e X.env whole) (TP X pins σ Q) X.xe s
theorem PW.pt{X:Cx}{e:Q3}{t:TT}(h:PW X e t):PT X e t:=h _
def PA(X:Cx)(es:List Q3)(t:TA):Prop:=
 ∀(pos:Pos)(pins:List (Addr×Obj))(s:Shared)(σ:St)(H:Hp)(Q:List V->Hp->Prop),Inv X pins σ H s->t σ H Q->wpAny (model X.prog X.w) X.A (spliced (backTo pos (starEach es X.env))) (AP X pins σ Q) X.xe s
def PS(X:Cx)(st:Yt)(t:TS):Prop:=
 ∀(pins:List (Addr×Obj))(s:Shared)(σ:St)(H:Hp)(D:Ends),Inv X pins σ H s->t D σ H->wpAny (model X.prog X.w) X.A (exec st X.env) (SP X pins D) X.xe s
def PSs(X:Cx)(st:List Yt)(t:TS):Prop:=
 ∀(pins:List (Addr×Obj))(s:Shared)(σ:St)(H:Hp)(D:Ends),Inv X pins σ H s->t D σ H->wpAny (model X.prog X.w) X.A (execs st X.env) (SP X pins D) X.xe s
theorem thn{α:Type}{t:Sem α}{Q Q':α->Shared->Prop}{M:Qj6}{A:Q2}{E:Value->Shared->Prop}{s:Shared}(h:wpAny M A t Q E s)(hQ:∀a s,Q a s->Q' a s):wpAny M A t Q' E s:=wpAny_mono h hQ λ_ _ x=>x
section
variable{X:Cx}
theorem bin{a b:Q3}{ta tb:TE}(ha:PE X a ta)(hb:PE X b tb){pins:List (Addr×Obj)}{s:Shared}{σ:St}{H:Hp}{R:V->V->Hp->Prop}(I:Inv X pins σ H s)(h:ta σ H λx H1=>tb σ H1 λy H2=>R x y H2)
  {α:Type} {Q:α->Shared->Prop} {f:Value->Value->Sem α}
  (hf:∀v u s2 x y H2,Inv X pins σ H2 s2->RelV x v->RelV y u->R x y H2->wpAny (model X.prog X.w) X.A (f v u) Q X.xe s2) :
  wpAny (model X.prog X.w) X.A (eval a X.env) (λv s₁=>wpAny (model X.prog X.w) X.A (eval b X.env) (λu s₂=>wpAny (model X.prog X.w) X.A (f v u) Q X.xe s₂) X.xe s₁) X.xe s:=by
 refine thn (ha pins s σ H _ I h) λv s1 ⟨x,H1,I1,r1,q1⟩=>?_
 refine thn (hb pins s1 σ H1 _ I1 q1) λu s2 ⟨y,H2,I2,r2,q2⟩=>?_
 exact hf v u s2 x y H2 I2 r1 r2 q2
def QhZ(i:Nat):TE:=λσ H Q=>∃v,σ[i]? = some (some v)/\Q v H
def tC(v:V):TE:=λ_ H Q=>Q v H
theorem Qrx{i:Nat}{x:Str}{pos:Pos}(hN:X.N[i]? = some x)(hv:Vis X.env.scope x)(hd:(x == ("__debug__" : Str))=false:=by decide)(hcd:(x == ("__classdict__" : Str))=false:=by decide):PE X (.Name x pos) (QhZ i):=by
 intro pins s σ H Q I h;obtain⟨v,e,h⟩:=h;obtain⟨m,hn,hl⟩:=I.loc;obtain⟨u,r,l⟩:=hl i x v hN e hv;have fin:EP X pins σ Q u s:=⟨v,H,I,r,h⟩;rcases l with⟨hk,hm⟩ | ⟨hk,c,hc,hcell⟩
 ·exact Qyv (QuQ I.ok.kind hk hn hm fin) hd
 ·rcases hk with hk | hk
  ·exact Qyv (Qu5 I.ok.kind hk hc hcell fin) hd
  ·exact Qyv (wpAny_loadName_free I.ok.kind hk hc hcell fin hcd) hd
theorem Yl{i j pos}:PE X (.Constant (.int i) j pos) (tC (.int i)):=λ_ _ _ H _ I h=>wpAny_Constant_int ⟨.int i,H,I.tok _,⟨_,rfl⟩,h⟩
theorem Qtc{b j pos}:PE X (.Constant (.bool b) j pos) (tC (.bl b)):=λ_ _ _ H _ I h=>Constant_bool ⟨.bl b,H,I,rfl,h⟩
theorem Qwm{j pos}:PE X (.Constant .none j pos) (tC .non):=λ_ _ _ H _ I h=>Constant_none ⟨.non,H,I,rfl,h⟩
theorem Qjm{x j pos}:PE X (.Constant (.str x) j pos) (tC (.str x)):=λ_ _ _ H _ I h=>Calls.Constant_str ⟨.str x,H,I.tok _,⟨_,rfl⟩,h⟩
def Gl(X:Cx)(x:Str):Prop:=X.env.kindOf x=some .globalImplicit
theorem QeK{E:Value->Shared->Prop}{pins:List (Addr×Obj)}{s:Shared}{σ:St}{H:Hp}{x:Str}{u:Value}{pos:Pos}{Q:Value->Shared->Prop}(I:Inv X pins σ H s)(hg:Gl X x)(hm:X.mg x=some u)(h:Q u s)
  (hd:(x == ("__debug__" : Str))=false:=by decide):wpAny (model X.prog X.w) X.A (eval (.Name x pos) X.env) Q E s:=
 QgH I.ok.kind hg (Calls.loadGlobal_global (by rw[I.ok.glob];exact I.mod.glob.keeps I.bk) hm h) hd
theorem QdW{E:Value->Shared->Prop}{pins:List (Addr×Obj)}{s:Shared}{σ:St}{H:Hp}{x:Str}{u:Value}{pos:Pos}{Q:Value->Shared->Prop}(I:Inv X pins σ H s)(hg:Gl X x)(hm:X.mg x=none)(hv:bootBuiltins x=some u)(h:Q u s)
  (hn:x ≠ "__name__" := by decide)(hd:(x == ("__debug__" : Str))=false:=by decide):wpAny (model X.prog X.w) X.A (eval (.Name x pos) X.env) Q E s:=by
 obtain⟨mb,h1,h2⟩:=I.mod.blt;exact QgH I.ok.kind hg (Calls.loadGlobal_builtin (by rw[I.ok.glob];exact I.mod.glob.keeps I.bk) hm (by rw[I.ok.blt];exact h1.keeps I.bk) ((h2 x hn).trans hv) h) hd
theorem Qiv{x:Str}{v:V}{u:Value}{pos:Pos}(hg:Gl X x)(hm:X.mg x=some u)(r:RelV v u)(hd:(x == ("__debug__" : Str))=false:=by decide):PE X (.Name x pos) (tC v):=
 λ_ _ _ H _ I h=>QeK I hg hm ⟨v,H,I,r,h⟩ hd
theorem Ql0{x:Str}{v:V}{u:Value}{pos:Pos}(hg:Gl X x)(hm:X.mg x=none)(hv:bootBuiltins x=some u)(r:RelV v u)(hn:x ≠ "__name__" := by decide)(hd:(x == ("__debug__" : Str))=false:=by decide):PE X (.Name x pos) (tC v):=
 λ_ _ _ H _ I h=>QdW I hg hm hv ⟨v,H,I,r,h⟩ hn hd
variable{a b:Q3}{ta tb:TE}{pos:Pos}
def PC(X:Cx)(op:QfK)(a b:Q3)(t:TE):Prop:=
 ∀(pins:List (Addr×Obj))(s:Shared)(σ:St)(H:Hp)(Q:VK),Inv X pins σ H s->t σ H Q ->
  wpAny (model X.prog X.w) X.A (eval a X.env) (λv s₁=>wpAny (model X.prog X.w) X.A (eval b X.env) (λu s₂=>wpAny (model X.prog X.w) X.A (compareOp op v u) (EP X pins σ Q) X.xe s₂) X.xe s₁) X.xe s
theorem Qpi(b:Q3){op:QfK}(h:op≠.In)(h2:op≠.NotIn):behindInMarks op b=false:=by
 have e1:(op == CmpOp.In)=false:=by cases op<;>first | rfl | exact absurd rfl h
 have e2:(op == QyM)=false:=by cases op<;>first | rfl | exact absurd rfl h2
 cases b<;>simp[behindInMarks,e1,e2]
def tB(t:TE):TT:=λσ H Q=>t σ H λx H1=>∃c,x=.bl c/\Q c H1
theorem QAg{op:QfK}{t:TE}(h:PC X op a b t)(h1:behindInMarks op b=false:=by first | exact Qpi _ (by decide) (by decide) | rfl):PT X (.Compare a [op] [b] pos) (tB t):=by
 intro pins s σ H Q I hw;refine Qr4 (thn (h pins s σ H _ I hw) λv s1 h1=>thn h1 λu s2 h2=>thn h2 λc s3 ⟨x,H1,I1,r1,q1⟩=>?_) h1;obtain⟨d,rfl,q⟩:=q1;cases r1;exact Zc ⟨H1,I1,q⟩
theorem QlU{e:Q3}{t:TE}(h:PE X e t)(he:∀whole,isTrue e X.env whole=(do let v <- whole;standAt e.pos;holding [v] (truthy v)):=by intro _;rfl):PT X e (tB t):=by
 intro pins s σ H Q I hw;refine isTrue_plain (thn (h pins s σ H _ I hw) λv s1 ⟨x,H1,I1,r1,q1⟩=>?_) (he _);obtain⟨d,rfl,q⟩:=q1;cases r1;exact Zc ⟨H1,I1,q⟩
variable{tA tB':TT}{rest:List Q3}
def QzX(t u:TT):TT:=λσ H Q=>t σ H λc H1=>if c=true then u σ H1 Q else Q false H1
def tOr(t u:TT):TT:=λσ H Q=>t σ H λc H1=>if c=true then Q true H1 else u σ H1 Q
def QAP(t:TT):TT:=λσ H Q=>t σ H λc H1=>Q (!c) H1
theorem QsY(ha:PT X a tA):PW X (.BoolOp .And [a] pos) tA:=by
 intro wh pins s σ H Q I h;refine isTrue_and (thn (ha pins s σ H Q I h) λc s1 e=>?_);cases c with
 |true=>exact isTrue_and_nil e
 |false=>exact e
theorem Qru(ha:PT X a tA):PW X (.BoolOp .Or [a] pos) tA:=by
 intro wh pins s σ H Q I h;refine isTrue_or (thn (ha pins s σ H Q I h) λc s1 e=>?_);cases c with
 |false=>exact isTrue_or_nil e
 |true=>exact e
theorem Qwb(ha:PT X a tA)(hb:PW X (.BoolOp .And (b::rest) pos) tB'):PW X (.BoolOp .And (a::b::rest) pos) (QzX tA tB'):=by
 intro wh pins s σ H Q I h;refine isTrue_and (thn (ha pins s σ H _ I h) λc s1 ⟨H1,I1,q1⟩=>?_);cases c with
 |true=>exact hb wh pins s1 σ H1 Q I1 q1
 |false=>exact⟨H1,I1,q1⟩
theorem Qwa(ha:PT X a tA)(hb:PW X (.BoolOp .Or (b::rest) pos) tB'):PW X (.BoolOp .Or (a::b::rest) pos) (tOr tA tB'):=by
 intro wh pins s σ H Q I h;refine isTrue_or (thn (ha pins s σ H _ I h) λc s1 ⟨H1,I1,q1⟩=>?_);cases c with
 |true=>exact⟨H1,I1,q1⟩
 |false=>exact hb wh pins s1 σ H1 Q I1 q1
theorem Qrv(ha:PT X a tA):PT X (.UnaryOp .Not a pos) (QAP tA):=by
 intro pins s σ H Q I h;exact isTrue_not (ha pins s σ H (λc H1=>Q (!c) H1) I h)
def Qy0(ta tb:TE):TE:=λσ H Q=>ta σ H λx H1=>∃c,x=.bl c/\if c=true then tb σ H1 Q else Q (.bl false) H1
def QAO(ta tb:TE):TE:=λσ H Q=>ta σ H λx H1=>∃c,x=.bl c/\if c=true then Q (.bl true) H1 else tb σ H1 Q
def QyW(ta:TE):TE:=λσ H Q=>ta σ H λx H1=>∃c,x=.bl c/\Q (.bl (!c)) H1
theorem Qwk{op}{t:TE}(h:PE X a t):PE X (.BoolOp op [a] pos) t:=λpins s σ H Q I hw=>BoolOp_one (h pins s σ H Q I hw)
theorem Qwo(ha:PE X a ta)(hb:PE X (.BoolOp .And (b::rest) pos) tb):PE X (.BoolOp .And (a::b::rest) pos) (Qy0 ta tb):=by
 intro pins s σ H Q I h;refine BoolOp_and (thn (ha pins s σ H _ I h) λv s1 ⟨x,H1,I1,r1,q1⟩=>?_);obtain⟨c,rfl,q1⟩:=q1;cases r1;refine Zc ?_
 cases c with
 |true=>exact hb pins s1 σ H1 Q I1 q1
 |false=>exact⟨.bl false,H1,I1,rfl,q1⟩
theorem Qzl(ha:PE X a ta)(hb:PE X (.BoolOp .Or (b::rest) pos) tb):PE X (.BoolOp .Or (a::b::rest) pos) (QAO ta tb):=by
 intro pins s σ H Q I h;refine BoolOp_or (thn (ha pins s σ H _ I h) λv s1 ⟨x,H1,I1,r1,q1⟩=>?_);obtain⟨c,rfl,q1⟩:=q1;cases r1;refine Zc ?_
 cases c with
 |false=>exact hb pins s1 σ H1 Q I1 q1
 |true=>exact⟨.bl true,H1,I1,rfl,q1⟩
theorem Qwl(ha:PE X a ta):PE X (.UnaryOp .Not a pos) (QyW ta):=by
 intro pins s σ H Q I h;refine UnaryOp_ (thn (ha pins s σ H _ I h) λv s1 ⟨x,H1,I1,r1,q1⟩=>?_);obtain⟨c,rfl,q1⟩:=q1;cases r1;exact not_of (Zc ⟨.bl (!c),H1,I1,rfl,q1⟩)
end
def SqL(K:PySem.W.Frag)(H:Hp)(a:Addr)(xs:List V):Prop:=
 Rd H a (.lst xs) ∨
  ∃(o:Obj)(its:Array Value)(n:Nat),K.lookup a=some o/\o.cls=.type "list" /\ o.dict=none/\o.data=.seq its n/\its.size<=sizeLine/\Vals xs its.toList
def SqT(K:PySem.W.Frag)(H:Hp)(a:Addr)(xs:List V):Prop:=
 Rd H a (.tup xs) ∨
  ∃(o:Obj)(its:Array Value)(n:Nat),K.lookup a=some o/\o.cls=.type "tuple" /\ o.data=.seq its n/\its.size<=sizeLine/\Vals xs its.toList
def QBe:Value->Option V
 |.none=>some .non
 |.bool b=>some (.bl b)
 |.int i _=>some (.int i)
 |.str x _=>some (.str x)
 |.bytes b _=>some (.byt b)
 |.float b _=>some (.flt b)
 |.ref a=>some (.ref a)
 |.type n=>some (.ty n)
 |_=>none
theorem RelV.abs{x:V}{u:Value}(r:RelV x u):QBe u=some x:=by
 cases x with
 |non=>cases r;rfl
 |bl _=>cases r;rfl
 |int _=>obtain⟨t,rfl⟩:=r;rfl
 |str _=>obtain⟨t,rfl⟩:=r;rfl
 |byt _=>obtain⟨t,rfl⟩:=r;rfl
 |flt _=>obtain⟨t,rfl⟩:=r;rfl
 |ref _=>cases r;rfl
 |ty _=>cases r;rfl
theorem RelV.inj{x y:V}{u:Value}(r:RelV x u)(q:RelV y u):x=y:=QB (r.abs.symm.trans q.abs)
theorem Vals.inj:∀{xs ys:List V}{us:List Value},Vals xs us->Vals ys us->xs=ys
 |_,_,_,.nil,.nil=>rfl
 |_,_,_,.cons r t,.cons r' t'=>by rw[r.inj r',Vals.inj t t']
section
variable{X:Cx}{pins:List (Addr×Obj)}{σ:St}{H:Hp}{s:Shared}{a:Addr}{xs ys:List V}
theorem SqL.of{K:PySem.W.Frag}(h:H a=some (.lst xs)):SqL K H a xs:=.inl (.inl h)
theorem SqT.of{K:PySem.W.Frag}(h:H a=some (.tup xs)):SqT K H a xs:=.inl (.inl h)
theorem Inv.list(I:Inv X pins σ H s)(h:SqL X.K H a xs):∃its:List Value,Vals xs its/\PlainL s.heap a its.toArray/\xs.length<=sizeLine:=by
 rcases h with h | ⟨o,its,n,hk,hc,hd,hs,hz,r⟩
 ·obtain⟨z,its,n,r,e⟩:=h.ok I.hok;exact⟨its,r,⟨_,n,e,rfl,rfl,rfl⟩,z⟩
 ·refine⟨its.toList,r,⟨o,n,I.kIn a o hk,hc,hd,by simpa using hs⟩,?_⟩;have e:=r.length;simp only[Qc] at e;omega
theorem Inv.tuple(I:Inv X pins σ H s)(h:SqT X.K H a xs):∃its:List Value,Vals xs its/\IsTup s.heap a its.toArray/\xs.length<=sizeLine:=by
 rcases h with h | ⟨o,its,n,hk,hc,hs,hz,r⟩
 ·obtain⟨z,its,r,p⟩:=h.ok I.hok;exact⟨its,r,p,z⟩
 ·refine⟨its.toList,r,⟨o,I.kIn a o hk,hc,n,by simpa using hs⟩,?_⟩;have e:=r.length;simp only[Qc] at e;omega
theorem Inv.list_inj(I:Inv X pins σ H s)(h:SqL X.K H a xs)(h':SqL X.K H a ys):xs=ys:=by
 obtain⟨its,r,⟨o,n,e,_,_,d⟩,_⟩:=I.list h;obtain⟨its',r',⟨o',n',e',_,_,d'⟩,_⟩:=I.list h';rw[e] at e';cases e';rw[d] at d';injection d' with d1 _
 have:its=its':=by simpa using congrArg Qyc d1
 subst this;exact r.inj r'
theorem Inv.tuple_inj(I:Inv X pins σ H s)(h:SqT X.K H a xs)(h':SqT X.K H a ys):xs=ys:=by
 obtain⟨its,r,⟨o,e,_,n,d⟩,_⟩:=I.tuple h;obtain⟨its',r',⟨o',e',_,n',d'⟩,_⟩:=I.tuple h';rw[e] at e';cases e';rw[d] at d';injection d' with d1 _
 have:its=its':=by simpa using congrArg Qyc d1
 subst this;exact r.inj r'
end
abbrev Cx.wish (X:Cx) (E:Value->Shared->Prop):Cx:={ X with xe:=E }
abbrev Cx.nox (X:Cx):Cx:=X.wish λ_ _=>False
theorem Cx.Ok.wish{X:Cx}(ok:X.Ok)(E:Value->Shared->Prop):(X.wish E).Ok:=
 ⟨ok.mod,ok.kind,ok.glob,ok.blt,ok.above,ok.inj,ok.has,ok.cab,ok.hd,ok.frames,ok.stk,ok.exf,ok.bs,ok.bsz,ok.noex,ok.exfs,ok.funs,ok.frf⟩
theorem Cx.Ok.unwish{X:Cx}{E:Value->Shared->Prop}(ok:(X.wish E).Ok):X.Ok:=
 ⟨ok.mod,ok.kind,ok.glob,ok.blt,ok.above,ok.inj,ok.has,ok.cab,ok.hd,ok.frames,ok.stk,ok.exf,ok.bs,ok.bsz,ok.noex,ok.exfs,ok.funs,ok.frf⟩
section
variable{X:Cx}{pins:List (Addr×Obj)}{σ:St}{H:Hp}{s:Shared}{E:Value->Shared->Prop}
theorem Inv.wish(I:Inv X pins σ H s)(E:Value->Shared->Prop):Inv (X.wish E) pins σ H s:=⟨I.ok.wish E,I.os,I.bare,I.base,I.loc,I.cell,I.free,I.freeC,I.pin,I.hok,I.len⟩
theorem Inv.unwish(I:Inv (X.wish E) pins σ H s):Inv X pins σ H s:=⟨I.ok.unwish,I.os,I.bare,I.base,I.loc,I.cell,I.free,I.freeC,I.pin,I.hok,I.len⟩
theorem SP.unwish{D:Ends}{f:Flow}{s':Shared}(h:SP (X.wish E) pins D f s'):SP X pins D f s':=by
 cases f with
 |next=>obtain⟨σ',H',I,q⟩:=h;exact⟨σ',H',I.unwish,q⟩
 |brk=>obtain⟨σ',H',I,q⟩:=h;exact⟨σ',H',I.unwish,q⟩
 |cont=>obtain⟨σ',H',I,q⟩:=h;exact⟨σ',H',I.unwish,q⟩
 |ret u=>obtain⟨v,σ',H',I,r,q⟩:=h;exact⟨v,σ',H',I.unwish,r,q⟩
theorem PE.nox{e:Q3}{t:TE}(h:PE X.nox e t):PE X e t:=λpins s σ H Q I hw=>
 wpAny_mono (h pins s σ H Q (I.wish _) hw) (λ_ _ ⟨v,H',I',r,q⟩=>⟨v,H',I'.unwish,r,q⟩) λ_ _ z=>JE z
theorem PT.nox{e:Q3}{t:TT}(h:PT X.nox e t):PT X e t:=λpins s σ H Q I hw=>
 wpAny_mono (h pins s σ H Q (I.wish _) hw) (λ_ _ ⟨H',I',q⟩=>⟨H',I'.unwish,q⟩) λ_ _ z=>JE z
theorem PSs.nox{st:List Yt}{t:TS}(h:PSs X.nox st t):PSs X st t:=λpins s σ H D I hw=>
 wpAny_mono (h pins s σ H D (I.wish _) hw) (λ_ _ q=>q.unwish) λ_ _ z=>JE z
end
section
variable{X:Cx}{st:Yt}{rest:List Yt}{t u:TS}{e:Q3}{te:TE}{pos:Pos}
def QyX:TS:=λD σ H=>D.nx σ H
def QAM(t u:TS):TS:=λD σ H=>t { D with nx:=u D } σ H
theorem Qgb:PSs X [] QyX:=λ_ _ σ H _ I h=>QbG ⟨σ,H,I,h⟩
theorem ZM(h1:PS X st t)(h2:PSs X rest u):PSs X (st::rest) (QAM t u):=by
 intro pins s σ H D I h;refine Qc8 (thn (h1 pins s σ H { D with nx:=u D } I h) λf s1 q=>?_);cases f with
 |next=>
  obtain⟨σ',H',I',q⟩:=q;exact h2 pins s1 σ' H' D I' q
 |ret v=>exact q
 |brk=>exact q
 |cont=>exact q
theorem Qbb(h1:PS X st t):PSs X [st] t:=by
 intro pins s σ H D I h;refine Qc8 (thn (h1 pins s σ H D I h) λf s1 q=>?_);cases f with
 |next=>exact QbG q
 |ret v=>exact q
 |brk=>exact q
 |cont=>exact q
theorem Inv.quiet{pins:List (Addr×Obj)}{σ:St}{H:Hp}{s:Shared}(I:Inv X pins σ H s):interactive X.env=false:=by simp[interactive,I.ok.kind]
def Qvz(te:TE):TS:=λD σ H=>te σ H λ_ H1=>D.nx σ H1
theorem Qs0(he:PE X e te)(hs:swapsWith e none pos.line X.env=pure false:=by rfl):PS X (.Expr e pos) (Qvz te):=by
 intro pins s σ H D I h;exact wpAny_Expr_any (thn (he pins s σ H _ I h) λv s1 ⟨x,H1,I1,r1,q1⟩=>⟨σ,H1,I1,q1⟩) I.quiet hs
def QAN(te:TE):TS:=λD σ H=>te σ H D.rt
theorem QbS(he:PE X e te):PS X (.Return (some e) pos) (QAN te):=by
 intro pins s σ H D I h;exact Qyu (thn (he pins s σ H _ I h) λv s1 ⟨x,H1,I1,r1,q1⟩=>⟨x,σ,H1,I1,r1,q1⟩)
def QAS(c:TT)(t u:TS):TS:=λD σ H=>c σ H λb H1=>if b=true then t D σ H1 else u D σ H1
theorem QoC{c:Q3}{a b:List Yt}{tc:TT}(hc:PT X c tc)(ha:PSs X a t)(hb:PSs X b u):PS X (.If c a b pos) (QAS tc t u):=by
 intro pins s σ H D I h;refine wpAny_If (thn (hc pins s σ H _ I h) λd s1 ⟨H1,I1,q1⟩=>?_);cases d with
 |true=>exact ha pins s1 σ H1 D I1 q1
 |false=>exact hb pins s1 σ H1 D I1 q1
end
abbrev TG:=V->St->Hp->(St->Hp->Prop)->Prop
abbrev TGs:=List V->St->Hp->(St->Hp->Prop)->Prop
def PG(X:Cx)(target:Q3)(t:TG):Prop:=
 ∀(pins:List (Addr×Obj))(s:Shared)(σ:St)(H:Hp)(v:V)(u:Value)(Q:St->Hp->Prop),Inv X pins σ H s->RelV v u->t v σ H Q ->
  wpAny (model X.prog X.w) X.A (assign target X.env u) (λ_ s'=>∃σ' H',Inv X pins σ' H' s'/\Q σ' H') X.xe s
def PGs(X:Cx)(ts:List Q3)(t:TGs):Prop:=
 ∀(pins:List (Addr×Obj))(s:Shared)(σ:St)(H:Hp)(vs:List V)(us:List Value)(Q:St->Hp->Prop),Inv X pins σ H s->Vals vs us->t vs σ H Q ->
  wpAny (model X.prog X.w) X.A (assignInOrder ((assignEach ts X.env).map (·.2)) us) (λ_ s'=>∃σ' H',Inv X pins σ' H' s'/\Q σ' H') X.xe s
abbrev TSet:=V->V->V->Hp->(Hp->Prop)->Prop
def QAF(X:Cx)(t:TSet):Prop:=
 ∀(pins:List (Addr×Obj))(s:Shared)(σ:St)(H:Hp)(o i v:V)(ov iv u:Value)(Q:Hp->Prop),Inv X pins σ H s->RelV o ov->RelV i iv->RelV v u->t o i v H Q ->
  wpAny (model X.prog X.w) X.A (setItem ov iv u) (λ_ s'=>∃H',Inv X pins σ H' s'/\Q H') X.xe s
abbrev TIp:=V->V->Hp->VK->Prop
def PIp(X:Cx)(op:Qed)(t:TIp):Prop:=
 ∀(pins:List (Addr×Obj))(s:Shared)(σ:St)(H:Hp)(x y:V)(v u:Value)(Q:VK),Inv X pins σ H s->RelV x v->RelV y u->t x y H Q ->
  wpAny (model X.prog X.w) X.A (inplaceOp op v u) (EP X pins σ Q) X.xe s
section
variable{X:Cx}{pos:Pos}
def Qd9(i:Nat):TG:=λv σ H Q=>Q (σ.set i (some v)) H
theorem QeE{i:Nat}{x:Str}(hN:X.N.Nodup)(hi:X.N[i]? = some x)(hx:Loc X.env.scope x)(hf:X.fn x=true∨X.env.scope.names.lookup x=some .local:=by first | exact .inl rfl | exact .inr rfl | assumption):PG X (.Name x pos) (Qd9 i):=by
 intro pins s σ H v u Q I r h;exact Qyt (Qei I hN hi hx r (λs' I'=>⟨_,H,I',h⟩) hf)
def QAn:TGs:=λvs σ H Q=>vs=[]/\Q σ H
def Qxm(t:TG)(u:TGs):TGs:=λvs σ H Q=>∃v r,vs=v::r/\t v σ H λσ' H'=>u r σ' H' Q
theorem Qs8:PGs X [] QAn:=by
 intro pins s σ H vs us Q I r h;obtain⟨e,h⟩:=h;subst e;cases r;exact assignInOrder_nil ⟨σ,H,I,h⟩
theorem QoH{e:Q3}{es:List Q3}{t:TG}{u:TGs}(h1:PG X e t)(h2:PGs X es u)
  (hs:(assignEach (e::es) X.env).map (·.2)=assign e X.env::(assignEach es X.env).map (·.2):=by rfl):PGs X (e::es) (Qxm t u):=by
 intro pins s σ H vs us Q I r h;obtain⟨v,vr,e1,h⟩:=h;subst e1;cases r with
 |cons r rr=>
  rw[hs];refine assignInOrder_cons (thn (h1 pins s σ H _ _ _ I r h) λ_ s1 ⟨σ1,H1,I1,q1⟩=>?_);exact h2 pins s1 σ1 H1 _ _ Q I1 rr q1
def QAm(K:PySem.W.Frag)(n:Nat)(t:TGs):TG:=λv σ H Q=>∃a xs,v=.ref a/\SqT K H a xs/\xs.length=n/\t xs σ H Q
theorem Qwi{es:List Q3}{k:Nat}{t:TGs}{n:Nat}(hc:X.calm=true)(h:PGs X es t)
  (hn:(assignEach es X.env).length=n:=by rfl)(hst:(assignEach es X.env).findIdx? (·.1)=none:=by rfl):PG X (.Tuple es k pos) (QAm X.K n t):=by
 intro pins s σ H v u Q I r hw;obtain⟨a,xs,e1,hq,hl,hw⟩:=hw;subst e1;cases r;obtain⟨its,rv,ht,hz⟩:=I.tuple hq;refine assign_Tuple_tuple (I.ok.hd hc) ht (by simp[hn,<- hl,rv.length]) hst λh' hx=>?_
 have I1:Inv X pins σ H { s with heap:=h' }:=I.kept (t':=s.toks) λb o e=>hx b o (QF (Qp e)) e
 exact h pins _ σ H xs _ Q I1 (by simpa using rv) hw
def gSub(to ti:TE)(t:TSet):TG:=λv σ H Q=>to σ H λo H1=>ti σ H1 λi H2=>t o i v H2 λH3=>Q σ H3
theorem Qwj{o i:Q3}{to ti:TE}{t:TSet}(ho:PE X o to)(hi:PE X i ti)(hs:QAF X t)
  (ha:∀v,assign (.Subscript o i pos) X.env v=(do
   let ov <- holding [v] (eval o X.env)
   let iv <- holding [v,ov] (eval i X.env)
   standAt pos
   holding [v,ov,iv] (setItem ov iv v)
   release [v,ov,iv] []):=by intro _;rfl):PG X (.Subscript o i pos) (gSub to ti t):=by
 intro pins s σ H v u Q I r h;rw[ha];refine wpAny_bind (JL (thn (ho pins s σ H _ I h) λov s1 ⟨x,H1,I1,r1,q1⟩=>?_));refine wpAny_bind (JL (thn (hi pins s1 σ H1 _ I1 q1) λiv s2 ⟨y,H2,I2,r2,q2⟩=>?_));refine wpAny_bind (wpAny_standAt (wpAny_bind (JL (thn (hs pins s2 σ H2 x y v ov iv u _ I2 r1 r2 r q2) λ_ s3 ⟨H3,I3,q3⟩=>?_))));exact wpAny_release ⟨σ,H3,I3,q3⟩
def Qrh(te:TE)(g:TG):TS:=λD σ H=>te σ H λx H1=>g x σ H1 D.nx
theorem Qwe{tg e:Q3}{te:TE}{g:TG}(he:PE X e te)(hg:PG X tg g)(hs:swapsWithSole [tg] e pos.line X.env=pure false:=by rfl)(hw:swappedStores [tg] e X.env=pure none:=by rfl)
  (h1:(assignEach [tg] X.env).map (·.2)=[assign tg X.env]:=by rfl):PS X (.Assign [tg] e pos) (Qrh te g):=by
 intro pins s σ H D I h;refine wpAny_Assign_stores (thn (he pins s σ H _ I h) λv s1 ⟨x,H1,I1,r1,q1⟩=>?_) hs hw;rw[h1];exact thn (hg pins s1 σ H1 x v _ I1 r1 q1) λ_ s2 q=>q
theorem QaO{i:Nat}{x:Str}{e:Q3}{te:TE}{pos':Pos}(hN:X.N.Nodup)(hi:X.N[i]? = some x)(hx:Loc X.env.scope x)(he:PE X e te)(hs:swapsWith e (some (.Name x pos')) pos.line X.env=pure false:=by rfl)(hf:X.fn x=true∨X.env.scope.names.lookup x=some .local:=by first | exact .inl rfl | exact .inr rfl | assumption) :
  PS X (.Assign [.Name x pos'] e pos) (Qrh te (Qd9 i)):=by
 intro pins s σ H D I h;refine wpAny_Assign_Name (thn (he pins s σ H _ I h) λv s1 ⟨y,H1,I1,r1,q1⟩=>?_) hs;exact Qei I1 hN hi hx r1 (λs2 I2=>⟨_,H1,I2,q1⟩) hf
def QzW(i:Nat)(te:TE)(ti:TIp):TS:=λD σ H=>∃x,σ[i]? = some (some x)/\te σ H λy H1=>ti x y H1 λz H2=>D.nx (σ.set i (some z)) H2
theorem Qwd{i:Nat}{x:Str}{e:Q3}{te:TE}{op:Qed}{ti:TIp}{pos':Pos}(hN:X.N.Nodup)(hi:X.N[i]? = some x)(hx:Loc X.env.scope x)(he:PE X e te)(ho:PIp X op ti)(hf:X.fn x=true∨X.env.scope.names.lookup x=some .local:=by first | exact .inl rfl | exact .inr rfl | assumption) :
  PS X (.AugAssign (.Name x pos') op e pos) (QzW i te ti):=by
 intro pins s σ H D I h;obtain⟨v,e1,h⟩:=h;obtain⟨m,hn,hl⟩:=I.loc;have vis:Vis X.env.scope x:=by rcases hx with k | k;exact .inl k;exact .inr (.inl k)
 obtain⟨u,r,l⟩:=hl i x v hi e1 vis;refine wpAny_AugAssign_Name ?_
 have go:wpAny (model X.prog X.w) X.A (eval e X.env) (λw s₂=>wpAny (model X.prog X.w) X.A (inplaceOp op u w) (λr s₃=>wpAny (model X.prog X.w) X.A (storeName X.env x r) (λ_=>SP X pins D .next) X.xe s₃) X.xe s₂) X.xe s:=by
  refine thn (he pins s σ H _ I h) λw s1 ⟨y,H1,I1,r1,q1⟩=>?_
  refine thn (ho pins s1 σ H1 v y u w _ I1 r r1 q1) λz s2 ⟨zv,H2,I2,r2,q2⟩=>?_
  exact Qei I2 hN hi hx r2 (λs3 I3=>⟨_,H2,I3,q2⟩) hf
 rcases l with⟨hk,hm⟩ | ⟨hk,c,hc,hcell⟩
 ·exact QuQ I.ok.kind hk hn hm go
 ·rcases hk with hk | hk
  ·exact Qu5 I.ok.kind hk hc hcell go
  ·rcases hx with k | k
   ·have:X.env.scope.names.lookup x=some .free:=hk;rw[k] at this;cases this
   ·have:X.env.scope.names.lookup x=some .free:=hk;rw[k] at this;cases this
end
section
variable{X:Cx}{pos:Pos}
end
structure It where
 go:Nat->Hp->Prop
 yld:Nat->Hp->V->Hp->Prop
 stop:Nat->Hp->Prop
def FpOk(X:Cx)(pins:List (Addr×Obj))(H:Hp)(b:Addr):Prop:=
 H b=none/\b≠X.env.locals/\b∉X.fs/\(b∈X.ex∨X.s₀.heap.objs.size<=b)/\(∀x c,X.env.cells.lookup x=some c->c≠b)/\∀p∈X.pn++pins,p.1≠b
theorem Inv.fpOk{X:Cx}{pins:List (Addr×Obj)}{σ:St}{H H':Hp}{s:Shared}{b:Addr}(I:Inv X pins σ H s)(hb:s.heap.objs.size<=b)(hn:H' b=none):FpOk X pins H' b:=by
 refine⟨hn,QaJ (QR I.lt hb),I.nofs hb,.inr (Jb I.sz hb),λx c e z=>?_,λp hp z=>?_⟩
 ·obtain⟨v,q⟩:=I.cell x c e;exact absurd (QR q.lt (by rw[z];exact hb)) (Ym _)
 ·exact absurd (QR (Qp (I.pin p hp).1) (by rw[z];exact hb)) (Ym _)
structure Turn (P:QC) (w:Ja) (K:PySem.W.Frag) (tg:Q3) (J:It) (fp:List Addr) (it:Addr) (tn:Nat->Heap->Prop):Prop where
 mem:it∈fp
 obj:∀i h,tn i h->∀b∈fp,∃o,h.get? b=some o/\∀v,o.data≠.cell v
 keep:∀i h h',tn i h->(∀b∈fp,∀o,h.get? b=some o->h'.get? b=some o)->tn i h'
 item:∀(X:Cx),X.prog=P->X.w=w->X.K=K->X.calm=true->∀(i:Nat)(pins:List (Addr×Obj))(s:Shared)(σ:St)(H:Hp)(E:Value->Shared->Prop),Inv X pins σ H s->(∀b∈fp,FpOk X pins H b)->tn i s.heap->J.go i H ->
  wpAny (model P w) X.A (pyNext (.ref it)) (λr s1=>∃u,r=some u /\
   wpAny (model P w) X.A (letOwnedTupleGo tg (.ref it) u) (λ_ s2=>∃x H',Inv X pins σ H' s2/\RelV x u/\J.yld i H x H'/\tn (i+1) s2.heap/\∀b∈fp,H' b=none) E s1) E s
 done:∀(X:Cx),X.prog=P->X.w=w->X.K=K->X.calm=true->∀(i:Nat)(pins:List (Addr×Obj))(s:Shared)(σ:St)(H:Hp)(E:Value->Shared->Prop),Inv X pins σ H s->(∀b∈fp,FpOk X pins H b)->tn i s.heap->J.stop i H ->
  wpAny (model P w) X.A (pyNext (.ref it)) (λr s1=>r=none/\Inv X pins σ H s1) E s
 self:∀(A:Q2)(i:Nat)(s:Shared)(Q:Value->Shared->Prop)(E:Value->Shared->Prop),tn i s.heap->Q (.ref it) s->wpAny (model P w) A (pyIter (.ref it)) Q E s
abbrev TI:=St->Hp->(It->Hp->Prop)->Prop
def PIE(X:Cx)(pins:List (Addr×Obj))(σ:St)(tg:Q3)(R:It->Hp->Prop)(itv:Value)(s2:Shared):Prop:=
 ∃(it:Addr)(fp:List Addr)(tn:Nat->Heap->Prop)(J:It)(H':Hp),itv=.ref it/\Inv X pins σ H' s2/\Turn X.prog X.w X.K tg J fp it tn/\tn 0 s2.heap/\(∀b∈fp,FpOk X pins H' b)/\R J H'
def PI(X:Cx)(tg iter:Q3)(wi:TI):Prop:=
 ∀(pins:List (Addr×Obj))(s:Shared)(σ:St)(H:Hp)(R:It->Hp->Prop),Inv X pins σ H s->wi σ H R ->
  wpAny (model X.prog X.w) X.A (eval iter X.env) (λv s1=>wpAny (model X.prog X.w) X.A (pyIter v) (PIE X pins σ tg R) X.xe s1) X.xe s
theorem Quk{M:Qj6}{A:Q2}{E:Value->Shared->Prop}{s:Shared}{tg:Q3}{it:Addr}{u:Value}{o:Obj}{n:String}{vs:Array Value}{Q:Unit->Shared->Prop}(ho:s.heap.get? it=some o)(hc:o.cls=.type n)(hd:o.data=.fields vs)
  (hn:["enumerate", "zip", "dict_itemiterator", "dict_reverseitemiterator", "odict_iterator", "itertools.zip_longest", "itertools.pairwise"].contains n=false)(hQ:Q () s):wpAny M A (letOwnedTupleGo tg (.ref it) u) Q E s:=by
 unfold letOwnedTupleGo;cases tg<;>first
  |exact wpAny_pure hQ
  |(cases u<;>first
    |exact wpAny_pure hQ
    |(refine wpAny_bind (wpAny_load ho ?_)
      rw[hc,hd];show wpAny M A (if(["enumerate", "zip", "dict_itemiterator", "dict_reverseitemiterator", "odict_iterator", "itertools.zip_longest", "itertools.pairwise"].contains n&&vs[0]? == some (rawInt _))=true then _ else _) Q E s;rw[if_neg (by intro h;rw[hn,Bool.false_and] at h;cases h)];exact wpAny_pure hQ))
def Itl(K:PySem.W.Frag)(a:Addr):It:=
 ⟨λi H=>∃xs x,SqL K H a xs/\xs[i]? = some x,λi H x H'=>H'=H/\∀xs,SqL K H a xs->xs[i]? = some x,λi H=>∃xs,SqL K H a xs/\xs.length<=i⟩
def Itt(K:PySem.W.Frag)(a:Addr):It:=
 ⟨λi H=>∃xs x,SqT K H a xs/\xs[i]? = some x,λi H x H'=>H'=H/\∀xs,SqT K H a xs->xs[i]? = some x,λi H=>∃xs,SqT K H a xs/\xs.length<=i⟩
def Itr(lo:Int)(n:Nat):It:=⟨λi _=>i<n,λi H x H'=>H'=H/\x=.int (lo+i),λi _=>n<=i⟩
theorem Qlk{P:QC}{w:Ja}{K:PySem.W.Frag}{tg:Q3}(a it:Addr):Turn P w K tg (Itl K a) [it] it (λi h=>h.IsListIter it a i) where
 mem:=by simp
 obj:=λi h st b hb=>by
  have e:b=it:=by simpa using hb
  subst e;obtain⟨o,e,c,d⟩:=st;exact⟨o,e,λv z=>by rw[d] at z;cases z⟩
 keep:=λi h h' st k=>st.at λo e=>k it (by simp) o e
 item:=by
  intro X hP hw hK hc i pins s σ H E I hf st hg;subst hP hw hK;obtain⟨xs,x,hq,hx⟩:=hg;obtain⟨its,rv,p,hz⟩:=I.list hq;obtain⟨u,hu,ru⟩:=rv.get hx;obtain⟨f0,f1,f2,f3,f4,f5⟩:=hf it (by simp);refine wpAny_pyNext_list_item st p.isList (x:=u) (by simpa using hu) λh' st' sb=>?_
  have I1:Inv X pins σ H { s with heap:=h' }:=I.turned (t':=s.toks) (λb o hb e=>(sb.2 b hb).trans e) f0 f1 f3 f4 f5;obtain⟨o,e,c,d⟩:=id st';exact⟨u,rfl,Quk (s:={ s with heap:=h' }) e c d (by decide) ⟨x,H,I1,ru,⟨rfl,λys hy=>by rw[I.list_inj hy hq];exact hx⟩,st',λb hb=>(hf b hb).1⟩⟩
 done:=by
  intro X hP hw hK hc i pins s σ H E I hf st hg;subst hP hw hK;obtain⟨xs,hq,hx⟩:=hg;obtain⟨its,rv,p,hz⟩:=I.list hq;obtain⟨f0,f1,f2,f3,f4,f5⟩:=hf it (by simp);have hl:=rv.length;exact wpAny_pyNext_list_end (I.ok.hd hc) st p.isList (by simp;omega) λh' eb=>⟨rfl,I.turned (t':=s.toks) (λb o hb e=>eb b o hb e) f0 f1 f3 f4 f5⟩
 self:=λ_ _ _ _ _ st h=>wpAny_pyIter_listiter st h
theorem Qka{P:QC}{w:Ja}{K:PySem.W.Frag}{tg:Q3}(a it:Addr):Turn P w K tg (Itt K a) [it] it (λi h=>h.IsTupleIter it a i) where
 mem:=by simp
 obj:=λi h st b hb=>by
  have e:b=it:=by simpa using hb
  subst e;obtain⟨o,e,c,d⟩:=st;exact⟨o,e,λv z=>by rw[d] at z;cases z⟩
 keep:=λi h h' st k=>st.at λo e=>k it (by simp) o e
 item:=by
  intro X hP hw hK hc i pins s σ H E I hf st hg;subst hP hw hK;obtain⟨xs,x,hq,hx⟩:=hg;obtain⟨its,rv,p,hz⟩:=I.tuple hq;obtain⟨u,hu,ru⟩:=rv.get hx;obtain⟨f0,f1,f2,f3,f4,f5⟩:=hf it (by simp);refine wpAny_pyNext_tuple_item st (show s.heap.IsTuple a its.toArray from p) (x:=u) (by simpa using hu) λh' st' sb=>?_
  have I1:Inv X pins σ H { s with heap:=h' }:=I.turned (t':=s.toks) (λb o hb e=>(sb.2 b hb).trans e) f0 f1 f3 f4 f5;obtain⟨o,e,c,d⟩:=id st';exact⟨u,rfl,Quk (s:={ s with heap:=h' }) e c d (by decide) ⟨x,H,I1,ru,⟨rfl,λys hy=>by rw[I.tuple_inj hy hq];exact hx⟩,st',λb hb=>(hf b hb).1⟩⟩
 done:=by
  intro X hP hw hK hc i pins s σ H E I hf st hg;subst hP hw hK;obtain⟨xs,hq,hx⟩:=hg;obtain⟨its,rv,p,hz⟩:=I.tuple hq;obtain⟨f0,f1,f2,f3,f4,f5⟩:=hf it (by simp);have hl:=rv.length;exact wpAny_pyNext_tuple_end (I.ok.hd hc) st (show s.heap.IsTuple a its.toArray from p) (by simp;omega) λh' eb=>⟨rfl,I.turned (t':=s.toks) (λb o hb e=>eb b o hb e) f0 f1 f3 f4 f5⟩
 self:=λ_ _ _ _ _ st h=>wpAny_pyIter_tupleiter st h
theorem Qkb{P:QC}{w:Ja}{K:PySem.W.Frag}{tg:Q3}(it:Addr)(lo:Int)(n:Nat):Turn P w K tg (Itr lo n) [it] it (λi h=>IsRangeIter h it (lo+(i:Nat)*1) ((n:Int) - (i:Nat)) 1) where
 mem:=by simp
 obj:=λi h st b hb=>by
  have e:b=it:=by simpa using hb
  subst e;exact⟨_,st,λv z=>by
   have z':Data.fields _=Data.cell v:=z;cases z'⟩
 keep:=λi h h' st k=>k it (by simp) _ st
 item:=by
  intro X hP hw hK hc i pins s σ H E I hf st hg;subst hP hw hK;obtain⟨f0,f1,f2,f3,f4,f5⟩:=hf it (by simp);have W:=Walks.range (prog:=X.prog) (w:=X.w) (I.ok.hd hc) it lo 1 n;refine W.item i s _ _ hg st λv h' tk hv st' kk=>?_
  obtain⟨t,rfl⟩:=hv;have I1:Inv X pins σ H { s with heap:=h',toks:=tk }:=I.turned (λb o hb e=>kk b o (by simpa using hb) e) f0 f1 f3 f4 f5;refine⟨_,rfl,Quk (s:={ s with heap:=h',toks:=tk }) (n := "range_iterator") st' rfl rfl (by decide) ⟨.int (lo+i),H,I1,⟨t,?_⟩,⟨rfl,rfl⟩,st',λb hb=>(hf b hb).1⟩⟩;rw[Int.mul_one]
 done:=by
  intro X hP hw hK hc i pins s σ H E I hf st hg;subst hP hw hK;obtain⟨f0,f1,f2,f3,f4,f5⟩:=hf it (by simp);exact wpAny_pyNext_range_end (I.ok.hd hc) st (by have:n<=i:=hg;omega) λh' eb=>⟨rfl,I.turned (t':=s.toks) (λb o hb e=>eb b o hb e) f0 f1 f3 f4 f5⟩
 self:=λ_ _ _ _ _ st h=>wpAny_pyIter_rangeiter st h
section
variable{X:Cx}{tg:Q3}
def QzF(K:PySem.W.Frag)(tl:TE):TI:=λσ H R=>tl σ H λx H1=>∃a,x=.ref a/\(∃xs,SqL K H1 a xs)/\R (Itl K a) H1
def QA8(K:PySem.W.Frag)(tl:TE):TI:=λσ H R=>tl σ H λx H1=>∃a,x=.ref a/\(∃xs,SqT K H1 a xs)/\R (Itt K a) H1
theorem Qit{l:Q3}{tl:TE}(hl:PE X l tl):PI X tg l (QzF X.K tl):=by
 intro pins s σ H R I h;refine thn (hl pins s σ H _ I h) λv s1 ⟨x,H1,I1,r1,q1⟩=>?_
 obtain⟨a,e,⟨xs,hq⟩,q⟩:=q1;subst e;cases r1;obtain⟨its,rv,p,hz⟩:=I1.list hq;refine Qys p.isList ?_
 refine⟨s1.heap.objs.size,[s1.heap.objs.size],_,_,H1,rfl,I1.kept (t':=s1.toks) λb o e=>Qd _ e,Qlk a _,⟨_,QD _ rfl,rfl,rfl⟩,λb hb=>?_,q⟩;have e:b=s1.heap.objs.size:=by simpa using hb
 subst e;exact I1.fpOk (Qj _) (I1.hok.fresh (Qj _))
theorem Qwh{l:Q3}{tl:TE}(hl:PE X l tl):PI X tg l (QA8 X.K tl):=by
 intro pins s σ H R I h;refine thn (hl pins s σ H _ I h) λv s1 ⟨x,H1,I1,r1,q1⟩=>?_
 obtain⟨a,e,⟨xs,hq⟩,q⟩:=q1;subst e;cases r1;obtain⟨its,rv,p,hz⟩:=I1.tuple hq;refine YR (show s1.heap.IsTuple a its.toArray from p) ?_
 refine⟨s1.heap.objs.size,[s1.heap.objs.size],_,_,H1,rfl,I1.kept (t':=s1.toks) λb o e=>Qd _ e,Qka a _,⟨_,QD _ rfl,rfl,rfl⟩,λb hb=>?_,q⟩;have e:b=s1.heap.objs.size:=by simpa using hb
 subst e;exact I1.fpOk (Qj _) (I1.hok.fresh (Qj _))
theorem Qos{pins:List (Addr×Obj)}{σ:St}{H:Hp}{s:Shared}{R:It->Hp->Prop}{E:Value->Shared->Prop}{lo hi:Int}{t u v:Tok}{tk:Nat}(I:Inv X pins σ H s)(h1 : -(2^62)<=lo)(h2:lo<2^62)(h3 : -(2^62)<=hi)(h4:hi<2^62)
  (q:R (Itr lo (hi - lo).toNat) H):wpAny (model X.prog X.w) X.A (pyIter (.ref s.heap.objs.size)) (PIE X pins σ tg R) E { s with heap:=s.heap.push { cls:=.type "range",data:=.fields #[.int lo t,.int hi u,.int 1 v] },toks:=tk }:=by
 refine wpAny_pyIter_range (IsRange.new ..) (small_one h1 h2 h3 h4) ?_
 have I1:Inv X pins σ H { s with heap:=s.heap.push { cls:=.type "range",data:=.fields #[.int lo t,.int hi u,.int 1 v] },toks:=tk }:=I.kept λb o e=>Qd _ e
 refine⟨(s.heap.push { cls:=.type "range",data:=.fields #[.int lo t,.int hi u,.int 1 v] }).objs.size,[(s.heap.push { cls:=.type "range",data:=.fields #[.int lo t,.int hi u,.int 1 v] }).objs.size],_,_,H,rfl,
  I1.kept (t':=tk) λb o e=>Qd _ e,Qkb _ lo (hi - lo).toNat,?_,λb hb=>?_,q⟩
 ·have e1:lo+((0:Nat):Int)*1=lo:=by simp
  have e2:(((hi - lo).toNat:Nat):Int) - ((0:Nat):Int)=QyS lo hi 1:=by rw[rangeSize_one];split<;>omega
  show IsRangeIter _ _ (lo+((0:Nat):Int)*1) ((((hi - lo).toNat:Nat):Int) - ((0:Nat):Int)) 1;rw[e1,e2];exact QD _ rfl
 ·have e:b=(s.heap.push { cls:=.type "range",data:=.fields #[.int lo t,.int hi u,.int 1 v] }).objs.size:=by simpa using hb
  subst e;exact I1.fpOk (Qj _) (I1.hok.fresh (Qj _))
def QzE(ta:TA):TI:=λσ H R=>ta σ H λvs H1=>∃j:Int,vs=[.int j] /\ -(2^62)<=j/\j<2^62/\R (Itr 0 j.toNat) H1
theorem Qhe{a:Q3}{ta:TA}{p pos:Pos}(hg:Gl X "range")(hm:X.mg "range" = none)(ha:PA X [a] ta)(hs:starEach [a] X.env=[(false,eval a X.env)]:=by rfl):PI X tg (.Call (.Name "range" p) [a] [] pos) (QzE ta):=by
 intro pins s σ H R I h;refine Call_ (QdW I hg hm boot_range (Zl (thn (ha pos pins s σ H _ I h) λus s1 ⟨vs,H1,I1,r1,q1⟩=>?_) hs rfl));obtain⟨j,e,q1,q2,q⟩:=q1;subst e;cases r1 with
 |cons r rr=>
  cases rr;obtain⟨t,rfl⟩:=r;exact call_range_1 (Qos I1 (by omega) (by omega) q1 q2 (by simpa using q))
def tFor(wi:TI)(g:TG)(tb:TS):TS:=λD σ H=>wi σ H λJ H1=>∃W:Nat->Nat->St->Hp->Prop,(∃m,W 0 m σ H1)/\∀i m σ H,W i m σ H ->
 (J.stop i H/\D.nx σ H)∨(J.go i H/\∃N:St->Hp->Prop,(∀σ' H',N σ' H'->∃m',m'<m/\W (i+1) m' σ' H')/\∀x H',J.yld i H x H'->g x σ H' λσ2 H2=>tb { D with nx:=N,ct:=N,bk:=D.nx } σ2 H2)
def Qjl(fp:List Addr)(h:Heap):List (Addr×Obj):=fp.filterMap λb=>(h.get? b).map λo=>(b,o)
theorem QaH{fp:List Addr}{h:Heap}{b:Addr}{o:Obj}(hb:b∈fp)(e:h.get? b=some o):(b,o)∈Qjl fp h:=Zs.mpr ⟨b,hb,by rw[e];rfl⟩
theorem Qml{fp:List Addr}{h:Heap}{p:Addr×Obj}(hp:p∈Qjl fp h):p.1∈fp/\h.get? p.1=some p.2:=by
 obtain⟨b,hb,e⟩:=Zs.mp hp;cases q:h.get? b with
 |none=>rw[q] at e;cases e
 |some o=>
  rw[q] at e;have e':(b,o)=p:=QB e;subst e';exact⟨hb,q⟩
theorem Inv.pinned{pins:List (Addr×Obj)}{σ:St}{H:Hp}{s:Shared}{fp:List Addr}(I:Inv X pins σ H s)(hf:∀b∈fp,FpOk X pins H b)(ho:∀b∈fp,∃o,s.heap.get? b=some o/\∀v,o.data≠.cell v):Inv X (pins++Qjl fp s.heap) σ H s:=
 I.pins_of λp hp=>(Js.mp hp).elim (λz=>I.pin p (Q0 _ z)) λz=>by
  obtain⟨hb,e⟩:=Qml z;obtain⟨f0,f1,f2,_⟩:=hf p.1 hb;obtain⟨o,e',d⟩:=ho p.1 hb;rw[e] at e';cases e';exact⟨e,f0,f1,f2,d⟩
theorem Inv.unpinned{pins pl:List (Addr×Obj)}{σ:St}{H:Hp}{s:Shared}(I:Inv X (pins++pl) σ H s):Inv X pins σ H s:=I.pins_of λp hp=>I.pin p (Q0 _ (Y2 _ hp))
theorem Qrw{iter:Q3}{body:List Yt}{wi:TI}{g:TG}{tb:TS}{pos:Pos}(hp:PassesOwn (model X.prog X.w) X.A X.env X.xe)(hc:X.calm=true)(hi:PI X tg iter wi)(hg:PG X tg g)(hb:PSs X body tb)
  (hs:∀x,foldedSetIterable iter X.env x=pure x:=by intro _;rfl):PS X (.For tg iter body [] pos) (tFor wi g tb):=by
 intro pins s σ H D I h;refine wpAny_For (thn (hi pins s σ H _ I h) λv s1 h1=>thn h1 λitv s2 h2=>?_) hs;obtain⟨it,fp,tn,J,H2,e,I2,T,st2,f2,W,⟨m0,w0⟩,turn⟩:=h2;subst e;have stat:∀{H':Hp},(∀b∈fp,H' b=none)->∀b∈fp,FpOk X pins H' b:=λhn b hb=>⟨hn b hb,(f2 b hb).2⟩
 refine codeAny_forLoop_any (λn s'=>∃i σ' H',Inv X pins σ' H' s'/\tn i s'.heap/\(∀b∈fp,H' b=none)/\W i n σ' H') ?_ m0 ⟨0,σ,H2,I2,st2,λb hb=>(f2 b hb).1,w0⟩
 rintro n s3 ⟨i,σ3,H3,I3,st3,fr3,w3⟩;rcases turn i n σ3 H3 w3 with⟨stop,qn⟩ | ⟨go,N,hN,step⟩
 ·refine QbF hp (thn (T.done X rfl rfl rfl hc i pins s3 σ3 H3 X.xe I3 (stat fr3) st3 stop) λr s4 ⟨hr,I4⟩=>?_);subst hr;exact QbG ⟨σ3,H3,I4,qn⟩
 ·refine QbF hp (thn (T.item X rfl rfl rfl hc i pins s3 σ3 H3 X.xe I3 (stat fr3) st3 go) λr s4 ⟨u,hr,h4⟩=>?_);subst hr;refine QbF hp (thn h4 λ_ s5 ⟨x,H5,I5,r5,y5,st5,fr5⟩=>?_);have I5':=I5.pinned (stat fr5) (T.obj _ _ st5);refine QbF hp (thn (hg _ s5 σ3 H5 x u _ I5' r5 (step x H5 y5)) λ_ s6 ⟨σ6,H6,I6,q6⟩=>?_);refine QbF hp (thn (hb _ s6 σ6 H6 _ I6 q6) λf s7 q7=>?_);have again:∀{σ7:St}{H7:Hp},Inv X (pins++Qjl fp s5.heap) σ7 H7 s7->N σ7 H7->∃m,m<n/\∃i σ' H',Inv X pins σ' H' s7/\tn i s7.heap/\(∀b∈fp,H' b=none)/\W i m σ' H':=λ{σ7 H7} I7 n7=>by
   obtain⟨m',hm,w7⟩:=hN σ7 H7 n7;refine⟨m',hm,i+1,σ7,H7,I7.unpinned,T.keep _ _ _ st5 λb hb o e=>(I7.pin (b,o) (Q0 _ (Q0 _ (QaH hb e)))).1,λb hb=>?_,w7⟩;obtain⟨o,e,d⟩:=T.obj _ _ st5 b hb;exact(I7.pin (b,o) (Q0 _ (Q0 _ (QaH hb e)))).2.1
  cases f with
  |next=>obtain⟨σ7,H7,I7,n7⟩:=q7;exact again I7 n7
  |cont=>obtain⟨σ7,H7,I7,n7⟩:=q7;exact again I7 n7
  |brk=>obtain⟨σ7,H7,I7,q7⟩:=q7;exact⟨σ7,H7,I7.unpinned,q7⟩
  |ret v=>obtain⟨x7,σ7,H7,I7,r7,q7⟩:=q7;exact⟨x7,σ7,H7,I7.unpinned,r7,q7⟩
end
theorem QmU{lo:Int}{n:Nat}{g:TG}{tb:TS}{D:Ends}{σ:St}{H:Hp}(Pv:Nat->St->Hp->Prop)(h0:Pv 0 σ H)
  (hs:∀i σ H,i<n->Pv i σ H->g (.int (lo+i)) σ H λσ2 H2=>tb { D with nx:=Pv (i+1),ct:=Pv (i+1),bk:=D.nx } σ2 H2)(hd:∀σ H,Pv n σ H->D.nx σ H) :
  ∃W:Nat->Nat->St->Hp->Prop,(∃m,W 0 m σ H)/\∀i m σ H,W i m σ H ->
   ((Itr lo n).stop i H/\D.nx σ H)∨((Itr lo n).go i H/\∃N:St->Hp->Prop,(∀σ' H',N σ' H'->∃m',m'<m/\W (i+1) m' σ' H')/\∀x H',(Itr lo n).yld i H x H'->g x σ H' λσ2 H2=>tb { D with nx:=N,ct:=N,bk:=D.nx } σ2 H2):=by
 refine⟨λi m σ H=>m=n - i/\i<=n/\Pv i σ H,⟨n,by simp,Qu _,h0⟩,?_⟩;rintro i m σ H ⟨rfl,hi,p⟩;by_cases hlt:i<n
 ·refine .inr ⟨hlt,Pv (i+1),λσ' H' p'=>⟨n - (i+1),by omega,rfl,hlt,p'⟩,λx H' y=>?_⟩;obtain⟨e,y⟩:=y;subst e y;exact hs i σ _ hlt p
 ·have e:i=n:=by omega
  subst e;exact .inl ⟨Qj _,hd σ H p⟩
abbrev R2:=V->V->Hp->VK->Prop
def OpR(X:Cx)(f:Value->Value->Sem Value)(r:R2):Prop:=
 ∀(pins:List (Addr×Obj))(s:Shared)(σ:St)(H:Hp)(x y:V)(v u:Value)(Q:VK),Inv X pins σ H s->RelV x v->RelV y u->r x y H Q ->
  wpAny (model X.prog X.w) X.A (f v u) (EP X pins σ Q) X.xe s
def UnR(X:Cx)(f:Value->Sem Value)(r:V->Hp->VK->Prop):Prop:=
 ∀(pins:List (Addr×Obj))(s:Shared)(σ:St)(H:Hp)(x:V)(v:Value)(Q:VK),Inv X pins σ H s->RelV x v->r x H Q ->
  wpAny (model X.prog X.w) X.A (f v) (EP X pins σ Q) X.xe s
def CallR(X:Cx)(f:Value)(r:List V->Hp->VK->Prop):Prop:=
 ∀(pins:List (Addr×Obj))(s:Shared)(σ:St)(H:Hp)(xs:List V)(us:List Value)(Q:VK),Inv X pins σ H s->Vals xs us->r xs H Q ->
  wpAny (model X.prog X.w) X.A (call f us) (EP X pins σ Q) X.xe s
def tOp(r:R2)(ta tb:TE):TE:=λσ H Q=>ta σ H λx H1=>tb σ H1 λy H2=>r x y H2 Q
def tUn(r:V->Hp->VK->Prop)(ta:TE):TE:=λσ H Q=>ta σ H λx H1=>r x H1 Q
def rI(C:Int->Int->Prop)(g:Int->Int->V):R2:=λx y H Q=>∃i j,x=.int i/\y=.int j/\C i j/\Q (g i j) H
def rI0(g:Int->Int->V):R2:=λx y H Q=>∃i j,x=.int i/\y=.int j/\Q (g i j) H
def rU(g:Int->V):V->Hp->VK->Prop:=λx H Q=>∃i,x=.int i/\Q (g i) H
section
variable{X:Cx}{a b c:Q3}{ta tb tc:TE}{pos:Pos}
theorem QzP(ha:PE X a ta)(hb:PE X b tb){pins:List (Addr×Obj)}{s:Shared}{σ:St}{H:Hp}{R:V->V->Hp->Prop}(I:Inv X pins σ H s)
  (h:ta σ H λx H1=>tb σ H1 λy H2=>R x y H2){Q:Value->Shared->Prop}{f:Value->Value->Sem Value}
  (hf:∀v u s2 x y H2,Inv X pins σ H2 s2->RelV x v->RelV y u->R x y H2->wpAny (model X.prog X.w) X.A (f v u) Q X.xe s2) :
  wpAny (model X.prog X.w) X.A (eval a X.env) (λv s₁=>wpAny (model X.prog X.w) X.A (eval b X.env) (λu s₂=>wpAny (model X.prog X.w) X.A (f v u) Q X.xe s₂) X.xe s₁) X.xe s:=by
 refine thn (ha pins s σ H _ I h) λv s1 ⟨x,H1,I1,r1,q1⟩=>?_
 refine thn (hb pins s1 σ H1 _ I1 q1) λu s2 ⟨y,H2,I2,r2,q2⟩=>?_
 exact hf v u s2 x y H2 I2 r1 r2 q2
theorem Qay{op:Qed}{r:R2}(ho:OpR X (binaryOp op) r)(ha:PE X a ta)(hb:PE X b tb):PE X (.BinOp a op b pos) (tOp r ta tb):=by
 intro pins s σ H Q I h;exact wpAny_BinOp (QzP ha hb I h λv u s2 x y H2 I2 rx ry q=>ho pins s2 σ H2 x y v u Q I2 rx ry q)
theorem Qzk{op:UnaryOp}{r:V->Hp->VK->Prop}(ho:UnR X (unaryOp op) r)(ha:PE X a ta):PE X (.UnaryOp op a pos) (tUn r ta):=by
 intro pins s σ H Q I h;exact UnaryOp_ (thn (ha pins s σ H _ I h) λv s1 ⟨x,H1,I1,r1,q1⟩=>ho pins s1 σ H1 x v Q I1 r1 q1)
theorem opI{f:Value->Value->Sem Value}{C:Int->Int->Prop}{g:Int->Int->Int}
  (rule:∀(i j:Int)(t u:Tok)(s:Shared)(Q:Value->Shared->Prop)(E:Value->Shared->Prop),C i j->Q (.int (g i j) s.toks) { s with toks:=s.toks+1 }->wpAny (model X.prog X.w) X.A (f (.int i t) (.int j u)) Q E s) :
  OpR X f (rI C λi j=>.int (g i j)):=by
 intro pins s σ H x y v u Q I rx ry h;obtain⟨i,j,rfl,rfl,hc,q⟩:=h;obtain⟨t,rfl⟩:=rx;obtain⟨t',rfl⟩:=ry;exact rule i j t t' s _ _ hc ⟨.int (g i j),H,I.tok _,⟨_,rfl⟩,q⟩
theorem QAh{f:Value->Value->Sem Value}{g:Int->Int->Int}
  (rule:∀(i j:Int)(t u:Tok)(s:Shared)(Q:Value->Shared->Prop)(E:Value->Shared->Prop),Q (.int (g i j) s.toks) { s with toks:=s.toks+1 }->wpAny (model X.prog X.w) X.A (f (.int i t) (.int j u)) Q E s) :
  OpR X f (rI0 λi j=>.int (g i j)):=by
 intro pins s σ H x y v u Q I rx ry h;obtain⟨i,j,rfl,rfl,q⟩:=h;obtain⟨t,rfl⟩:=rx;obtain⟨t',rfl⟩:=ry;exact rule i j t t' s _ _ ⟨.int (g i j),H,I.tok _,⟨_,rfl⟩,q⟩
theorem Qyh{f:Value->Value->Sem Value}{g:Int->Int->Bool}
  (rule:∀(i j:Int)(t u:Tok)(s:Shared)(Q:Value->Shared->Prop)(E:Value->Shared->Prop),Q (.bool (g i j)) s->wpAny (model X.prog X.w) X.A (f (.int i t) (.int j u)) Q E s) :
  OpR X f (rI0 λi j=>.bl (g i j)):=by
 intro pins s σ H x y v u Q I rx ry h;obtain⟨i,j,rfl,rfl,q⟩:=h;obtain⟨t,rfl⟩:=rx;obtain⟨t',rfl⟩:=ry;exact rule i j t t' s _ _ ⟨.bl (g i j),H,I,rfl,q⟩
def Qyo(i j:Int):Prop:=0<=j/\j<=1000000/\i.natAbs<2^64
def CMul(i j:Int):Prop:=(-(2^64)<i/\i<2^64)∨(-(2^64)<j/\j<2^64)
theorem CMul.ok{i j:Int}(h:CMul i j):IntMulOk i j:=by
 rcases h with⟨h1,h2⟩ | ⟨h1,h2⟩
 ·exact .of_left (intBits_le_64 h1 h2)
 ·exact .of_right (intBits_le_64 h1 h2)
theorem Qfv:OpR X (binaryOp .Add) (rI0 λi j=>.int (i+j)):=QAh λ_ _ _ _ _ _ _ q=>add_int q
theorem Qjq:OpR X (binaryOp .Sub) (rI0 λi j=>.int (i - j)):=QAh λ_ _ _ _ _ _ _ q=>sub_int q
theorem Qft:OpR X (binaryOp .Mult) (rI CMul λi j=>.int (i*j)):=opI λ_ _ _ _ _ _ _ hc q=>mul_int q hc.ok
theorem Qfu:OpR X (binaryOp .Mod) (rI (λ_ j=>0<j) λi j=>.int (i % j)):=opI λi j _ _ _ _ _ hc q=>by
 have h1:(0:Int)<j:=hc;exact mod_int' (by omega) (by rw[Int.fmod_eq_emod_of_nonneg i (by omega)];exact q)
theorem Qfr:OpR X (binaryOp .Pow) (rI Qyo λi j=>.int (i^j.toNat)):=opI λ_ _ _ _ _ _ _ hc q=>pow_int_small hc.1 hc.2.1 hc.2.2 q
theorem Qud:OpR X (inplaceOp .Mult) (rI CMul λi j=>.int (i*j)):=opI λ_ _ _ _ _ _ _ hc q=>imul_int q hc.ok
theorem unI{f:Value->Sem Value}{g:Int->Int}
  (rule:∀(i:Int)(t:Tok)(s:Shared)(Q:Value->Shared->Prop)(E:Value->Shared->Prop),Q (.int (g i) s.toks) { s with toks:=s.toks+1 }->wpAny (model X.prog X.w) X.A (f (.int i t)) Q E s) :
  UnR X f (rU λi=>.int (g i)):=by
 intro pins s σ H x v Q I rx h;obtain⟨i,rfl,q⟩:=h;obtain⟨t,rfl⟩:=rx;exact rule i t s _ _ ⟨.int (g i),H,I.tok _,⟨_,rfl⟩,q⟩
theorem Qvs:UnR X (unaryOp .USub) (rU λi=>.int (-i)):=unI λ_ _ _ _ _ q=>neg_int q
end
def scal:V->V->Bool
 |.non,.non=>true | .non,.int _=>true | .int _,.non=>true | .non,.bl _=>true | .bl _,.non=>true | .non,.str _=>true | .str _,.non=>true
 |.int _,.int _=>true | .bl _,.bl _=>true | .str _,.str _=>true | .byt _,.byt _=>true
 |.int _,.str _=>true | .str _,.int _=>true | .bl _,.str _=>true | .str _,.bl _=>true
 |_,_=>false
def rEq:R2:=λx y H Q=>scal x y=true/\Q (.bl (decide (x=y))) H
def rNe:R2:=λx y H Q=>scal x y=true/\Q (.bl (!decide (x=y))) H
theorem Qm6{i j:Int}:decide (V.int i=V.int j)=(i == j):=by
 rw[Qaq];simp
theorem QrT{i j:Bool}:decide (V.bl i=V.bl j)=(i == j):=by
 rw[Qaq];simp
theorem Qm5{i j:Str}:decide (V.str i=V.str j)=(i == j):=by
 rw[Qaq];simp
theorem Qm7{i j:Array UInt8}:decide (V.byt i=V.byt j)=(i.toList == j.toList):=by
 rw[Qaq];cases i;cases j;simp
section
variable{X:Cx}{a b c:Q3}{ta tb tc:TE}{pos:Pos}
theorem ZQ{pins:List (Addr×Obj)}{σ:St}{H:Hp}{s:Shared}{Q:VK}{k k':Bool}(I:Inv X pins σ H s)(q:Q (.bl k) H)(e:k=k'):EP X pins σ Q (.bool k') s:=by
 subst e;exact⟨.bl k,H,I,rfl,q⟩
theorem Qzv:OpR X (compareOp .Eq) rEq:=by
 intro pins s σ H x y v u Q I rx ry h;obtain⟨hs,q⟩:=h;cases x with
 |non=>
  cases rx;cases y with
  |non=>cases ry;exact PySem.EqNone.eq_none_none (ZQ I q (by simp))
  |bl j=>cases ry;exact PySem.EqNone.eq_none_bool (ZQ I q (by simp))
  |int j=>obtain⟨t',rfl⟩:=ry;exact PySem.EqNone.eq_none_int (ZQ I q (by simp))
  |str j=>obtain⟨t',rfl⟩:=ry;exact PySem.EqNone.eq_none_str (ZQ I q (by simp))
  |_=>exact absurd (show false=true from hs) QJ
 |bl i=>
  cases rx;cases y with
  |non=>cases ry;exact PySem.EqNone.eq_bool_none (ZQ I q (by simp))
  |bl j=>cases ry;exact eq_bool (ZQ I q QrT)
  |str j=>obtain⟨t',rfl⟩:=ry;exact PySem.EqMixed.eq_bool_str (ZQ I q (by simp))
  |_=>exact absurd (show false=true from hs) QJ
 |int i=>
  obtain⟨t,rfl⟩:=rx;cases y with
  |non=>cases ry;exact PySem.EqNone.eq_int_none (ZQ I q (by simp))
  |int j=>obtain⟨t',rfl⟩:=ry;exact eq_int (ZQ I q Qm6)
  |str j=>obtain⟨t',rfl⟩:=ry;exact PySem.EqMixed.eq_int_str (ZQ I q (by simp))
  |_=>exact absurd (show false=true from hs) QJ
 |str i=>
  obtain⟨t,rfl⟩:=rx;cases y with
  |non=>cases ry;exact PySem.EqNone.eq_str_none (ZQ I q (by simp))
  |bl j=>cases ry;exact PySem.EqMixed.eq_str_bool (ZQ I q (by simp))
  |int j=>obtain⟨t',rfl⟩:=ry;exact PySem.EqMixed.eq_str_int (ZQ I q (by simp))
  |str j=>obtain⟨t',rfl⟩:=ry;exact eq_str (ZQ I q Qm5)
  |_=>exact absurd (show false=true from hs) QJ
 |byt i=>
  obtain⟨t,rfl⟩:=rx;cases y with
  |byt j=>obtain⟨t',rfl⟩:=ry;exact PySem.W.eq_bytes (ZQ I q Qm7)
  |_=>exact absurd (show false=true from hs) QJ
 |_=>cases y<;>exact absurd (show false=true from hs) QJ
theorem QwJ:OpR X (compareOp .NotEq) rNe:=by
 intro pins s σ H x y v u Q I rx ry h;obtain⟨hs,q⟩:=h;cases x with
 |non=>
  cases rx;cases y with
  |non=>cases ry;exact PySem.EqNone.ne_none_none (ZQ I q (by simp))
  |bl j=>cases ry;exact PySem.EqNone.ne_none_bool (ZQ I q (by simp))
  |int j=>obtain⟨t',rfl⟩:=ry;exact PySem.EqNone.ne_none_int (ZQ I q (by simp))
  |str j=>obtain⟨t',rfl⟩:=ry;exact PySem.EqNone.ne_none_str (ZQ I q (by simp))
  |_=>exact absurd (show false=true from hs) QJ
 |bl i=>
  cases rx;cases y with
  |non=>cases ry;exact PySem.EqNone.ne_bool_none (ZQ I q (by simp))
  |bl j=>cases ry;exact ne_bool (ZQ I q (congrArg not QrT))
  |str j=>obtain⟨t',rfl⟩:=ry;exact PySem.EqMixed.ne_bool_str (ZQ I q (by simp))
  |_=>exact absurd (show false=true from hs) QJ
 |int i=>
  obtain⟨t,rfl⟩:=rx;cases y with
  |non=>cases ry;exact PySem.EqNone.ne_int_none (ZQ I q (by simp))
  |int j=>obtain⟨t',rfl⟩:=ry;exact ne_int (ZQ I q (congrArg not Qm6))
  |str j=>obtain⟨t',rfl⟩:=ry;exact PySem.EqMixed.ne_int_str (ZQ I q (by simp))
  |_=>exact absurd (show false=true from hs) QJ
 |str i=>
  obtain⟨t,rfl⟩:=rx;cases y with
  |non=>cases ry;exact PySem.EqNone.ne_str_none (ZQ I q (by simp))
  |bl j=>cases ry;exact PySem.EqMixed.ne_str_bool (ZQ I q (by simp))
  |int j=>obtain⟨t',rfl⟩:=ry;exact PySem.EqMixed.ne_str_int (ZQ I q (by simp))
  |str j=>obtain⟨t',rfl⟩:=ry;exact ne_str (ZQ I q (congrArg not Qm5))
  |_=>exact absurd (show false=true from hs) QJ
 |byt i=>
  obtain⟨t,rfl⟩:=rx;cases y with
  |byt j=>obtain⟨t',rfl⟩:=ry;exact PySem.W.ne_bytes (ZQ I q (congrArg not Qm7))
  |_=>exact absurd (show false=true from hs) QJ
 |_=>cases y<;>exact absurd (show false=true from hs) QJ
theorem Qpa:OpR X (compareOp .Lt) (rI0 λi j=>.bl (decide (i<j))):=Qyh λ_ _ _ _ _ _ _ q=>lt_int q
theorem Qmf:OpR X (compareOp .LtE) (rI0 λi j=>.bl (decide (i<=j))):=Qyh λ_ _ _ _ _ _ _ q=>le_int q
theorem Qzu:OpR X (compareOp .Gt) (rI0 λi j=>.bl (decide (j<i))):=Qyh λ_ _ _ _ _ _ _ q=>gt_int q
theorem QwK:OpR X (compareOp .GtE) (rI0 λi j=>.bl (decide (j<=i))):=Qyh λ_ _ _ _ _ _ _ q=>ge_int q
def isObj:HO->Bool
 |.lst _=>true
 |.ins _ _ _=>true
 |_=>false
theorem obj_there{pins:List (Addr×Obj)}{s:Shared}{σ:St}{H:Hp}{a:Addr}{o:HO}(I:Inv X pins σ H s)(h:H a=some o)(p:isObj o=true):∃ob,s.heap.get? a=some ob/\ob.cls≠.type "tuple" := by
 cases o with
 |lst xs=>
  obtain⟨_,its,n,_,e⟩:xs.length<=sizeLine/\∃(its:List Value)(n:Nat),Vals xs its/\s.heap.get? a=some { cls:=.type "list",data:=.seq its.toArray n }:=I.hok a _ h
  exact⟨_,e,(by show Z2 "list" ≠ .type "tuple";decide +kernel)⟩
 |ins C dx fs=>
  have x:=I.hok a _ h;obtain⟨_,_,_,e,_⟩:=x;exact⟨_,e,(by show QQ C≠.type "tuple";exact λz=>by cases z)⟩
 |_=>exact absurd (show false=true from p) QJ
theorem OpR.or{f:Value->Value->Sem Value}{r r':R2}(h:OpR X f r)(h':OpR X f r'):OpR X f (λx y H Q=>r x y H Q∨r' x y H Q):=by
 intro pins s σ H x y v u Q I rx ry q;rcases q with q | q
 ·exact h pins s σ H x y v u Q I rx ry q
 ·exact h' pins s σ H x y v u Q I rx ry q
theorem Qai(b:Q3){op:QfK}(h:op≠.In:=by decide)(h2:op≠.NotIn:=by decide):behindInMarks op b=false:=by
 have e1:(op == CmpOp.In)=false:=by cases op<;>first | rfl | exact absurd rfl h
 have e2:(op == QyM)=false:=by cases op<;>first | rfl | exact absurd rfl h2
 cases b<;>simp[behindInMarks,e1,e2]
theorem Qtb{op:QfK}{r:R2}(ho:OpR X (compareOp op) r)(ha:PE X a ta)(hb:PE X b tb)(hm:behindInMarks op b=false):PE X (.Compare a [op] [b] pos) (tOp r ta tb):=by
 intro pins s σ H Q I h;exact wpAny_Compare1 (QzP ha hb I h λv u s2 x y H2 I2 rx ry q=>ho pins s2 σ H2 x y v u Q I2 rx ry q) hm
def Qsv(t:TE):TT:=λσ H Q=>t σ H λx H'=>∃k,x=.bl k/\Q k H'
theorem QeD{op:QfK}{r:R2}(ho:OpR X (compareOp op) r)(ha:PE X a ta)(hb:PE X b tb)(hm:behindInMarks op b=false):PT X (.Compare a [op] [b] pos) (Qsv (tOp r ta tb)):=by
 intro pins s σ H Q I h;refine Qr4 (thn (ha pins s σ H _ I h) λv s1 ⟨x,H1,I1,r1,q1⟩=>thn (hb pins s1 σ H1 _ I1 q1) λu s2 ⟨y,H2,I2,r2,q2⟩=>
  thn (ho pins s2 σ H2 x y v u _ I2 r1 r2 q2) λc s3 ⟨z,H3,I3,r3,k,e,q3⟩=>?_) hm
 subst e;cases r3;exact Zc ⟨H3,I3,q3⟩
def Qlp(r r':R2)(ta tb tc:TE):TE:=λσ H Q=>ta σ H λx H1=>tb σ H1 λy H2=>r x y H2 λz H3=>∃k,z=.bl k /\
 (if k=true then tc σ H3 λw' H4=>r' y w' H4 Q else Q (.bl false) H3)
theorem QoK{op op':QfK}{r r':R2}(ho:OpR X (compareOp op) r)(ho':OpR X (compareOp op') r')(ha:PE X a ta)(hb:PE X b tb)(hc:PE X c tc)
  (hm:lastMarks [op,op'] [b,c]=false:=by with_unfolding_all rfl):PE X (.Compare a [op,op'] [b,c] pos) (Qlp r r' ta tb tc):=by
 intro pins s σ H Q I h;refine Compare_chain (thn (ha pins s σ H _ I h) λv s1 ⟨x,H1,I1,r1,q1⟩=>chain_link (thn (hb pins s1 σ H1 _ I1 q1) λu s2 ⟨y,H2,I2,r2,q2⟩=>
  thn (ho pins s2 σ H2 x y v u _ I2 r1 r2 q2) λd s3 ⟨z,H3,I3,r3,k,e,q3⟩=>?_)) hm
 subst e;cases r3;refine Zc ?_
 cases k with
 |false=>exact ite_ff ⟨.bl false,H3,I3,rfl,q3⟩
 |true=>exact ite_tt (chain_last (thn (hc pins s3 σ H3 _ I3 q3) λw' s4 ⟨z',H4,I4,r4,q4⟩=>ho' pins s4 σ H4 y z' u w' Q I4 r2 r4 q4))
theorem Qow{op op':QfK}{r r':R2}(ho:OpR X (compareOp op) r)(ho':OpR X (compareOp op') r')(ha:PE X a ta)(hb:PE X b tb)(hc:PE X c tc)
  (hm:lastMarks [op,op'] [b,c]=false:=by with_unfolding_all rfl):PT X (.Compare a [op,op'] [b,c] pos) (Qsv (Qlp r r' ta tb tc)):=by
 intro pins s σ H Q I h;refine isTrue_chain (thn (ha pins s σ H _ I h) λv s1 ⟨x,H1,I1,r1,q1⟩=>test_link (thn (hb pins s1 σ H1 _ I1 q1) λu s2 ⟨y,H2,I2,r2,q2⟩=>
  thn (ho pins s2 σ H2 x y v u _ I2 r1 r2 q2) λd s3 ⟨z,H3,I3,r3,k,e,q3⟩=>?_)) hm
 subst e;cases r3;refine Zc ?_
 cases k with
 |false=>
  obtain⟨k',e',q'⟩:=q3;cases e';exact ite_ff ⟨H3,I3,q'⟩
 |true=>
  refine ite_tt (test_last (thn (hc pins s3 σ H3 _ I3 q3) λw' s4 ⟨z',H4,I4,r4,q4⟩=>thn (ho' pins s4 σ H4 y z' u w' _ I4 r2 r4 q4) λd' s5 ⟨z2,H5,I5,r5,k2,e2,q5⟩=>?_));subst e2;cases r5;exact Zc ⟨H5,I5,q5⟩
theorem Qjz:(sizeLine:Nat)<2^63:=by rw[Yh];decide
theorem vals1{x:V}{us:List Value}(r:Vals [x] us):∃u,us=[u]/\RelV x u:=by
 cases r with
 |cons r1 r2=>cases r2;exact⟨_,rfl,r1⟩
theorem vals2{x y:V}{us:List Value}(r:Vals [x,y] us):∃u w',us=[u,w']/\RelV x u/\RelV y w':=by
 cases r with
 |cons r1 r2=>
  cases r2 with
  |cons r3 r4=>cases r4;exact⟨_,_,rfl,r1,r3⟩
theorem QhG(hc:X.calm=true):CallR X (.builtin "max") (λxs H Q=>∃i j,xs=[.int i,.int j]/\Q (.int (if j > i then j else i)) H):=by
 intro pins s σ H xs us Q I r h;obtain⟨i,j,rfl,q⟩:=h;obtain⟨u,w',rfl,⟨t,rfl⟩,⟨t',rfl⟩⟩:=vals2 r;refine max_two_ints (I.ok.hd hc) λh' tk k=>⟨_,H,I.kept k,?_,q⟩
 by_cases hj:j > i
 ·rw[if_pos hj,if_pos hj];exact⟨_,rfl⟩
 ·rw[if_neg hj,if_neg hj];exact⟨_,rfl⟩
theorem QhF(hc:X.calm=true):CallR X (.builtin "min") (λxs H Q=>∃i j,xs=[.int i,.int j]/\Q (.int (if j<i then j else i)) H):=by
 intro pins s σ H xs us Q I r h;obtain⟨i,j,rfl,q⟩:=h;obtain⟨u,w',rfl,⟨t,rfl⟩,⟨t',rfl⟩⟩:=vals2 r;refine min_two_ints (I.ok.hd hc) λh' tk k=>⟨_,H,I.kept k,?_,q⟩
 by_cases hj:j<i
 ·rw[if_pos hj,if_pos hj];exact⟨_,rfl⟩
 ·rw[if_neg hj,if_neg hj];exact⟨_,rfl⟩
theorem Qnp:CallR X (.type "int") (λxs H Q=>(∃i,xs=[.int i]/\Q (.int i) H)∨∃k,xs=[.bl k]/\Q (.int (if k then 1 else 0)) H):=by
 intro pins s σ H xs us Q I r h;rcases h with⟨i,rfl,q⟩ | ⟨k,rfl,q⟩
 ·obtain⟨u,rfl,t,rfl⟩:=vals1 r;exact call_int_int ⟨.int i,H,I,⟨_,rfl⟩,q⟩
 ·obtain⟨u,rfl,r1⟩:=vals1 r;cases r1;exact call_int_bool ⟨.int (if k then 1 else 0),H,I.tok _,⟨_,rfl⟩,q⟩
end
structure ObjM (h:Heap) (x dx C:Addr) (mA:Str->Option Value):Prop where
 obj:h.get? x=some (PySem.W.instObj C dx)
 ns:h.Ns1 dx mA
 ne:dx≠x
theorem Qmw{h:Heap}{dx:Addr}{mA:Str->Option Value}(n:h.Ns1 dx mA):∃od,h.get? dx=some od/\∀name,PySem.W.lookIn name od=some (mA name):=by
 obtain⟨o,es,ep,ho,hd,hk,_,hm⟩:=n;refine⟨o,ho,λname=>?_⟩;have e:=hm name;unfold nsFind findBy at e;rw[<- Array.find?_toList] at e;unfold PySem.W.lookIn;rw[hd]
 dsimp only
 split
 ·rename_i y q
  rw[q] at e;exact congrArg some e
 ·rename_i q
  rw[q] at e;have a:es.toList.any (·.refKey)=false:=by
   rw[List.any_eq_false];intro y hy;obtain⟨z,t,hkey⟩:=hk y (ZK.mp hy);simp[DictEntry.refKey,hkey]
  have a':¬es.toList.any (·.refKey)=true:=by rw[a];exact QJ
  rw[if_neg a'];exact congrArg some e
theorem ObjM.look{h:Heap}{x dx C:Addr}{mA:Str->Option Value}(I:ObjM h x dx C mA):∃od,PySem.W.InstAt h x (PySem.W.instObj C dx) C (some od)/\∀name,PySem.W.lookIn name od=some (mA name):=
 let ⟨od,ho,hl⟩:=Qmw I.ns
 ⟨od,⟨I.obj,rfl,rfl,ho⟩,hl⟩
section
variable{prog:QC}{w:Ja}{A:Q2}{E:Value->Shared->Prop}{s:Shared}{K:PySem.W.Frag}{x dx C f:Addr}{mA:Str->Option Value}{name:Str}{v:Value}
end
section
variable{P:QC}{w:Ja}{H H':Hp}{h h':Heap}{a C dx:Addr}{fs fs':List (Str×V)}
theorem ins_get(hok:HOk P w H h)(e:H a=some (.ins C dx fs)):∃mA,ObjM h a dx C mA/\(∀f,QzS (fs.lookup f) (mA f))/\PySem.Within mA (fs.map (·.1))/\fs.length<=1000/\H dx=some (.own a):=by
 obtain⟨d,z,ne,ob,mA,n,r,q⟩:=(show ObjOk P w H h a (.ins C dx fs) from hok a _ e);exact⟨mA,⟨ob,n,ne⟩,r,q,z,d⟩
end
structure Cls (K:PySem.W.Frag) (C:Addr):Prop where
 pg:PySem.W.plainGet K C Str.empty=true
 hd:PySem.W.hasDictIn K C=true
 po:PySem.W.plainOver K C=true
 sa:PySem.W.findIn K (.ref C) "__setattr__" = some (some (.builtin "object.__setattr__"))
theorem Cls.get{K:PySem.W.Frag}{C:Addr}(c:Cls K C)(f:Str):PySem.W.plainGet K C f=true:=c.pg
section
variable{X:Cx}{pins:List (Addr×Obj)}{σ:St}{H:Hp}{s:Shared}{a C dx:Addr}{fs:List (Str×V)}{f:Str}{v:V}{A:Q2}{E:Value->Shared->Prop}
end
section
variable{X:Cx}{o e value:Q3}{f:Str}{pos pos' tpos:Pos}{ta tv:TE}
def rAdd:V->V->Hp->VK->Prop:=λx y H Q=>∃i j,x=.int i/\y=.int j/\Q (.int (i+j)) H
end
section
variable{X:Cx}{pins:List (Addr×Obj)}{σ:St}{H:Hp}{s:Shared}{A:Q2}{E:Value->Shared->Prop}{Q:Value->Shared->Prop}{c:Value}{b:Bool}
inductive TyOf (K:PySem.W.Frag) (H:Hp):V->Value->Prop where
 |non:TyOf K H .non (.type "NoneType")
 |bl (x:Bool):TyOf K H (.bl x) (.type "bool")
 |int (i:Int):TyOf K H (.int i) (.type "int")
 |str (x:Str):TyOf K H (.str x) (.type "str")
 |flt (x:UInt64):TyOf K H (.flt x) (.type "float")
 |lst {a:Addr} {xs:List V} (e:H a=some (.lst xs)):TyOf K H (.ref a) (.type "list")
 |frz {a:Addr} {o:Obj} {xs:List V} (e:H a=some (.frz o (.lst xs))):TyOf K H (.ref a) (.type "list")
 |tup {a:Addr} {xs:List V} (e:H a=some (.tup xs)):TyOf K H (.ref a) (.type "tuple")
 |dK {a:Addr} {kvs:List (Key×V)} (e:H a=some (.dK kvs)):TyOf K H (.ref a) (.type "dict")
 |dT {a:Addr} {kvs:List (List Key×V)} (e:H a=some (.dT kvs)):TyOf K H (.ref a) (.type "dict")
 |ins {a C dx:Addr} {fs:List (Str×V)} (e:H a=some (.ins C dx fs)) (cl:Cls K C) (ha:PySem.W.findIn K (.ref C) "__class__" = some (some (.builtin "object.__class__")))
   (hn:PySem.W.specialIn K (.builtin "object.__class__") "__get__" = some (some (.builtin "getset_descriptor.__get__"))) (htk:PySem.W.takesIn K (.builtin "object.__class__")=some true)
   (hm:PySem.W.mroIn K C (.type "object")=some true):TyOf K H (.ref a) (.ref C)
theorem QmE{x:V}{u t:Value}(I:Inv X pins σ H s)(rx:RelV x u)(ty:TyOf X.K H x t)(e:PySem.W.kitOne X.K t c=some b)(h:∀tk,Q (.bool b) { s with toks:=tk }) :
  wpAny (model X.prog X.w) A (call (.builtin "isinstance") [u,c]) Q E s:=by
 cases ty with
 |non=>cases(show u=JI from rx);exact PySem.W.kia_one PySem.W.kitx_none I.kIn QcN e (λz=>nomatch z) h
 |bl y=>cases(show u=Z3 y from rx);exact PySem.W.kia_one PySem.W.kitx_bool I.kIn QcN e (λz=>nomatch z) h
 |int i=>obtain⟨t,q⟩:=(show ∃t,u=QfF i t from rx);cases q;exact PySem.W.kia_one PySem.W.kitx_int I.kIn QcN e (λz=>nomatch z) h
 |str y=>obtain⟨t,q⟩:=(show ∃t,u=Qsb y t from rx);cases q;exact PySem.W.kia_one PySem.W.kitx_str I.kIn QcN e (λz=>nomatch z) h
 |flt y=>obtain⟨t,q⟩:=(show ∃t,u=Qyy y t from rx);cases q;exact PySem.W.kia_one PySem.W.kitx_float I.kIn QcN e (λz=>nomatch z) h
 |@lst a xs ea=>
  cases(show u=QQ a from rx);obtain⟨_,_,n,_,h1⟩:=(show ObjOk X.prog X.w H s.heap a (.lst xs) from I.hok a _ ea);exact PySem.W.kia_one PySem.W.kitx_list I.kIn ⟨_,h1,rfl⟩ e (λz=>nomatch z) h
 |@frz a ob xs ea=>
  cases(show u=QQ a from rx);obtain⟨_,_,_,n,_,h1⟩:=(show ObjOk X.prog X.w H s.heap a (.frz ob (.lst xs)) from I.hok a _ ea);exact PySem.W.kia_one PySem.W.kitx_list I.kIn ⟨_,h1,rfl⟩ e (λz=>nomatch z) h
 |@tup a xs ea=>
  cases(show u=QQ a from rx);obtain⟨_,_,_,p⟩:=(show ObjOk X.prog X.w H s.heap a (.tup xs) from I.hok a _ ea);obtain⟨o,h1,h2,_⟩:=p;exact PySem.W.kia_one PySem.W.kitx_tuple I.kIn ⟨o,h1,h2⟩ e (λz=>nomatch z) h
 |@dK a kvs ea=>
  cases(show u=QQ a from rx);obtain⟨_,_,vs,_,p⟩:=(show ObjOk X.prog X.w H s.heap a (.dK kvs) from I.hok a _ ea);obtain⟨o,es,ep,h1,h2,_⟩:=p;exact PySem.W.kia_one PySem.W.kitx_dict I.kIn ⟨o,h1,h2.1⟩ e (λz=>nomatch z) h
 |@dT a kvs ea=>
  cases(show u=QQ a from rx);obtain⟨_,_,xs,_,o,es,ep,h1,h2,_⟩:=(show ObjOk X.prog X.w H s.heap a (.dT kvs) from I.hok a _ ea);exact PySem.W.kia_one PySem.W.kitx_dict I.kIn ⟨o,h1,h2.1⟩ e (λz=>nomatch z) h
 |@ins a C dx fs ea cl ha hn htk hm=>
  cases(show u=QQ a from rx);obtain⟨mA,O,_⟩:=ins_get I.hok ea;obtain⟨od,J,_⟩:=O.look;exact PySem.W.kia_one (PySem.W.kitx_own (cl.get _) cl.hd ha hn htk hm) I.kIn J e (λz=>nomatch z) h
end
structure Room (k:Nat) (A:Q2):Prop where
 hd:A.handled=none
 dp:A.depth+3*k+5<recursionLimit
 un:A.units+16*k+200<cLine
theorem Room.mono{j k:Nat}{A:Q2}(r:Room k A)(h:j<=k):Room j A:=⟨r.hd,by have:=r.dp;omega,by have:=r.un;omega⟩
theorem Room.deeper{k:Nat}{A:Q2}(r:Room (k+1) A)(env:Env):Room k (A.deeper env):=
 ⟨r.hd,by have:=r.dp;show A.depth+1+3*k+5<_;omega,by have:=r.un;show A.units+3+16*k+200<_;omega⟩
theorem Room.depth{k:Nat}{A:Q2}(r:Room k A):A.depth<recursionLimit:=by have:=r.dp;omega
theorem Room.units{k:Nat}{A:Q2}(r:Room k A):A.units+64<cLine:=by have:=r.un;omega
def Qsx:TA:=λ_ H Q=>Q [] H
def Qe8(ta:TE)(tr:TA):TA:=λσ H Q=>ta σ H λx H1=>tr σ H1 λxs H2=>Q (x::xs) H2
section
variable{X:Cx}{e:Q3}{es:List Q3}{te:TE}{t:TA}{pos:Pos}
theorem ZP:PA X [] Qsx:=λ_ _ _ _ H Q I h=>Qn2 ⟨[],H,I,.nil,h⟩
theorem YG(ha:PE X e te)(hr:PA X es t)(hs:starEach (e::es) X.env=(false,eval e X.env)::starEach es X.env:=by rfl):PA X (e::es) (Qe8 te t):=by
 intro pos pins s σ H Q I h;rw[hs];show wpAny _ _ (spliced ((false,eval e X.env)::backTo pos (starEach es X.env))) _ _ s;refine QnQ (thn (ha pins s σ H _ I h) λu s1 ⟨x,H1,I1,r1,q1⟩=>?_);exact thn (hr pos pins s1 σ H1 _ I1 q1) λus s2 ⟨xs,H2,I2,r2,q2⟩=>⟨x::xs,H2,I2,.cons r1 r2,q2⟩
def QAQ(t:TA):TE:=λσ H Q=>t σ H λxs H1=>xs.length<=sizeLine/\∀p,H1 p=none->Q (.ref p) (upd H1 p (.lst xs))
theorem Qry(h:PA X es t):PE X (.List es pos) (QAQ t):=by
 intro pins s σ H Q I hq;refine QxX (thn (h pos pins s σ H _ I hq) λus s1 ⟨xs,H1,I1,r,z,q⟩=>⟨by rw[<- r.length];exact z,?_⟩);have hf:H1 s1.heap.objs.size=none:=I1.hok.fresh (Qj _);refine⟨.ref s1.heap.objs.size,upd H1 s1.heap.objs.size (.lst xs),I1.laid (t':=s1.toks) (λb u e=>Qd _ e) (Qj _) ?_,rfl,q _ hf⟩;exact⟨z,us,0,r,QD _ rfl⟩
end
abbrev Sp:=List V->Hp->VK->XK->Prop
abbrev CXT:=List Env->Hp->Shared->XK->Value->Shared->Prop
structure Env0 (P:QC) (w:Ja) (K:PySem.W.Frag) (mg:Str->Option Value) (base:Heap) (A:Q2) (outer:List Env) (s:Shared) (H:Hp):Prop where
 frames:A.frames=some outer
 mod:Mod K mg base
 bs:∀b o,base.get? b=some o->s.heap.get? b=some o/\H b=none
 bsz:base.objs.size<=s.heap.objs.size
 funs:s.heap.FunFrames base outer
 frf:∀b∈frs outer,H b=none
 hok:HOk P w H s.heap
 bare:Qd3 s.gens
def CE(outer:List Env)(P:QC)(w:Ja)(H:Hp)(s:Shared)(Q:VK)(u:Value)(s':Shared):Prop:=
 ∃v H',s'.os=s.os/\Qd3 s'.gens/\Un (frs outer) [] H H' s.heap s'.heap/\HOk P w H' s'.heap/\RelV v u/\Q v H'
def CR(CX:CXT)(outer:List Env)(P:QC)(w:Ja)(H:Hp)(s:Shared)(Q:VK)(E:XK)(r:QnO)(s':Shared):Prop:=
 match r with
 |.ok (.ret u)=>CE outer P w H s Q u s'
 |.ok _=>False
 |.error e=>CX outer H s E e s'
structure FnOk (P:QC) (w:Ja) (K:PySem.W.Frag) (mg:Str->Option Value) (base:Heap) (CX:CXT) (k:Nat) (f:Addr) (fd:QP) (ps:List Str) (sp:Sp):Prop where
 len:∀vs H Q E,sp vs H Q E->vs.length=ps.length
 run:∀(A:Q2)(outer:List Env)(s:Shared)(H:Hp)(args:Args)(us:List Value)(vs:List V)(Q:VK)(E:XK),Room k A->Env0 P w K mg base A outer s H->Qe7 s fd args (ps.zip us)->Vals vs us->sp vs H Q E ->
  codeAny (model P w) A (.call (.ref f) args) (CR CX outer P w H s Q E) s
theorem FnOk.imp{P:QC}{w:Ja}{K:PySem.W.Frag}{mg:Str->Option Value}{base:Heap}{CX:CXT}{k:Nat}{f:Addr}{fd:QP}{ps:List Str}{sp sp':Sp}(F:FnOk P w K mg base CX k f fd ps sp)
  (h:∀vs H Q E,sp' vs H Q E->sp vs H Q E):FnOk P w K mg base CX k f fd ps sp':=
 ⟨λvs H Q E q=>F.len vs H Q E (h _ _ _ _ q),λA outer s H args us vs Q E hr he hb hv hs=>F.run A outer s H args us vs Q E hr he hb hv (h _ _ _ _ hs)⟩
section
variable{X:Cx}{pins:List (Addr×Obj)}{σ:St}{H:Hp}{s s':Shared}
theorem Inv.env0(I:Inv X pins σ H s):Env0 X.prog X.w X.K X.mg X.base X.A X.stack s H:=
 ⟨I.ok.frames,I.ok.mod,I.bs,Jb I.ok.bsz I.sz,I.stack,I.stkFree,I.hok,I.bare⟩
theorem Inv.after{Q:VK}{u:Value}(I:Inv X pins σ H s)(h:CE X.stack X.prog X.w H s Q u s'):EP X pins σ Q u s':=by
 obtain⟨v,H',os,bare,un,hok,r,q⟩:=h;obtain⟨hh,g,d,t,os'⟩:=s';obtain rfl:os'=s.os:=os;exact⟨v,H',I.call (h':=hh) (g':=g) (d':=d) (t':=t) (ch:=[]) un hok bare (λb z=>absurd z (by simp)),r,q⟩
end
def Qlq(sp:Sp)(dvs:List V)(E:XK)(t:TA):TE:=λσ H Q=>t σ H λvs H1=>sp (vs++dvs) H1 Q E
def Binds(K:PySem.W.Frag)(fd:QP)(ps:List Str)(ds:List Value):Prop:=
 ∀(s:Shared)(us:List Value),K.In s.heap->(us++ds).length=ps.length->Qe7 s fd ⟨us,[]⟩ (ps.zip (us++ds))
theorem Binds.all{K:PySem.W.Frag}{fd:QP}{ps:List Str}(h:∀us:List Value,us.length=ps.length->bindArgs fd ⟨us,[]⟩=pure (ps.zip us)):Binds K fd ps []:=λs us _ hl=>by
 rw[Jt] at hl ⊢;exact .of_eq (h us hl)
def Qb1(CX:CXT)(X:Cx)(E:XK):Prop:=∀(pins:List (Addr×Obj))(σ:St)(H:Hp)(s:Shared)(e:Value)(s':Shared),Inv X pins σ H s->CX X.stack H s E e s'->X.xe e s'
section
variable{X:Cx}{CX:CXT}{k:Nat}{f C:Addr}{fd:QP}{ps:List Str}{sp:Sp}{dvs:List V}{ds:List Value}{E:XK}{x m:Str}{p pos apos:Pos}{e o:Q3}{es:List Q3}{ta:TE}{t:TA}
theorem QvV{pins:List (Addr×Obj)}{σ:St}{H:Hp}{s:Shared}{Q:VK}{us:List Value}{vs:List V}(F:FnOk X.prog X.w X.K X.mg X.base CX k f fd ps sp)(hr:Room k X.A)(hb:Binds X.K fd ps ds)(hd:Vals dvs ds)(hx:Qb1 CX X E)
  (I:Inv X pins σ H s)(r:Vals vs us)(h:sp (vs++dvs) H Q E):wpAny (model X.prog X.w) X.A (call (.ref f) us) (EP X pins σ Q) X.xe s:=by
 have r2:Vals (vs++dvs) (us++ds):=r.append hd;have hl:(us++ds).length=ps.length:=by rw[<- r2.length];exact F.len _ _ _ _ h
 refine QgL (Qa5 (F.run X.A X.stack s H ⟨us,[]⟩ (us++ds) (vs++dvs) Q E hr I.env0 (hb s us I.kIn hl) r2 h) λr s' hq=>?_);cases r with
 |error e=>exact hx pins σ H s e s' I hq
 |ok fl=>
  cases fl with
  |ret u=>exact I.after hq
  |next=>exact JE hq
  |brk=>exact JE hq
  |cont=>exact JE hq
theorem QbT(F:FnOk X.prog X.w X.K X.mg X.base CX k f fd ps sp)(hr:Room k X.A)(hg:Gl X x)(hm:X.mg x=some (.ref f))(hk:PySem.W.keepIn X.K (.ref f)=true)(hb:Binds X.K fd ps ds)(hd:Vals dvs ds)(hx:Qb1 CX X E)
  (ha:PA X (e::es) t)(hdb:(x == ("__debug__" : Str))=false:=by decide)(he:starEach (e::es) X.env=(false,eval e X.env)::starEach es X.env:=by rfl)(hpl:(backTo pos (starEach es X.env)).any (·.1)=false:=by rfl) :
  PE X (.Call (.Name x p) (e::es) [] pos) (Qlq sp dvs E t):=by
 intro pins s σ H Q I h;refine Qb3 (QeK I hg hm ?_ hdb);refine PySem.W.callWith_K (h₀:=X.base) I.ok.mod.kin hk (thn (ha pos pins s σ H _ I h) λus s1 ⟨vs,H1,I1,r,q⟩=>⟨I1.kIn,?_⟩) he hpl;exact QvV F hr hb hd hx I1 r q
end
section
variable{X:Cx}{CX:CXT}{k:Nat}{f C:Addr}{fd:QP}{ps ks:List Str}{sp:Sp}{E:XK}{x m:Str}{p pos apos kpos:Pos}{e o:Q3}{es:List Q3}{kws:List Keyword}{te ta:TE}{t tk:TA}{nm:Option Str}
variable{g:List Value->List Value->List Value}{gV:List V->List V->List V}
end
structure JA (N P:List Str) (sc:YM):Prop where
 kind:sc.kind=.function
 co:sc.isCoroutine=false
 gen:sc.isGenerator=false
 nd:N.Nodup
 pre:N.take P.length=P
 par:∀x∈P,sc.names.lookup x=some .local∨sc.names.lookup x=some .cell
 nofree:∀y∈sc.names,y.2≠.free
theorem QhL{kindOf:Str->Option Qa0}{x:Str}:∀{binds:List (Str×Value)}{m:Str->Option Value},(∀v,(x,v)∉binds)->bindL kindOf binds m x=m x
 |[],_,_=>rfl
 |(n,v)::r,m,h=>by
  unfold bindL;rw[QhL λw hw=>h w (Q7 _ hw)];split
  ·have:x≠n:=by rintro rfl;exact h v JM
   simp[this]
  ·rfl
theorem QhN{kindOf:Str->Option Qa0}{x:Str}:∀{binds:List (Str×Value)}{m:Str->Option Value},(∀v,(x,v)∉binds)->bindC kindOf binds m x=m x
 |[],_,_=>rfl
 |(n,v)::r,m,h=>by
  unfold bindC;rw[QhN λw hw=>h w (Q7 _ hw)];split
  ·rfl
  ·have:x≠n:=by rintro rfl;exact h v JM
   simp[this]
theorem QhM{kindOf:Str->Option Qa0}{x:Str}{v:Value}:∀{P:List Str}{vs:List Value}{i:Nat}{m:Str->Option Value},P.Nodup->P[i]? = some x->vs[i]? = some v->kindOf x=some .local ->
  bindL kindOf (P.zip vs) m x=some v
 |[],_,_,_,_,h,_,_=>by simp at h
 |_::_,[],_,_,_,_,h,_=>by simp at h
 |p::P,w::vs,0,m,nd,h1,h2,hk=>by
  simp at h1 h2;subst h1;subst h2;show bindL kindOf ((p,w)::P.zip vs) m p=_;unfold bindL;rw[QhL λv hv=>(YI.mp nd).1 (QcI hv).1,if_pos hk];simp
 |p::P,w::vs,i+1,m,nd,h1,h2,hk=>by
  show bindL kindOf ((p,w)::P.zip vs) m x=_;unfold bindL;exact QhM (i:=i) (YI.mp nd).2 (by simpa using h1) (by simpa using h2) hk
theorem QhO{kindOf:Str->Option Qa0}{x:Str}{v:Value}:∀{P:List Str}{vs:List Value}{i:Nat}{m:Str->Option Value},P.Nodup->P[i]? = some x->vs[i]? = some v->kindOf x≠some .local ->
  bindC kindOf (P.zip vs) m x=some v
 |[],_,_,_,_,h,_,_=>by simp at h
 |_::_,[],_,_,_,_,h,_=>by simp at h
 |p::P,w::vs,0,m,nd,h1,h2,hk=>by
  simp at h1 h2;subst h1;subst h2;show bindC kindOf ((p,w)::P.zip vs) m p=_;unfold bindC;rw[QhN λv hv=>(YI.mp nd).1 (QcI hv).1,if_neg hk];simp
 |p::P,w::vs,i+1,m,nd,h1,h2,hk=>by
  show bindC kindOf ((p,w)::P.zip vs) m x=_;unfold bindC;exact QhO (i:=i) (YI.mp nd).2 (by simpa using h1) (by simpa using h2) hk
def start(N:List Str)(vs:List V):St:=vs.map some++Q1 (N.length - vs.length) none
def cxOf(CX:CXT)(P:QC)(w:Ja)(K:PySem.W.Frag)(mg:Str->Option Value)(base:Heap)(N:List Str)(qual:Str)(scope:YM)(f:Addr)(cd:Value)(A:Q2)(outer:List Env)(s:Shared)(H:Hp)(E:XK):Cx where
 prog:=P
 w:=w
 K:=K
 mg:=mg
 base:=base
 A:=A.deeper (envOfC qual scope s.heap.objs.size f cd)
 N:=N
 s₀:=s
 H₀:=H
 env:=envOfC qual scope s.heap.objs.size f cd
 outer:=outer
 stack:=envOfC qual scope s.heap.objs.size f cd::outer
 ex:=[]
 calm:=true
 fn:=λ_=>true
 pn:=[]
 xe:=λe s'=>wpAny (model P w) (A.deeper (envOfC qual scope s.heap.objs.size f cd)) (leaving (envOfC qual scope s.heap.objs.size f cd) e) (λ_ s''=>CX outer H s E e s'') (λe' s''=>CX outer H s E e' s'') s'
theorem QjU{sc:YM}{n:Nat}{x:Str}(h:sc.names.lookup x=some .cell):∃c,(cellsFrom n sc.names []).lookup x=some c:=by
 have q:=PySem.W.cellsFrom_some sc.names n [] (.inl h);exact QgS.mp q
theorem Qhv{CX:CXT}{P:QC}{w:Ja}{K:PySem.W.Frag}{mg:Str->Option Value}{base:Heap}{N ps:List Str}{qual:Str}{scope:YM}{f:Addr}{cd:Value}{A:Q2}{outer:List Env}{s s1:Shared}{H:Hp}{E:XK}{us:List Value}{vs:List V}
  (S:JA N ps scope)(hd:A.handled=none)(e0:Env0 P w K mg base A outer s H)(hl:vs.length=ps.length)(r:Vals vs us)
  (x:InCallC s s.heap.objs.size (bindL (envOfC qual scope s.heap.objs.size f cd).kindOf (ps.zip us) λ_=>none) (cellsFrom (s.heap.objs.size+1) scope.names []) (bindC (envOfC qual scope s.heap.objs.size f cd).kindOf (ps.zip us) λ_=>none) s1) :
  Inv (cxOf CX P w K mg base N qual scope f cd A outer s H E) [] (start N vs) H s1:=by
 have hpl:ps.length<=N.length:=by have:=congrArg QgF S.pre;rw[Jr] at this;omega
 obtain⟨h1,tk,rfl,hk⟩:=x.done;have noA:∀b:Addr,b∉(cxOf CX P w K mg base N qual scope f cd A outer s H E).ex:=λb z=>absurd (show b∈([]:List Addr) from z) (by simp)
 refine⟨⟨e0.mod,S.kind,rfl,rfl,Qj _,λy z c h1 h2=>?_,λy hy=>?_,λy c _ h=>?_,λ_=>hd,Around.frames_deeper e0.frames,.inr ⟨rfl,rfl⟩,λb z=>absurd z (noA b),e0.bs,e0.bsz,λb _ _=>noA b,λb z=>absurd z (noA b),e0.funs,e0.frf⟩,
  rfl,e0.bare,Un.kept hk,⟨_,x.toInCall.ns,λi y v h1 h2 h3=>?_⟩,λy c h=>⟨_,x.cell y c h⟩,e0.hok.fresh (Qj _),λy c h=>?_,λp hp=>absurd (show p∈([]:List (Addr×Obj)) from hp) (by simp),e0.hok.kept hk,?_⟩
 ·exact name_of_addr x.apart (PySem.mem_of_lookup h1) (PySem.mem_of_lookup h2)
 ·have hy:scope.names.lookup y=some .cell∨scope.names.lookup y=some .free:=hy;rcases hy with hy | hy
  ·exact QjU hy
  ·exact absurd rfl (S.nofree _ (PySem.mem_of_lookup hy))
 ·exact Z8 (x.above y c (PySem.mem_of_lookup h))
 ·have hi:i<vs.length:=by
   unfold start at h2;by_cases hi:i<vs.length
   ·exact hi
   ·rw[Ji (by simpa using hi)] at h2;rw[Qb5] at h2;split at h2<;>cases h2
  have ha:vs[i]? = some v:=by
   unfold start at h2;rw[ZD (by simpa using hi),Qz] at h2;cases e:vs[i]? with
   |none=>rw[e] at h2;cases h2
   |some a=>rw[e] at h2;cases h2;rfl
  obtain⟨u,hu,rv⟩:=r.get ha;have hp:ps[i]? = some y:=by
   rw[<- S.pre,Qh5 (by omega)];exact h1
  have ndP:ps.Nodup:=by rw[<- S.pre];exact S.nd.sublist (Qp4 _ _)
  refine⟨u,rv,?_⟩;rcases S.par y (QK hp) with k | k
  ·exact .inl ⟨k,QhM ndP hp hu k⟩
  ·obtain⟨c,e⟩:=QjU (n:=s.heap.objs.size+1) k;refine .inr ⟨.inl k,c,e,?_⟩;have q:=x.cell y c e;rw[QhO ndP hp hu (by show scope.names.lookup y≠_;rw[k];decide)] at q;exact q
 ·exact e0.hok.fresh (Z8 (x.above y c (PySem.mem_of_lookup h)))
 ·unfold start;show _=N.length;rw[Qw,Qe,QcJ];omega
theorem Qxn{CX:CXT}{P:QC}{w:Ja}{K:PySem.W.Frag}{mg:Str->Option Value}{base:Heap}{k:Nat}{f:Addr}{name qual:Str}{params:Arguments}{body:List Yt}{scope:YM}{dV kV doc pm cdv ct oc:Value}{an od:Option Addr}
  {osl:Array (Option Value)} {N ps:List Str} {sp:Sp} (lk:K.lookup f=some ⟨oc,od,.func (PySem.W.fnOf name qual params body scope dV kV doc pm an cdv ct),osl⟩) (hcd:PySem.W.codeIn K cdv qual=true) (S:JA N ps scope)
  (len:∀vs H Q E,sp vs H Q E->vs.length=ps.length)
  (hbody:∀(A:Q2)(outer:List Env)(s:Shared)(H:Hp)(vs:List V)(Q:VK)(E:XK),Room k (A.deeper (envOfC qual scope s.heap.objs.size f cdv))->sp vs H Q E ->
   ∃t,PSs (cxOf CX P w K mg base N qual scope f cdv A outer s H E) body t/\t { nx:=λ_ H'=>Q .non H',rt:=Q } (start N vs) H) :
  FnOk P w K mg base CX (k+1) f (PySem.W.fnOf name qual params body scope dV kV doc pm an cdv ct) ps sp:=by
 refine⟨len,λA outer s H args us vs Q E hr e0 hb r hsp=>?_⟩;have hl:=len _ _ _ _ hsp;have KX:K.In s.heap:=e0.mod.kin.keeps λb o e=>(e0.bs b o e).1
 have lim:s.heap.NoLimit:=e0.mod.nolimit.keeps λb o e=>(e0.bs b o e).1
 have hkind:∀y∈ps.zip us,scope.names.lookup y.1=some .local∨(scope.names.lookup y.1=some .cell/\((cellsFrom (s.heap.objs.size+1) scope.names []).lookup y.1).isSome=true):=λ⟨n,v⟩ hy=>by
  rcases S.par n (QcI hy).1 with q | q
  ·exact .inl q
  ·exact .inr ⟨q,PySem.W.cellsFrom_some _ _ _ (.inl q)⟩
 refine Qsa hr.depth (KX _ _ lk) rfl S.co S.gen rfl (PySem.W.codeRec_of KX hcd) (hb _ _ _ _ ?_);refine QkP S.kind hkind λenv he s1 x=>?_
 subst he;refine⟨lim.keeps x.toInCall.keep,codeAny_func ?_⟩;obtain⟨t,ht,hq⟩:=hbody A outer s H vs Q E (hr.deeper _) hsp;have I:Inv (cxOf CX P w K mg base N qual scope f cdv A outer s H E) [] (start N vs) H s1:=Qhv S hr.hd e0 hl r x;refine wpAny_mono (ht [] s1 (start N vs) H _ I hq) (λfl s' hs=>?_) λe s' hs=>hs
 have fin:∀{σ':St}{H':Hp}{v:V}{u:Value},Inv (cxOf CX P w K mg base N qual scope f cdv A outer s H E) [] σ' H' s'->RelV v u->Q v H'->CE outer P w H s Q u s':=
  λ{σ' H' v u} J rv q=>⟨v,H',J.os,J.bare,J.base,J.hok,rv,q⟩
 cases fl with
 |ret u=>
  obtain⟨v,σ',H',J,rv,q⟩:=hs;exact fin J rv q
 |next=>
  obtain⟨σ',H',J,q⟩:=hs;exact fin (v:=V.non) (u:=JI) J rfl q
 |brk=>
  obtain⟨_,_,_,q⟩:=hs;exact JE q
 |cont=>
  obtain⟨_,_,_,q⟩:=hs;exact JE q
section
variable{X:Cx}{x:Str}{p pos:Pos}{e:Q3}{es:List Q3}{t:TA}{id T:String}{r:List V->Hp->VK->Prop}
def tCB(r:List V->Hp->VK->Prop)(t:TA):TE:=λσ H Q=>t σ H λvs H1=>r vs H1 Q
theorem Qa2(hc:CallR X (.builtin id) r)(hg:Gl X x)(hm:X.mg x=none)(hv:bootBuiltins x=some (.builtin id))(ha:PA X (e::es) t)(hn:x ≠ "__name__" := by decide)(hdb:(x == ("__debug__" : Str))=false:=by decide)
  (he:starEach (e::es) X.env=(false,eval e X.env)::starEach es X.env:=by rfl)(hpl:(backTo pos (starEach es X.env)).any (·.1)=false:=by rfl):PE X (.Call (.Name x p) (e::es) [] pos) (tCB r t):=by
 intro pins s σ H Q I h;refine Qb3 (QdW I hg hm hv ?_ hn hdb);exact PyProof.Rows.callWith_builtin1 (thn (ha pos pins s σ H _ I h) λus s1 ⟨vs,H1,I1,r1,q1⟩=>hc pins s1 σ H1 vs us Q I1 r1 q1) he hpl
theorem QlZ(hc:CallR X (.type T) r)(hg:Gl X x)(hm:X.mg x=none)(hv:bootBuiltins x=some (.type T))(ha:PA X (e::es) t)(hn:x ≠ "__name__" := by decide)(hdb:(x == ("__debug__" : Str))=false:=by decide)
  (he:starEach (e::es) X.env=(false,eval e X.env)::starEach es X.env:=by rfl)(hpl:(backTo pos (starEach es X.env)).any (·.1)=false:=by rfl):PE X (.Call (.Name x p) (e::es) [] pos) (tCB r t):=by
 intro pins s σ H Q I h;refine Qb3 (QdW I hg hm hv ?_ hn hdb);exact Zl (thn (ha pos pins s σ H _ I h) λus s1 ⟨vs,H1,I1,r1,q1⟩=>hc pins s1 σ H1 vs us Q I1 r1 q1) he hpl
end
end L2
namespace HT
theorem Qor(A:Q2)(s:Shared)(a:Int)(t:Tok)(c:Int)(u:Tok)(prog:QC)(w:Ja)(E:Value->Shared->Prop)(Q:Value->Shared->Prop)(h:Q (.bool (decide (a<c))) s) :
  wpAny (model prog w) A (richCompare .Lt (.int a t) (.int c u)) Q E s:=
 (PyProof.Rows.lt_int h:wpAny (model prog w) A (compareOp .Lt (.int a t) (.int c u)) Q E s)
section
open PySem.SeqAt
open PySem.AutoSeq1 (wpAny_loadPart')
open PySem.MeetsSeq PySem.MeetsSeq2 PySem.MeetsSeq3
end
section
variable{prog:QC}{w:Ja}{A:Q2}{E:Value->Shared->Prop}{s:Shared}
theorem QuH{t b:Addr}{vs ws:List Value}{Q:Value->Shared->Prop}(ht:IsTup s.heap t vs.toArray)(hb:IsTup s.heap b ws.toArray)(hv:vs≠[])
  (h1:ws=[]->Q (.ref t) s)(h2:ws≠[]->Q (.ref s.heap.objs.size) { s with heap:=s.heap.push { cls:=.type "tuple",data:=.seq (vs++ws).toArray } })
  (hsz:vs.length+ws.length<=sizeLine):wpAny (model prog w) A (binaryOp .Add (.ref t) (.ref b)) Q E s:=by
 obtain⟨⟨cls,dd,data,sl⟩,ho,hc,n,hd⟩:=id ht;obtain⟨⟨cls2,dd2,data2,sl2⟩,ho2,hc2,n2,hd2⟩:=id hb;simp only at hc hd hc2 hd2;subst hc hd hc2 hd2;have e:vs.toArray++ws.toArray=(vs++ws).toArray:=by simp
 by_cases hw:ws=[]
 ·exact Qr9 ⟨_,ho,rfl⟩ ⟨_,ho2,rfl⟩ Qh2 QnU PySem.F.slot_tuple_add PySem.F.entry_tuple_add (PySem.F.args_tuple_add_2 _ _)
   (tuple_addW1 t b vs.toArray ws.toArray n n2 dd dd2 sl sl2 (by simpa using hv) (by simp[hw])) ⟨ho,ho2,h1 hw⟩
 ·refine Qr9 ⟨_,ho,rfl⟩ ⟨_,ho2,rfl⟩ Qh2 QnU PySem.F.slot_tuple_add PySem.F.entry_tuple_add (PySem.F.args_tuple_add_2 _ _)
   (tuple_addW2 t b vs.toArray ws.toArray n n2 dd dd2 sl sl2 (by simpa using hv) (by simpa using hw) (by rw[Qr,Qr];exact hsz)) ⟨ho,ho2,?_⟩
  rw[e];exact h2 hw
def sIx(n d:Nat):Option Int->Nat
 |none=>d
 |some v=>if v<0 then(v+(n:Int)).toNat else min v.toNat n
theorem Qol(n d:Nat):sIx n d none=d:=rfl
theorem QsI(n d k:Nat):sIx n d (some (k:Int))=min k n:=by
 show(if(k:Int)<0 then((k:Int)+(n:Int)).toNat else min (k:Int).toNat n)=min k n;rw[if_neg (by omega),ZR]
theorem QvS(n d:Nat)(hd:d<=n)(o:Option Int):sIx n d o<=n:=by
 cases o with
 |none=>exact hd
 |some v=>
  show(if v<0 then(v+(n:Int)).toNat else min v.toNat n)<=n;by_cases hv:v<0
  ·rw[if_pos hv];omega
  ·rw[if_neg hv];exact QfI _ _
theorem Qnj(v:Int)(n d:Nat):(if v<0 then max (v+(n:Int)) 0 else min v (n:Int))=((sIx n d (some v):Nat):Int):=by
 show(if v<0 then max (v+(n:Int)) 0 else min v (n:Int))=(((if v<0 then(v+(n:Int)).toNat else min v.toNat n):Nat):Int);by_cases hv:v<0
 ·simp only[if_pos hv];omega
 ·simp only[if_neg hv];omega
theorem QkO(lo hi:Option Int)(n:Nat):QaL lo hi 1 (n:Int)=(((sIx n 0 lo:Nat):Int),((sIx n n hi:Nat):Int)):=by
 have h1:¬((1:Int)<0):=by omega
 unfold QaL;simp only[h1,if_false];refine Prod.ext ?_ ?_
 ·cases lo with
  |none=>rfl
  |some v=>exact Qnj v n 0
 ·cases hi with
  |none=>rfl
  |some v=>exact Qnj v n n
theorem Qkl(i j:Nat):Yz (i:Int) (j:Int) 1=j - i:=by
 unfold Yz;have h1:(1:Int) > 0:=by omega
 simp only[h1,if_true,Int.ediv_one];split<;>omega
theorem Qfl{v:Value}{o:Option Int}{Q:Option Int->Shared->Prop}(p:QhW v o)(h:Q o s):wpAny (model prog w) A (QyQ v) Q E s:=by
 cases p with
 |none=>exact slicePart_none h
 |int i t=>exact slicePart_int h
theorem QbB{sl:Addr}{vl vu:Value}{lo hi:Option Int}{n:Nat}{Q:Int×Int×Nat->Shared->Prop}(hs:s.heap.IsSliceOf sl vl vu .none)(pl:QhW vl lo)(pu:QhW vu hi)
  (h:Q (((sIx n 0 lo:Nat):Int),1,sIx n n hi - sIx n 0 lo) s):wpAny (model prog w) A (QdL (.ref sl) (pure (n:Int))) Q E s:=by
 obtain⟨os,hos,hcs,hds⟩:=id hs;unfold QdL QyR;refine wpAny_bind (wpAny_bind (ZI hos hds (x:=vl) rfl (wpAny_bind (ZI hos hds (x:=vu) rfl (wpAny_bind (ZI hos hds (x:=.none) rfl (wpAny_pure ?_)))))));refine wpAny_bind (slicePart_none ?_);show wpAny _ _ (if((1:Int) == 0)=true then _ else _) _ _ s;rw[if_neg (by decide)];refine wpAny_bind (Qfl pl (wpAny_bind (Qfl pu (wpAny_bind (wpAny_pure ?_)))));show wpAny _ _ (match QaL lo hi 1 (n:Int) with | (lo,hi)=>pure (lo,(1:Int),Yz lo hi 1)) _ _ s;rw[QkO lo hi n];show wpAny _ _ (pure (((sIx n 0 lo:Nat):Int),(1:Int),Yz ((sIx n 0 lo:Nat):Int) ((sIx n n hi:Nat):Int) 1)) _ _ s;rw[Qkl];exact wpAny_pure h
theorem QoF(xs:Array Value)(i k:Nat):((Qq k).filterMap λ(m:Nat)=>xs[((i:Int)+(m:Int)*1).toNat]?).toArray=((xs.toList.drop i).take k).toArray:=by
 have e:(λ(m:Nat)=>xs[((i:Int)+(m:Int)*1).toNat]?)=λm=>xs[i+m]? := by
  funext m
  have:((i:Int)+(m:Int)*1).toNat=i+m:=by omega
  rw[this]
 rw[e];have:=pick_run xs i k;rw[Qbr] at this;have e2:((λx=>xs[x]?)∘λx=>i+x)=λm=>xs[i+m]? := rfl
 rw[e2] at this;rw[this]
theorem QdD{t sl:Addr}{items:Array Value}{vl vu:Value}{lo hi:Option Int}{Q:Value->Shared->Prop}(ht:IsTup s.heap t items)(hs:s.heap.IsSliceOf sl vl vu .none)(pl:QhW vl lo)(pu:QhW vu hi)
  (hw:¬(sIx items.size 0 lo=0/\sIx items.size items.size hi=items.size))
  (h:Q (.ref s.heap.objs.size) { s with heap:=s.heap.push { cls:=.type "tuple",data:=.seq ((items.toList.drop (sIx items.size 0 lo)).take (sIx items.size items.size hi - sIx items.size 0 lo)).toArray } })
  (hsz:items.size<=sizeLine):wpAny (model prog w) A (getItem (.ref t) (.ref sl)) Q E s:=by
 have htake:sizeOk (.seq ((items.toList.drop (sIx items.size 0 lo)).take (sIx items.size items.size hi - sIx items.size 0 lo)).toArray):=by
  show((items.toList.drop (sIx items.size 0 lo)).take (sIx items.size items.size hi - sIx items.size 0 lo)).toArray.size<=sizeLine;rw[Qr,Jr,Yo,Qc];omega
 have hj:sIx items.size items.size hi<=items.size:=QvS _ _ (Qj _) hi;obtain⟨os,hos,hcs,hds⟩:=id hs;have hTs:s.TypeIs (.ref sl) "slice" := ⟨os,hos,hcs⟩;unfold getItem
 try with_reducible refine JL ?_
 first | refine wpAny_bind (wpAny_pure ?_) | skip
 refine wpAny_bind (Qyq ht.typeIs (by decide) ?_);refine wpAny_bind (Zd (name:=Qal "__getitem__") ht.typeIs J3
  (JW J3 ht.typeIs Qu9 ?_ (QxY _ _)))
 show wpAny _ _ (QdK (.ref t) >>= _) _ _ s;refine wpAny_bind (tupleItemsOf_ ht ?_);refine wpAny_bind (Qb2 hTs ?_);rw[if_pos (by decide)];refine wpAny_bind (QbB hs pl pu ?_);have hno:¬((((sIx items.size 0 lo:Nat):Int) == 0&&(1:Int) == 1&&(sIx items.size items.size hi - sIx items.size 0 lo) == items.size)=true):=by
  intro q;rw[JS,JS] at q;have q1:((sIx items.size 0 lo:Nat):Int)=0:=eq_of_beq q.1.1;have q2:sIx items.size items.size hi - sIx items.size 0 lo=items.size:=eq_of_beq q.2;exact hw ⟨by omega,by omega⟩
 show wpAny _ _ (if(((sIx items.size 0 lo:Nat):Int) == 0&&(1:Int) == 1&&(sIx items.size items.size hi - sIx items.size 0 lo) == items.size)=true then _ else _) _ _ s;rw[if_neg hno,QoF]
 first
  |exact wpAny_bind (m:=YK _) (JQ (wpAny_pure ⟨_,rfl,wpAny_pure h⟩) htake)
  |exact wpAny_bind (m:=YK _) (JQ (wpAny_bind (wpAny_pure (wpAny_pure ⟨_,rfl,wpAny_pure h⟩))) htake)
  |exact wpAny_bind (wpAny_bind (m:=YK _) (JQ (wpAny_pure (wpAny_pure ⟨_,rfl,wpAny_pure h⟩)) htake))
  |exact wpAny_bind (wpAny_bind (m:=YK _) (JQ (wpAny_pure ⟨_,rfl,wpAny_pure h⟩) htake))
end
end HT
namespace L2
abbrev TO:=St->Hp->(Option Int->Hp->Prop)->Prop
def PO(X:Cx)(e:Option Q3)(t:TO):Prop:=
 ∀(pins:List (Addr×Obj))(s:Shared)(σ:St)(H:Hp)(Q:Option Int->Hp->Prop),Inv X pins σ H s->t σ H Q ->
  wpAny (model X.prog X.w) X.A (evalPart e X.env) (λu s'=>∃o H',Inv X pins σ H' s'/\QhW u o/\Q o H') X.xe s
def Qsw:TO:=λ_ H Q=>Q none H
def QyV(t:TE):TO:=λσ H Q=>t σ H λx H1=>∃i,x=.int i/\Q (some i) H1
theorem intsAre_of{ns:List Int}:∀{us:List Value},Vals (ns.map V.int) us->IntsAre us ns:=by
 induction ns with
 |nil=>intro us r;rw[Qe5] at r;cases r;exact .nil
 |cons n ns ih=>
  intro us r;rw[Jd] at r;cases r with
  |cons r1 r2=>
   obtain⟨t,e⟩:=r1;subst e;exact .cons n t (ih r2)
section
variable{X:Cx}{e:Q3}{te:TE}{lo hi:Option Q3}{tl th:TO}{pos p2:Pos}
theorem Qs5:PO X none Qsw:=by
 intro pins s σ H Q I h;rw[evalPart_none];exact wpAny_pure ⟨none,H,I,.none,h⟩
theorem Qs4(h:PE X e te):PO X (some e) (QyV te):=by
 intro pins s σ H Q I hw;rw[evalPart_some];refine thn (h pins s σ H _ I hw) λu s1 ⟨x,H1,I1,r1,q1⟩=>?_
 obtain⟨i,rfl,q⟩:=q1;obtain⟨t,rfl⟩:=r1;exact⟨some i,H1,I1,.int i t,q⟩
def SlR(X:Cx)(r:V->Option Int->Option Int->Hp->VK->Prop):Prop:=
 ∀(pins:List (Addr×Obj))(s:Shared)(σ:St)(H:Hp)(x:V)(v vl vu:Value)(lo hi:Option Int)(sl:Addr)(Q:VK),Inv X pins σ H s->RelV x v->s.heap.IsSliceOf sl vl vu .none->QhW vl lo->QhW vu hi->r x lo hi H Q ->
  ∃T id,typeLookup (.type T) "__getitem__" = pure (some (.builtin id))/\s.TypeIs v T/\wpAny (model X.prog X.w) X.A (getItem v (.ref sl)) (EP X pins σ Q) X.xe s
def tSl(r:V->Option Int->Option Int->Hp->VK->Prop)(te:TE)(tl th:TO):TE:=λσ H Q=>te σ H λx H1=>tl σ H1 λl H2=>th σ H2 λu H3=>r x l u H3 Q
theorem QoJ{r:V->Option Int->Option Int->Hp->VK->Prop}(hr:SlR X r)(he:PE X e te)(hl:PO X lo tl)(hu:PO X hi th):PE X (.Subscript e (.Slice lo hi none p2) pos) (tSl r te tl th):=by
 intro pins s σ H Q I h;refine Subscript_ (thn (he pins s σ H _ I h) λv s1 ⟨x,H1,I1,r1,q1⟩=>?_);refine wpAny_Slice (thn (hl pins s1 σ H1 _ I1 q1) λvl s2 ⟨l,H2,I2,pl,q2⟩=>thn (hu pins s2 σ H2 _ I2 q2) λvu s3 ⟨u,H3,I3,pu,q3⟩=>?_);rw[evalPart_none];refine wpAny_pure ?_
 have I4:Inv X pins σ H3 { s3 with heap:=s3.heap.push { cls:=.type "slice",data:=.fields #[vl,vu,.none] } }:=I3.kept (t':=s3.toks) λb ob q=>Qd _ q
 obtain⟨T,id,hT,ht,hg⟩:=hr pins { s3 with heap:=s3.heap.push { cls:=.type "slice",data:=.fields #[vl,vu,.none] } } σ H3 x v vl vu l u s3.heap.objs.size Q I4 r1 (Qx7 ..) pl pu q3;show wpAny (model X.prog X.w) X.A (subscriptTail e (.Slice lo hi none p2) v (.ref s3.heap.objs.size)) (EP X pins σ Q) X.xe { s3 with heap:=s3.heap.push { cls:=.type "slice",data:=.fields #[vl,vu,.none] } };exact tail_any (ops:=[.ref s3.heap.objs.size,v]) ht hT hg (by with_unfolding_all rfl)
def QkZ(xs:List V)(lo hi:Option Int):List V:=(xs.drop (HT.sIx xs.length 0 lo)).take (HT.sIx xs.length xs.length hi - HT.sIx xs.length 0 lo)
theorem QeS(xs:List V)(lo hi:Option Int):(QkZ xs lo hi).length<=xs.length:=by
 unfold QkZ;rw[Jr,Yo];omega
def QAU(K:PySem.W.Frag):V->Option Int->Option Int->Hp->VK->Prop:=λx lo hi H Q=>∃a xs,x=.ref a/\SqT K H a xs /\
 ¬(HT.sIx xs.length 0 lo=0/\HT.sIx xs.length xs.length hi=xs.length)/\∀p,H p=none->Q (.ref p) (upd H p (.tup (QkZ xs lo hi)))
theorem QvE:SlR X (QAU X.K):=by
 intro pins s σ H x v vl vu lo hi sl Q I rx hs pl pu h;obtain⟨a,xs,rfl,hx,hw,q⟩:=h;cases rx;obtain⟨its,r,ht,hz⟩:=I.tuple hx;have hlen:its.toArray.size=xs.length:=by rw[Qr];exact r.length.symm
 refine⟨"tuple",_,J3.lookup,ht.typeIs,?_⟩;refine HT.QdD ht hs pl pu (by rw[hlen];exact hw) ?_ (by rw[hlen];exact hz)
 rw[hlen];refine⟨.ref s.heap.objs.size,_,I.laid (t':=s.toks) (o:=.tup (QkZ xs lo hi)) (λb ob q=>Qd _ q) (Qj _) ?_,rfl,q _ (I.hok.fresh (Qj _))⟩;exact⟨Jb (QeS xs lo hi) hz,_,(r.drop (HT.sIx xs.length 0 lo)).take (HT.sIx xs.length xs.length hi - HT.sIx xs.length 0 lo),Qj7 _ _⟩
def Qzd(K:PySem.W.Frag):R2:=λx y H Q=>∃a b xs ys,x=.ref a/\y=.ref b/\SqT K H a xs/\SqT K H b ys/\xs≠[]/\xs.length+ys.length<=sizeLine /\
 (ys=[]->Q (.ref a) H)/\(ys≠[]->∀p,H p=none->Q (.ref p) (upd H p (.tup (xs++ys))))
theorem Vals.nil_iff{xs:List V}{us:List Value}(r:Vals xs us):us=[]↔xs=[]:=by
 cases r with
 |nil=>simp
 |cons _ _=>simp
theorem QtA:OpR X (binaryOp .Add) (Qzd X.K):=by
 intro pins s σ H x y v u Q I rx ry h;obtain⟨a,b,xs,ys,rfl,rfl,ha,hb,hx,hz,q1,q2⟩:=h;cases rx;cases ry;obtain⟨its,r1,p1,_⟩:=I.tuple ha;obtain⟨its2,r2,p2,_⟩:=I.tuple hb;refine HT.QuH p1 p2 (λz=>hx (r1.nil_iff.mp z)) (λz=>⟨.ref a,H,I,rfl,q1 (r2.nil_iff.mp z)⟩) (λz=>?_) (by rw[<- r1.length,<- r2.length];exact hz);refine⟨.ref s.heap.objs.size,_,I.laid (t':=s.toks) (o:=.tup (xs++ys)) (λb ob q=>Qd _ q) (Qj _) ?_,rfl,q2 (λw=>z (r2.nil_iff.mpr w)) _ (I.hok.fresh (Qj _))⟩;exact⟨by rw[Qw];exact hz,_,r1.append r2,Qj7 _ _⟩
end
def ixN(n:Nat)(i:Int):Option Nat:=if 0<=i then(if i<n then some i.toNat else none) else if -(n:Int)<=i then some (i+n).toNat else none
def atI{α:Type}(xs:List α)(i:Int):Option α:=(ixN xs.length i).bind λj=>xs[j]?
theorem QmD{n:Nat}{i:Int}{j:Nat}(h:ixN n i=some j):seqIndex? i n=some j/\j<n /\ -(n:Int)<=i/\i<n:=by
 unfold ixN at h;by_cases h0:0<=i
 ·rw[if_pos h0] at h;by_cases h1:i<n
  ·rw[if_pos h1] at h;have e:i.toNat=j:=QB h;exact⟨by rw[Qu7 h0 h1,e],by omega,by omega,h1⟩
  ·rw[if_neg h1] at h;cases h
 ·rw[if_neg h0] at h;by_cases h1 : -(n:Int)<=i
  ·rw[if_pos h1] at h;have e:(i+n).toNat=j:=QB h;exact⟨by rw[Qr6 (by omega) h1,e],by omega,h1,by omega⟩
  ·rw[if_neg h1] at h;cases h
theorem QnB{α:Type}{xs:List α}{i:Int}{v:α}(h:atI xs i=some v):∃j,seqIndex? i xs.length=some j/\xs[j]? = some v/\j<xs.length /\ -(xs.length:Int)<=i/\i<xs.length:=by
 unfold atI at h;cases e:ixN xs.length i with
 |none=>rw[e] at h;cases h
 |some j=>
  rw[e] at h;obtain⟨h1,h2,h3,h4⟩:=QmD e;exact⟨j,h1,h,h2,h3,h4⟩
theorem Ys{α:Type}{xs:List α}{j:Nat}{v:α}(h:xs[j]? = some v):atI xs (j:Int)=some v:=by
 have hj:j<xs.length:=(QM.mp h).1;have e:ixN xs.length (j:Int)=some j:=by
  unfold ixN;rw[if_pos (by omega),if_pos (by omega)];simp
 unfold atI;rw[e];exact h
theorem QpV{α:Type}(xs:List α)(v:α):atI (xs++[v]) (-1)=some v:=by
 have hl:(xs++[v]).length=xs.length+1:=by simp
 have e:ixN (xs++[v]).length (-1)=some xs.length:=by
  unfold ixN;rw[hl,if_neg (by decide),if_pos (by omega)]
  congr 1
  omega
 unfold atI;rw[e];show(xs++[v])[xs.length]? = some v;simp
def QgC(b:Q3):Prop:=∀o i,subscripted b false o i=operate [o,i] (getItem o i)
def IxR(X:Cx)(r:R2):Prop:=
 ∀(value slice:Q3)(pins:List (Addr×Obj))(s:Shared)(σ:St)(H:Hp)(x y:V)(v u:Value)(Q:VK),Inv X pins σ H s->RelV x v->RelV y u->r x y H Q ->
  subscripted slice false v u=operate [v,u] (getItem v u)->wpAny (model X.prog X.w) X.A (subscriptTail value slice v u) (EP X pins σ Q) X.xe s
def MtR(X:Cx)(id:String)(r:V->List V->Hp->VK->Prop):Prop:=
 ∀(pins:List (Addr×Obj))(s:Shared)(σ:St)(H:Hp)(x:V)(xs:List V)(v:Value)(us:List Value)(Q:VK),Inv X pins σ H s->RelV x v->Vals xs us->r x xs H Q ->
  wpAny (model X.prog X.w) X.A (call (.builtin id) (v::us)) (EP X pins σ Q) X.xe s
section
variable{X:Cx}{a b:Q3}{ta tb:TE}{pos:Pos}
theorem Qiu{r:R2}(hr:IxR X r)(ha:PE X a ta)(hb:PE X b tb)(hs:QgC b):PE X (.Subscript a b pos) (tOp r ta tb):=by
 intro pins s σ H Q I h;exact Subscript_ (QzP ha hb I h λv u s2 x y H2 I2 rx ry q=>hr a b pins s2 σ H2 x y v u Q I2 rx ry q (hs _ _))
def Qz8(K:PySem.W.Frag):R2:=λx y H Q=>∃p xs i v,x=.ref p/\y=.int i/\SqL K H p xs/\atI xs i=some v/\Q v H
def Qza(K:PySem.W.Frag):R2:=λx y H Q=>∃p xs i v,x=.ref p/\y=.int i/\SqT K H p xs/\atI xs i=some v/\Q v H
theorem QdB:IxR X (Qz8 X.K):=by
 intro value slice pins s σ H x y v u Q I rx ry h hs;obtain⟨p,xs,i,z,rfl,rfl,hq,he,q⟩:=h;cases rx;obtain⟨t,rfl⟩:=ry;obtain⟨its,r,pl,hz⟩:=I.list hq;obtain⟨j,h1,h2,h3,h4,h5⟩:=QnB he;obtain⟨w,ew,rw'⟩:=r.get h2;have hl:=r.length;have hn:=Qjz;have fin:EP X pins σ Q w s:=⟨z,H,I,rw',q⟩;by_cases h0:0<=i
 ·have hj:i.toNat=j:=by
   rw[Qu7 h0 h5] at h1;exact QB h1
  exact item_listR pl.isList h0 (by omega) (by rw[hj];simpa using ew) fin hs
 ·have hj:(i+(its.toArray.size:Int)).toNat=j:=by
   rw[Qr6 (by omega) h4] at h1;rw[Qr,<- hl];exact QB h1
  exact QpY (x:=w) pl.isList.typeIs Qyw.lookup
   (wpAny_getItem_list_neg (Q:=λr s'=>r=w/\EP X pins σ Q r s') pl.isList (by omega) (by rw[Qr]<;>omega) (by omega) (by rw[hj];simpa using ew) ⟨rfl,fin⟩) hs
theorem QrG:IxR X (Qza X.K):=by
 intro value slice pins s σ H x y v u Q I rx ry h hs;obtain⟨p,xs,i,z,rfl,rfl,hq,he,q⟩:=h;cases rx;obtain⟨t,rfl⟩:=ry;obtain⟨its,r,pl,hz⟩:=I.tuple hq;obtain⟨j,h1,h2,h3,h4,h5⟩:=QnB he;obtain⟨w,ew,rw'⟩:=r.get h2;have hl:=r.length;have hn:=Qjz;have fin:EP X pins σ Q w s:=⟨z,H,I,rw',q⟩;exact QpY (x:=w) pl.typeIs slot_tuple_getitem.lookup
  (getItem_tuple (j:=j) (Q:=λr s'=>r=w/\EP X pins σ Q r s') pl (by omega) (by omega) (by rw[Qr,<- hl];exact h1) (by simpa using ew) ⟨rfl,fin⟩) hs
theorem Qkx(its:List Value)(n j:Nat)(u:Value):J4 (·.setIfInBounds j u) { cls:=.type "list",data:=.seq its.toArray n }={ cls:=.type "list",data:=.seq (its.set j u).toArray n }:=by
 simp[J4]
theorem Inv.lst{pins:List (Addr×Obj)}{σ:St}{H:Hp}{s:Shared}{p:Addr}{xs:List V}(I:Inv X pins σ H s)(h:H p=some (.lst xs)) :
  ∃(its:List Value)(n:Nat),Vals xs its/\s.heap.get? p=some { cls:=.type "list",data:=.seq its.toArray n }/\xs.length<=sizeLine:=by
 obtain⟨z,its,n,r,e⟩:=I.hok p _ h;exact⟨its,n,r,e,z⟩
theorem Inv.lstUpd{pins:List (Addr×Obj)}{σ:St}{H:Hp}{s:Shared}{p:Addr}{xs ys:List V}{its its':List Value}{n n':Nat}{f:Obj->Obj}(I:Inv X pins σ H s)(h:H p=some (.lst xs))
  (ho:s.heap.get? p=some { cls:=.type "list",data:=.seq its.toArray n })(hf:f { cls:=.type "list",data:=.seq its.toArray n }={ cls:=.type "list",data:=.seq its'.toArray n' })(r:Vals ys its')(hz:ys.length<=sizeLine)(t:Nat) :
  Inv X pins σ (upd H p (.lst ys)) { s with heap:=s.heap.update p f,toks:=t }:=by
 have e:(s.heap.update p f).get? p=some { cls:=.type "list",data:=.seq its'.toArray n' }:=by
  rw[ZH f ho (by rw[hf]<;>rfl),hf]
 refine I.write (x:=p) (e:=p) (by rw[h];trivial) (.inl rfl) (λb u hb q=>(Yw _ _ (Qbm hb)).trans q) ⟨_,e⟩ ?_
 exact⟨hz,its',n',r,e⟩
def Qy8:V->V->V->Hp->(Hp->Prop)->Prop:=λo i v H Q=>∃p xs k j,o=.ref p/\i=.int k/\H p=some (.lst xs)/\ixN xs.length k=some j/\Q (upd H p (.lst (xs.set j v)))
theorem Qoe:QAF X Qy8:=by
 intro pins s σ H o i v ov iv u Q I ro ri rv h;obtain⟨p,xs,k,j,rfl,rfl,hp,hj,q⟩:=h;cases ro;obtain⟨t,rfl⟩:=ri;obtain⟨its,n,r,ho,hz⟩:=I.lst hp;obtain⟨h1,h2,h3,h4⟩:=QmD hj;have hl:=r.length;have hn:=Qjz;have I':Inv X pins σ (upd H p (.lst (xs.set j v))) { s with heap:=s.heap.update p (J4 (·.setIfInBounds j u)) }:=
  I.lstUpd hp ho (Qkx its n j u) (r.set rv j) (by rw[Yg];exact hz) s.toks
 by_cases h0:0<=k
 ·have hk:k.toNat=j:=by
   rw[Qu7 h0 h4] at h1;exact QB h1
  exact PySem.W.ki_setAt ho h0 (by omega) (by rw[Qr,<- hl];exact h4) (by rw[hk];exact⟨_,I',q⟩)
 ·have hk:(k+(its.toArray.size:Int)).toNat=j:=by
   rw[Qr6 (by omega) h3] at h1;rw[Qr,<- hl];exact QB h1
  exact PySem.W.ki_setBack ho (by omega) (by rw[Qr,<- hl];exact h3) (by omega) (by rw[hk];exact⟨_,I',q⟩)
theorem Qg4(lo hi:Option Int)(n:Nat):(sliceBounds lo hi none n).1=((HT.sIx n 0 lo:Nat):Int)/\(sliceBounds lo hi none n).2.1=((HT.sIx n n hi:Nat):Int)/\(sliceBounds lo hi none n).2.2=1:=by
 refine⟨?_,?_,rfl⟩
 ·cases lo with
  |none=>simp[sliceBounds,HT.sIx]
  |some i=>
   simp only[sliceBounds,HT.sIx,QnY,show(1:Int) > 0 by decide,if_true];by_cases h:i<0
   ·simp only[h,if_true]<;>omega
   ·simp only[h,if_false]<;>omega
 ·cases hi with
  |none=>simp[sliceBounds,HT.sIx]
  |some i=>
   simp only[sliceBounds,HT.sIx,QnY,show(1:Int) > 0 by decide,if_true];by_cases h:i<0
   ·simp only[h,if_true]<;>omega
   ·simp only[h,if_false]<;>omega
theorem QfV(its:List Value)(lo hi:Option Int):slicePick its.toArray lo hi none=((its.drop (HT.sIx its.length 0 lo)).take (HT.sIx its.length its.length hi - HT.sIx its.length 0 lo)).toArray:=by
 obtain⟨h1,h2,h3⟩:=Qg4 lo hi its.toArray.size;unfold slicePick;rw[h1,h2,h3];simp only[sliceRange_one,pick_run,Qr]<;>rfl
def QAV(K:PySem.W.Frag):V->Option Int->Option Int->Hp->VK->Prop:=λx lo hi H Q=>∃a xs,x=.ref a/\SqL K H a xs/\∀p,H p=none->Q (.ref p) (upd H p (.lst (QkZ xs lo hi)))
theorem QsC:SlR X (QAV X.K):=by
 intro pins s σ H x v vl vu lo hi sl Q I rx hs pl pu h;obtain⟨a,xs,rfl,hx,q⟩:=h;cases rx;obtain⟨its,r,ht,hz⟩:=I.list hx;have hlen:=r.length;refine⟨"list",_,Qyw.lookup,ht.isList.typeIs,?_⟩;refine wpAny_getItem_list_slice ht.isList hs pl pu .none (by simp) ?_ (by rw[Qr]<;>omega)
 rw[QfV,<- hlen];refine⟨.ref s.heap.objs.size,_,I.laid (t':=s.toks) (o:=.lst (QkZ xs lo hi)) (λb ob q=>Qd _ q) (Qj _) ?_,rfl,q _ (I.hok.fresh (Qj _))⟩;exact⟨Jb (QeS xs lo hi) hz,_,0,(r.drop (HT.sIx xs.length 0 lo)).take (HT.sIx xs.length xs.length hi - HT.sIx xs.length 0 lo),QD _ rfl⟩
theorem Qa4:CallR X (.builtin "len") (λxs H Q=>∃p ys,xs=[.ref p]/\(SqL X.K H p ys∨SqT X.K H p ys)/\Q (.int ys.length) H):=by
 intro pins s σ H xs us Q I r h;obtain⟨p,ys,rfl,hq,q⟩:=h;obtain⟨u,rfl,rx⟩:=vals1 r;cases rx;have hn:=Qjz;rcases hq with hq | hq
 ·obtain⟨its,r',pl,hz⟩:=I.list hq;have hlen:=r'.length;exact Calls.call_len_list pl.isList (by simp only[Qr]<;>omega) ⟨.int ys.length,H,I.tok _,⟨s.toks+1,by rw[Qr,hlen]⟩,q⟩
 ·obtain⟨its,r',pl,hz⟩:=I.tuple hq;have hlen:=r'.length;exact len_tuple pl (by simp only[Qr]<;>omega) ⟨.int ys.length,H,I.tok _,⟨s.toks+1,by rw[Qr,hlen]⟩,q⟩
theorem QhH:CallR X (.type "list") (λxs H Q=>∃p ys,xs=[.ref p]/\(SqL X.K H p ys∨SqT X.K H p ys)/\∀l,H l=none->Q (.ref l) (upd H l (.lst ys))):=by
 intro pins s σ H xs us Q I r h;obtain⟨p,ys,rfl,hq,q⟩:=h;obtain⟨u,rfl,rx⟩:=vals1 r;cases rx;have fin:∀(its:List Value),Vals ys its->ys.length<=sizeLine->∀(h':Heap)(c':Nat),(∀b o',s.heap.get? b=some o'->h'.get? b=some o') ->
   h'.get? s.heap.objs.size=some { cls:=.type "list",dict:=none,data:=.seq its.toArray c',slots:=#[] }->EP X pins σ Q (.ref s.heap.objs.size) { s with heap:=h' }:=λits r' hz h' c' kp e=>
  ⟨.ref s.heap.objs.size,_,I.laid (t':=s.toks) kp (Qj _) (show ObjOk X.prog X.w _ h' _ (.lst ys) from⟨hz,its,c',r',e⟩),rfl,q _ (I.hok.fresh (Qj _))⟩
 rcases hq with hq | hq
 ·obtain⟨its,r',pl,hz⟩:=I.list hq;have hlen:=r'.length;obtain⟨o,ho,hc,n,hd⟩:=pl.isList;exact call_list_seq p (.inl rfl) ho hc hd (λh' c' kp e=>fin its r' hz h' c' kp e) (by simp only[Qr]<;>omega)
 ·obtain⟨its,r',pl,hz⟩:=I.tuple hq;have hlen:=r'.length;obtain⟨o,ho,hc,n,hd⟩:=pl;exact call_list_seq p (.inr rfl) ho hc hd (λh' c' kp e=>fin its r' hz h' c' kp e) (by simp only[Qr]<;>omega)
theorem Qgw:CallR X (.type "tuple") (λxs H Q=>∃p ys,xs=[.ref p]/\((SqL X.K H p ys/\∀l,H l=none->Q (.ref l) (upd H l (.tup ys)))∨(SqT X.K H p ys/\Q (.ref p) H))):=by
 intro pins s σ H xs us Q I r h;obtain⟨p,ys,rfl,h⟩:=h;obtain⟨u,rfl,rx⟩:=vals1 r;cases rx;rcases h with⟨hq,q⟩ | ⟨hq,q⟩
 ·obtain⟨its,r',pl,hz⟩:=I.list hq;have hlen:=r'.length;refine call_tuple_list pl.isList (λh' kp=>?_) (by simp only[Qr]<;>omega);have I1:Inv X pins σ H { s with heap:=h' }:=I.kept (t':=s.toks) kp;have I2:Inv X pins σ (upd H h'.objs.size (.tup ys)) { s with heap:=h'.push { cls:=.type "tuple",data:=.seq its.toArray } }:=
   I1.laid (t':=s.toks) (λb o e=>Qd _ e) (Qj _) (show ObjOk X.prog X.w _ _ _ (.tup ys) from⟨hz,its,r',Qj7 _ _⟩)
  exact⟨.ref h'.objs.size,_,I2,rfl,q _ (I1.hok.fresh (Qj _))⟩
 ·obtain⟨its,r',pl,hz⟩:=I.tuple hq;exact call_tuple_same pl ⟨.ref p,H,I,rfl,q⟩
def tyV(K:PySem.W.Frag)(T:String)(x:V)(H:Hp):Prop:=match x with
 |.str _=>T = "str"
 |.int _=>T = "int"
 |.ref p=>(T = "list" /\ ∃xs,SqL K H p xs)∨(T = "tuple" /\ ∃o,K.lookup p=some o/\o.cls=.type "tuple" /\ o.dict=none) ∨
   (T = "dict" /\ ((∃kvs,H p=some (.dK kvs))∨∃kvs,H p=some (.dT kvs)))∨(T = "set" /\ ∃S n,H p=some (.set S n))
 |_=>False
theorem Qvt{pins:List (Addr×Obj)}{σ:St}{H:Hp}{s:Shared}{T:String}{x:V}{v:Value}(I:Inv X pins σ H s)(r:RelV x v)(ty:tyV X.K T x H) :
  s.TypeIs v T/\∀a,v=.ref a->∃ob,s.heap.get? a=some ob/\ob.dict=none:=by
 cases x with
 |str z=>
  obtain⟨t,rfl⟩:=r;cases(show T = "str" from ty);exact⟨typeIs_str s z t,λ_ e=>nomatch e⟩
 |int i=>
  obtain⟨t,rfl⟩:=r;cases(show T = "int" from ty);exact⟨QgM s i t,λ_ e=>nomatch e⟩
 |ref p=>
  cases r;rcases ty with⟨rfl,xs,hq⟩ | ⟨rfl,o,hk,hc,hd⟩ | ⟨rfl,hk⟩ | ⟨rfl,S,n,hk⟩
  ·obtain⟨its,_,pl,_⟩:=I.list hq;refine⟨pl.isList.typeIs,λa e=>?_⟩;cases e;obtain⟨o,n,e,c,hd,_⟩:=pl;exact⟨o,e,hd⟩
  ·refine⟨⟨o,I.kIn p o hk,hc⟩,λa e=>?_⟩;cases e;exact⟨o,I.kIn _ o hk,hd⟩
  ·have z:∃o,s.heap.get? p=some o/\o.ExactDict:=by
    rcases hk with⟨kvs,hk⟩ | ⟨kvs,hk⟩
    ·obtain⟨_,_,_,_,o,_,_,e,ex,_⟩:=I.hok p _ hk;exact⟨o,e,ex⟩
    ·obtain⟨_,_,_,_,o,_,_,e,ex,_⟩:=I.hok p _ hk;exact⟨o,e,ex⟩
   obtain⟨o,e,ex⟩:=z;refine⟨⟨o,e,ex.1⟩,λa e2=>?_⟩;cases e2;exact⟨o,e,ex.2.1⟩
  ·obtain⟨o,_,_,_,e,ex,_⟩:=I.hok p _ hk;refine⟨⟨o,e,ex.1⟩,λa e2=>?_⟩;cases e2;exact⟨o,e,ex.2.1⟩
 |_=>exact JE ty
def tBM(K:PySem.W.Frag)(T:String)(r:V->List V->Hp->VK->Prop)(to:TE)(t:TA):TE:=λσ H Q=>to σ H λx H1=>tyV K T x H1/\t σ H1 λxs H2=>r x xs H2 Q
variable{o e:Q3}{es:List Q3}{to:TE}{t:TA}{name:Str}{apos cpos:Pos}{T id:String}{r:V->List V->Hp->VK->Prop}
theorem Qwn(pa:PlainAttrs T)(slot:Slot T name id)(hty:typeOf (.builtin id)=pure (.type "method_descriptor"))(hm:MtR X id r)(ho:PE X o to)(ha:PA X (e::es) t)
  (hbase:attributeBase o name X.env (eval o X.env)=eval o X.env:=by rfl)
  (hfew:((backTo cpos (starEach (e::es) X.env)).all (λx => !x.1)&&(backToKw cpos (keywordEach [] X.env)).all (λx=>x.1.isSome)
   && decide ((e::es).length+([]:List Keyword).length+(if([]:List Keyword).isEmpty then 0 else 1)<30))=true:=by rfl)
  (hline:(apos.endLine == cpos.line)=true:=by rfl) (hs:starEach (e::es) X.env=(false,eval e X.env)::starEach es X.env:=by rfl) (hplain:(backTo cpos (starEach es X.env)).any (·.1)=false:=by rfl) :
  PE X (.Call (.Attribute o name apos) (e::es) [] cpos) (tBM X.K T r to t):=by
 intro pins s σ H Q I h;refine wpAny_Call_method_late hbase hfew hline rfl (thn (ho pins s σ H _ I h) λv s1 ⟨x,H1,I1,r1,ty,q1⟩=>?_);obtain⟨h1,h2⟩:=Qvt I1 r1 ty;refine⟨T,id,pa,slot,hty,h1,h2,?_⟩;have hA:=ha cpos pins s1 σ H1 _ I1 q1;rw[hs] at hA ⊢;refine Calls.callWith_builtin (by show(false||(backTo cpos (starEach es X.env)).any (·.1))=false;rw[hplain]<;>rfl) (QkY ?_);exact thn hA λus s2 ⟨vs,H2,I2,r2,q2⟩=>hm pins s2 σ H2 x vs v us Q I2 r1 r2 q2
end
def MtM(X:Cx)(id:String)(r:V->List V->Hp->VK->Prop):Prop:=
 ∀(pins:List (Addr×Obj))(s:Shared)(σ:St)(H:Hp)(x:V)(xs:List V)(v:Value)(us:List Value)(Q:VK),Inv X pins σ H s->RelV x v->Vals xs us->r x xs H Q ->
  wpAny (model X.prog X.w) X.A (call (.builtin id) (v::us)) (EP X pins σ Q) X.xe s
theorem Vals.one:∀{x:V}{us:List Value},Vals [x] us->∃u,us=[u]/\RelV x u
 |_,_,.cons r .nil=>⟨_,rfl,r⟩
theorem Vals.zero:∀{us:List Value},Vals [] us->us=[]
 |_,.nil=>rfl
theorem Vals.reverse{xs:List V}{us:List Value}(h:Vals xs us):Vals xs.reverse us.reverse:=by
 induction h with
 |nil=>exact .nil
 |cons r t ih=>rw[Qp5,Qp5];exact Vals.append ih (.cons r .nil)
theorem Vals.rep{xs:List V}{us:List Value}(h:Vals xs us):∀k:Nat,Vals (Q1 k xs).flatten (Q1 k us).flatten
 |0=>.nil
 |k+1=>by
  rw[ZT,ZT,YT,YT];exact Vals.append h (Vals.rep h k)
theorem foldl_rep(its:List Value):∀(k:Nat)(acc:List Value),
  Qh6 (λx1 x2=>x1++x2) acc.toArray (Q1 k its.toArray)=(acc++(Q1 k its).flatten).toArray
 |0,acc=>by simp
 |k+1,acc=>by
  have e:acc.toArray++its.toArray=(acc++its).toArray:=by simp
  have e2:(acc++its)++(Q1 k its).flatten=acc++(Q1 (k+1) its).flatten:=by
   rw[ZT,YT,Q5]
  rw[<- e2,<- foldl_rep its k (acc++its),<- e,ZT,QcL]
section
variable{X:Cx}{pins:List (Addr×Obj)}{σ:St}{H:Hp}{s:Shared}{l b:Addr}{xs ys zs:List V}
theorem Inv.lset{its its':List Value}{n:Nat}{f:Array Value->Array Value}{t':Nat}(I:Inv X pins σ H s)(hH:H l=some (.lst xs))
  (e:s.heap.get? l=some { cls:=.type "list",data:=.seq its.toArray n })(hf:f its.toArray=its'.toArray)(hv:Vals ys its')(hz:ys.length<=sizeLine) :
  Inv X pins σ (upd H l (.lst ys)) { s with heap:=s.heap.update l (J4 f),toks:=t' }:=by
 have q:=PySem.IsL.update e f;rw[hf] at q;refine I.write (x:=l) (e:=l) (by rw[hH];exact trivial) (.inl rfl) (λb' u hb hu=>(Yw s.heap (J4 f) (Qbm hb)).trans hu) ⟨_,q⟩ ?_
 exact⟨hz,its',_,hv,q⟩
theorem Inv.lnew{its:List Value}{t':Nat}(I:Inv X pins σ H s)(hv:Vals ys its)(hz:ys.length<=sizeLine) :
  Inv X pins σ (upd H s.heap.objs.size (.lst ys)) { s with heap:=s.heap.push { cls:=.type "list",data:=.seq its.toArray },toks:=t' }:=
 I.laid (λ_ _ q=>Qd _ q) (Qj _) ⟨hz,its,0,hv,QD _ rfl⟩
theorem Inv.fresh(I:Inv X pins σ H s):H s.heap.objs.size=none:=I.hok.fresh (Qj _)
theorem Inv.lstM(I:Inv X pins σ H s)(hH:H l=some (.lst xs)):xs.length<=sizeLine/\∃(its:List Value)(n:Nat),Vals xs its/\xs.length=its.length/\s.heap.get? l=some { cls:=.type "list",data:=.seq its.toArray n }:=by
 obtain⟨z,its,n,r,e⟩:=I.hok l _ hH;exact⟨z,its,n,r,r.length,e⟩
theorem Qju{n:Nat}(h:n<=sizeLine):YO n=false:=by
 unfold YO;exact decide_eq_false (by omega)
end
section
variable{X:Cx}
def QsP:V->List V->Hp->VK->Prop:=λx vs H Q=>∃l xs y,x=.ref l/\vs=[y]/\H l=some (.lst xs)/\xs.length<sizeLine/\Q .non (upd H l (.lst (xs++[y])))
theorem Qmt:MtM X "list.append" QsP:=by
 intro pins s σ H x vs v us Q I rx rv h;obtain⟨l,xs,y,rfl,rfl,hH,hz,q⟩:=h;cases rx;obtain⟨u,rfl,ru⟩:=rv.one;obtain⟨z,its,n,r,hl,e⟩:=I.lstM hH;refine QaW F.slot_list_append ⟨_,e,rfl⟩ F.entry_list_append (F.args_list_append_2 _ _) (PySem.list_append l its.toArray n u (by rw[Qr];omega)) ⟨e,?_⟩;refine⟨.non,_,I.lset (its':=its++[u]) hH e (by simp) (r.append (.cons ru .nil)) ?_,rfl,q⟩;rw[Qw,List.length_singleton];omega
def QsN:V->List V->Hp->VK->Prop:=λx vs H Q=>∃l b xs zs,x=.ref l/\vs=[.ref b]/\H l=some (.lst xs)/\H b=some (.lst zs)/\xs.length+zs.length<=sizeLine/\Q .non (upd H l (.lst (xs++zs)))
theorem Qw4:MtM X "list.extend" QsN:=by
 intro pins s σ H x vs v us Q I rx rv h;obtain⟨l,b,xs,zs,rfl,rfl,hH,hB,hz,q⟩:=h;cases rx;obtain⟨u,rfl,ru⟩:=rv.one;cases ru;obtain⟨z,its,n,r,hl,e⟩:=I.lstM hH;obtain⟨z2,its2,n2,r2,hl2,e2⟩:=I.lstM hB;have hsz:its.toArray.size+its2.toArray.size<=sizeLine:=by rw[Qr,Qr];omega
 have hlong:¬(!its.toArray.isEmpty&&YO (its.toArray.size+its2.toArray.size))=true:=by
  rw[Qju hsz,Bool.and_false];exact QJ
 refine QaW F.slot_list_extend ⟨_,e,rfl⟩ F.entry_list_extend (F.args_list_extend_2 _ _)
  (AutoSeq1.list_extend_list_list_0 l its.toArray n b its2.toArray n2 hlong (by rw[Qr];omega) (by omega)) ⟨e,e2,?_⟩
 refine⟨.non,_,I.lset (its':=its++its2) hH e (by simp) (r.append r2) ?_,rfl,q⟩;rw[Qw];omega
def QAe:R2:=λx y H Q=>∃l b xs zs,x=.ref l/\y=.ref b/\H l=some (.lst xs)/\H b=some (.lst zs)/\xs.length+zs.length<=sizeLine/\∀p,H p=none->Q (.ref p) (upd H p (.lst (xs++zs)))
theorem QrA:OpR X (binaryOp .Add) QAe:=by
 intro pins s σ H x y v u Q I rx ry h;obtain⟨l,b,xs,zs,rfl,rfl,hH,hB,hz,q⟩:=h;cases rx;cases ry;obtain⟨z,its,n,r,hl,e⟩:=I.lstM hH;obtain⟨z2,its2,n2,r2,hl2,e2⟩:=I.lstM hB;refine PySem.P.add_list e e2 ?_ (by rw[Qr,Qr];omega)
 have ea:its.toArray++its2.toArray=(its++its2).toArray:=by simp
 rw[ea];exact⟨.ref _,_,I.lnew (t':=s.toks) (r.append r2) (by rw[Qw];omega),rfl,q _ I.fresh⟩
def Qz5:R2:=λx y H Q=>∃l k xs,x=.ref l/\y=.int k/\H l=some (.lst xs) /\ -(2^63)<=k/\k<2^63/\xs.length*k.toNat<=sizeLine /\
 ∀p,H p=none->Q (.ref p) (upd H p (.lst (Q1 k.toNat xs).flatten))
theorem QiI{α:Type}(xs:List α)(k:Nat):(Q1 k xs).flatten.length=k*xs.length:=by
 induction k with
 |zero=>simp
 |succ k ih=>rw[ZT,YT,Qw,ih,Qk7,Nat.add_comm]
theorem Qrz:OpR X (binaryOp .Mult) Qz5:=by
 intro pins s σ H x y v u Q I rx ry h;obtain⟨l,k,xs,rfl,rfl,hH,h1,h2,hz,q⟩:=h;cases rx;obtain⟨t,rfl⟩:=ry;obtain⟨z,its,n,r,hl,e⟩:=I.lstM hH;have hlen:its.toArray.size*k.toNat<=sizeLine:=by rw[Qr,<- hl];exact hz
 have hcap:¬its.toArray.size*k.toNat > (2^63 - 1) / 8:=by
  have:(sizeLine:Nat)<=(2^63 - 1) / 8:=by decide
  omega
 have hfit:¬(!Builtin.List.listFitsIndex k)=true:=by
  rw[fitsIndex_both h1 h2];exact QJ
 have hlong:¬YO (its.toArray.size*k.toNat)=true:=by
  rw[Qju hlen];exact QJ
 have hnew:Qh6 (λx1 x2=>x1++x2) #[] (Q1 (if its.toArray.isEmpty=true then 0 else k.toNat) its.toArray)=(Q1 k.toNat its).flatten.toArray:=by
  have f0:∀m:Nat,Qh6 (λx1 x2=>x1++x2) #[] (Q1 m its.toArray)=(Q1 m its).flatten.toArray:=λm=>by
   have:=foldl_rep its m [];rw[Qbd] at this;exact this
  rw[f0];cases its with
  |nil=>simp
  |cons a r'=>rw[if_neg (by simp)]
 refine Qk3 (T := "list") (U := "int") (by decide) ⟨_,e,rfl⟩ (λs'=>QgM s' k t) noFill_list_mul QyL Qdl repeat_list Qx8.lookup
  (QaW Qdl (QgM s k t) Qya (Qvm _ _) (int___rmul___int_list k t l its.toArray n)
   ⟨e,rfl,⟨_,e,rfl⟩,QaW F.slot_list_mul ⟨_,e,rfl⟩ F.entry_list_mul (F.args_list_mul_2 _ _) (AutoListH.list___mul___list_int_3 l its.toArray n k t hfit hcap hlong) ⟨e,?_⟩⟩)
 rw[hnew];exact⟨.ref _,_,I.lnew (t':=s.toks) (r.rep k.toNat) (by rw[QiI,Qfc];exact hz),rfl,q _ I.fresh⟩
end
section
variable{prog:QC}{w:Ja}{A:Q2}{E:Value->Shared->Prop}{s:Shared}
end
section
variable{X:Cx}
end
end L2
namespace Att
open PySem.W PySem.Calls
theorem QeM{P:Params}{h:Heap}:∀(ns:List Int)(vs:List Value),WellAll P h vs (ns.map WData.int)->IntsAre vs ns:=by
 intro ns;induction ns with
 |nil=>
  intro vs w;rw[Qe5] at w;cases w;exact .nil
 |cons n ns ih=>
  intro vs w;rw[Jd] at w;cases w with
  |cons a b=>
   cases a;exact .cons _ _ (ih _ b)
theorem QlA{l:OpenLaw}{n:Nat}(hn:l.most=some n){P:Params}{h:Heap}{args:List WData}{vals:List Value}
  (hpre:l.row.toRowW.claim.pre args=true)(hwl:WellAll P h vals args) :
  ∃a vs ns,vals=[QQ a]/\args=[WData.list (ns.map WData.int)]/\h.get? a=some { cls:=.type "list",data:=.seq vs.toArray }/\IntsAre vs ns/\ns.length<=n:=by
 have hsh:WShape.hasAll [] args [.list .int]=true:=(pre_splitW hpre).1;have hc:l.pre.holds [] { args:=args }=true:=(pre_splitW hpre).2;obtain⟨d,r,rfl,h1,h2⟩:=hasAllW_cons hsh;obtain rfl:=hasAllW_nil h2;obtain⟨xs,rfl,h3⟩:=hasW_list h1;obtain⟨ns,rfl⟩:=items_int h3;have hlen:ns.length<=n:=by
  unfold OpenLaw.pre at hc;have h4:(WTm.not (.lt (.lit (.int (n:Int))) (.len (.arg 0)))).holds [] { args:=[.list (ns.map .int)] }=true:=by
   have h4:=(holds_andW hc).1;rw[hn] at h4;exact h4
  have h5:=condW_of h4 (w_not (w_lt w_lit (w_len_list (w_arg rfl))));rw[Qe] at h5;refine Nat.le_of_not_lt λq=>?_
  have q':(n:Int)<((ns.length:Nat):Int):=by omega
  first
   |(rw[decide_eq_true q'] at h5;exact absurd h5 (by decide))
   |(simp at h5;omega)
 cases hwl with
 |cons w1 w2=>
  cases w2;cases w1 with
  |list ho hall=>exact⟨_,_,ns,rfl,rfl,ho,QeM ns _ hall,hlen⟩
theorem QlW(l:OpenLaw)(args:List WData):l.row.toRowW.claim.post args (.bool true) args=true:=
 postW_of (r:=l.row.toRowW) (X:=(true == true))
  (show Qyx [] (.bool true) .bool=true by first | rfl | decide | simp[Qyx,WShape.arms,WShape.armsAll])
  (show(WTm.eq .res (.lit (.bool true))).value [] { args:=args,res:=some (.bool true),after:=args }=some (.bool (true == true)) from w_eq_bool (w_res rfl) w_lit) rfl
theorem QiV{l:OpenLaw}{n:Nat}{q:QC}{loose:List Str}{XP:(Str->Option Value)->Heap->Prop}{YP:Ja->Heap->Prop}{d:DefRec}
  (hn:l.most=some n)(hdf:d.params.defaults=[])
  (call:∀(w:Ja)(s₀ s₁:Shared)(mg mb:Str->Option Value)(fa:Addr)(o:Obj)(pm cd doc:Value)(a:Addr)(vs:List Value)(ns:List Int),
   Ground q loose [] XP w s₀ mg mb s₁.heap->YP w s₁.heap ->
   s₁.heap.get? fa=some o->o.data=.func (docDef d.name d.params d.body d.scope pm cd doc)->s₁.heap.CodeRec cd d.name->mg d.name=some (.ref fa) ->
   s₁.heap.get? a=some { cls:=.type "list",data:=.seq vs.toArray }->IntsAre vs ns->ns.length<=n->s₁.gens=#[] ->
   codeAny (model l.prog w) callerA (.call (.ref fa) ⟨[.ref a],[]⟩) (λr s'=>r=.ok (.ret (.bool true))/\OldK s₁.heap s'.heap/\s'.os=s₁.os/\Qd3 s'.gens) s₁) :
  WalkO q loose XP YP l.row.toRowW d [] (λf vs=>PySem.call f vs):=by
 intro w s₀ s₁ mg mb G Y fa o pm cd doc dV kV ho hd hcd hD hmg hg args vals as hpre hlay hrd hwl hlo;obtain rfl:dV=.none:=Dflts.none hD hdf;obtain rfl:kV=.none:=Dflts.noKw hD;obtain⟨a,vs,ns,rfl,rfl,hobj,hints,hlen⟩:=QlA hn hpre hwl;refine enter_call (Qa5 (call w s₀ s₁ mg mb fa o pm cd doc a vs ns G Y ho (fd_plain hd) hcd hmg hobj hints hlen hg) λr s' hq=>?_);obtain⟨rfl,h2,h3,h4⟩:=hq;exact⟨.inl ⟨.bool true,.bool true,[],rfl,λ_=>rfl,.bool true,QlW l _,λ_=>⟨QyJ,λ_ hm=>(nomatch hm)⟩⟩,h2,h3,h4⟩
section
variable{prog:QC}{w:Ja}{A:Q2}{E:Value->Shared->Prop}{s:Shared}{K:Frag}
end
end Att
namespace L2
theorem QgX:∀{vs:List Value}{ns:List Int},IntsAre vs ns->Vals (ns.map V.int) vs
 |_,_,.nil=>.nil
 |_,_,.cons n t h=>.cons ⟨t,rfl⟩ (QgX h)
def QzT(H:Hp):Prop:=∀b,H b=none∨∃o xs,H b=some (.frz o (.lst xs))
theorem Qpt{P:QC}{w:Ja}{K:PySem.W.Frag}{mg mb:Str->Option Value}{CX:CXT}{k:Nat}{fa a:Addr}{fd:QP}{x:Str}{sp:Sp}{s₁:Shared}{vs:List Value}{ns:List Int}
  (KX:K.In s₁.heap)(hns:s₁.heap.Ns mainGlobals mg)(hb:s₁.heap.Ns builtinsNs mb)(hbb:∀x:Str,x ≠ "__name__" -> mb x=bootBuiltins x)(hlim:s₁.heap.NoLimit)(hg:s₁.gens=#[])
  (ha:s₁.heap.get? a=some { cls:=.type "list",data:=.seq vs.toArray })(hi:IntsAre vs ns)(hl:ns.length<=sizeLine)(hr:Room k callerA)
  (F:∀base:Heap,K.In base->base.Ns mainGlobals mg->FnOk P w K mg base CX k fa fd [x] sp)(hbind:∀(s:Shared)(u:Value),Qe7 s fd ⟨[u],[]⟩ [(x,u)])
  (hsp:∀H:Hp,QzT H->SqL K H a (ns.map V.int)->sp [.ref a] H (λv _=>v=.bl true) λ_ _ _=>False)
  (hCX:∀H e s',CX [] H s₁ (λ_ _ _=>False) e s'->False) :
  codeAny (model P w) callerA (.call (.ref fa) ⟨[.ref a],[]⟩) (λr s'=>r=.ok (.ret (.bool true))/\OldK s₁.heap s'.heap/\s'.os=s₁.os/\Qd3 s'.gens) s₁:=by
 have rv:=QgX hi;have lenV:=hi.length;have core:∀H:Hp,QzT H->SqL K H a (ns.map V.int)->HOk P w H s₁.heap->(∀b,H b≠none->b=a)->(H a≠none->K.lookup a=none) ->
   codeAny (model P w) callerA (.call (.ref fa) ⟨[.ref a],[]⟩) (λr s'=>r=.ok (.ret (.bool true))/\OldK s₁.heap s'.heap/\s'.os=s₁.os/\Qd3 s'.gens) s₁:=by
  intro H hO hS hok hA hK;have base_of:∀{b:Addr}{o:Obj},s₁.heap.get? b=some o->H b=none->(Qpz s₁.heap H).get? b=some o:=λe n=>Qpy e n
  have noA:∀{b:Addr}{o:Obj}{es:Array DictEntry}{ep:Nat},s₁.heap.get? b=some o->o.data=.dict es ep->H b=none:=λ{b o es ep} e d=>by
   cases q:H b with
   |none=>rfl
   |some u=>
    have e':b=a:=hA b (by rw[q];simp);subst e';rw[ha] at e;cases e;have d':Data.seq vs.toArray _=Data.dict es ep:=d;cases d'
  have nsK:∀{b:Addr}{m:Str->Option Value},s₁.heap.Ns b m->(Qpz s₁.heap H).Ns b m:=λ{b m} ⟨o,es,ep,e,d,r⟩=>⟨o,es,ep,base_of e (noA e d),d,r⟩
  have hKb:K.In (Qpz s₁.heap H):=λb o e=>base_of (KX b o e) (by
   cases q:H b with
   |none=>rfl
   |some u=>
    have e':b=a:=hA b (by rw[q];simp);subst e';rw[hK (by rw[q];simp)] at e;cases e)
  have hM:Mod K mg (Qpz s₁.heap H):=⟨hKb,nsK hns,⟨mb,nsK hb,hbb⟩,let ⟨mc,h1,h2⟩:=hlim;⟨mc,nsK h1,h2⟩⟩;have e0:Env0 P w K mg (Qpz s₁.heap H) callerA [] s₁ H:=⟨rfl,hM,λb o e=>QtL e,Nat.le_of_eq (QmK _ _),trivial,λb hb=>absurd (show b∈([]:List Addr) from hb) (by simp),hok,.of_eq hg⟩;refine Qa5 ((F _ hKb (nsK hns)).run callerA [] s₁ H ⟨[.ref a],[]⟩ [.ref a] [.ref a] _ _ hr e0 (hbind s₁ (.ref a)) (.cons rfl .nil) (hsp H hO hS)) λr s' h=>?_
  cases r with
  |error e=>exact(hCX H e s' h).elim
  |ok fl=>
   cases fl with
   |next=>exact JE h
   |brk=>exact JE h
   |cont=>exact JE h
   |ret u=>
    obtain⟨v,H',os,bare,un,hok',r',q⟩:=h;have q':v=.bl true:=q;subst q';obtain rfl:u=Z3 true:=r';refine⟨rfl,OldK.of_keep λb o e=>?_,os,bare⟩;cases q:H b with
    |none=>exact un.keep b o e q (by intro z;exact absurd (show b∈([]:List Addr) from z) (by simp)) (by simp)
    |some u=>
     rcases hO b with z | ⟨ob,xs,z⟩
     ·rw[q] at z;cases z
     ·have z2:=un.frzs b ob _ z;obtain⟨e1,_⟩:=hok b _ z;obtain⟨e2,_⟩:=hok' b _ z2;rw[e] at e1;cases e1;exact e2
 cases hk:K.lookup a with
 |some o=>
  have e:=KX a o hk;rw[ha] at e;cases e;refine core (λ_=>none) (λ_=>.inl rfl) (.inr ⟨_,vs.toArray,_,hk,rfl,rfl,rfl,by rw[Qr,lenV];exact hl,by simpa using rv⟩) (λb u z=>by have z':(none:Option HO)=some u:=z;cases z') (λb z=>absurd rfl z) λz=>absurd rfl z
 |none=>
  refine core (λb=>if b=a then some (.frz { cls:=.type "list",data:=.seq vs.toArray } (.lst (ns.map V.int))) else none) (λb=>?_) (.inl (.inr ⟨{ cls:=.type "list",data:=.seq vs.toArray },if_pos rfl⟩)) (λb u z=>?_) (λb z=>?_) λ_=>hk
  ·by_cases hb:b=a
   ·exact .inr ⟨_,_,if_pos hb⟩
   ·exact .inl (if_neg hb)
  ·by_cases hb:b=a
   ·have z':=(if_pos hb).symm.trans z;cases z';subst hb;exact⟨ha,by rw[Qe];exact hl,vs,_,rv,ha⟩
   ·have z':=(if_neg hb).symm.trans z;cases z'
  ·by_cases hb:b=a
   ·exact hb
   ·exact absurd (if_neg hb) z
theorem Qsr{l:PySem.W.OpenLaw}{n k:Nat}{q:QC}{loose:List Str}{XP:(Str->Option Value)->Heap->Prop}{YP:Ja->Heap->Prop}{d:DefRec}{K:Params->PySem.W.Frag}{CX:Ja->CXT}{sp:Ja->Sp}{x:Str}
  (hn:l.most=some n)(hn2:n<=sizeLine)(hdf:d.params.defaults=[])(hr:Room k callerA)
  (hY:∀(w:Ja)(h:Heap),YP w h->(K w.params).In h)
  (F:∀(w:Ja)(mg:Str->Option Value)(fa:Addr)(h:Heap),(K w.params).In h->h.Ns mainGlobals mg->mg d.name=some (.ref fa) ->
   ∃fd:QP,(∀(s:Shared)(u:Value),Qe7 s fd ⟨[u],[]⟩ [(x,u)]) /\
    ∀base:Heap,(K w.params).In base->base.Ns mainGlobals mg->FnOk l.prog w (K w.params) mg base (CX w) k fa fd [x] (sp w))
  (hsp:∀(w:Ja)(H:Hp)(a:Addr)(ns:List Int),ns.length<=n->QzT H->SqL (K w.params) H a (ns.map V.int)->sp w [.ref a] H (λv _=>v=.bl true) λ_ _ _=>False)
  (hCX:∀(w:Ja)(H:Hp)(s:Shared)(e:Value)(s':Shared),CX w [] H s (λ_ _ _=>False) e s'->False) :
  PySem.W.WalkO q loose XP YP l.row.toRowW d [] (λf vs=>PySem.call f vs):=by
 refine Att.QiV hn hdf λw s₀ s₁ mg mb fa o pm cd doc a vs ns G Y ho hd hcd hmg hobj hints hlen hg=>?_
 have KX:=hY w _ Y;obtain⟨fd,hb,hF⟩:=F w mg fa _ KX G.T.g hmg;exact Qpt KX G.T.g G.T.b G.T.builtins G.T.nolimit hg hobj hints (Jb hlen hn2) hr hF hb (λH hO hS=>hsp w H a ns hlen hO hS) λH e s'=>hCX w H s₁ e s'
def Zj(s:Yt):Arguments:=match s with
 |.FunctionDef _ a _ _ _ _ _ _ _ _=>a
 |_=>{ posonlyargs:=[],args:=[],vararg:=none,kwonlyargs:=[],kw_defaults:=[],kwarg:=none,defaults:=[] }
def JO(s:Yt):List Yt:=match s with
 |.FunctionDef _ _ b _ _ _ _ _ _ _=>b
 |_=>[]
def Qx(s:Yt):YM:=match s with
 |.FunctionDef _ _ _ _ _ _ sc _ _ _=>sc
 |_=>{ kind:=.function,names:=[],isGenerator:=false,isCoroutine:=false }
abbrev CX0:CXT:=λ_ _ _ _ _ _=>False
abbrev E0:XK:=λ_ _ _=>False
theorem Qo5{X:Cx}:Qb1 CX0 X E0:=λ_ _ _ _ _ _ _ h=>h.elim
structure Fun (K:PySem.W.Frag) (x qual:Str) (st:Yt) (f:Addr) (fd:QP):Prop where
 ex:∃(oc:Value)(od:Option Addr)(kV doc pm:Value)(an:Option Addr)(cdv ct:Value)(osl:Array (Option Value)),
  fd=PySem.W.fnOf x qual (Zj st) (JO st) (Qx st) .none kV doc pm an cdv ct/\K.lookup f=some ⟨oc,od,.func fd,osl⟩/\PySem.W.codeIn K cdv qual=true
 kp:PySem.W.keepIn K (.ref f)=true
section
variable{P:QC}{w:Ja}{K:PySem.W.Frag}{mg:Str->Option Value}{base:Heap}
theorem Fun.ok{x qual:Str}{st:Yt}{f:Addr}{fd:QP}{N ps:List Str}{k:Nat}{sp:Sp}(F:Fun K x qual st f fd)(S:JA N ps (Qx st))(len:∀vs H Q E,sp vs H Q E->vs.length=ps.length)
  (hbody:∀(cdv:Value)(A:Q2)(outer:List Env)(s:Shared)(H:Hp)(vs:List V)(Q:VK)(E:XK),Room k (A.deeper (envOfC qual (Qx st) s.heap.objs.size f cdv))->sp vs H Q E ->
   ∃t,PSs (cxOf CX0 P w K mg base N qual (Qx st) f cdv A outer s H E).nox (JO st) t/\t { nx:=λ_ H'=>Q .non H',rt:=Q } (start N vs) H):FnOk P w K mg base CX0 (k+1) f fd ps sp:=by
 obtain⟨oc,od,kV,doc,pm,an,cdv,ct,osl,rfl,lk,hcd⟩:=F.ex;refine Qxn lk hcd S len λA outer s H vs Q E hr hsp=>?_
 obtain⟨t,h,q⟩:=hbody cdv A outer s H vs Q E hr hsp;exact⟨t,h.nox,q⟩
theorem Fun.binds{x qual:Str}{st:Yt}{f:Addr}{fd:QP}{ps:List Str}(F:Fun K x qual st f fd)
  (h:∀(kV doc pm:Value)(an:Option Addr)(cdv ct:Value)(us:List Value),us.length=ps.length->bindArgs (PySem.W.fnOf x qual (Zj st) (JO st) (Qx st) .none kV doc pm an cdv ct) ⟨us,[]⟩=pure (ps.zip us)):Binds K fd ps []:=by
 obtain⟨oc,od,kV,doc,pm,an,cdv,ct,osl,rfl,lk,hcd⟩:=F.ex;exact .all (h kV doc pm an cdv ct)
theorem Yi{x qual:Str}{st:Yt}{f:Addr}{oc:Value}{od an:Option Addr}{osl:Array (Option Value)}{kV doc pm cdv ct:Value}(l:K.lookup f=some ⟨oc,od,.func (PySem.W.fnOf x qual (Zj st) (JO st) (Qx st) .none kV doc pm an cdv ct),osl⟩)
  (c:PySem.W.codeIn K cdv qual=true)(k:PySem.W.keepIn K (.ref f)=true):Fun K x qual st f (PySem.W.fnOf x qual (Zj st) (JO st) (Qx st) .none kV doc pm an cdv ct):=⟨⟨oc,od,kV,doc,pm,an,cdv,ct,osl,rfl,l,c⟩,k⟩
end
section
variable{X:Cx}
theorem pv(i:Nat){x:Str}{pos:Pos}(hN:X.N[i]? = some x:=by rfl)(hv:Vis X.env.scope x:=by first | exact Jp rfl | exact JF (Jp rfl) | exact JF (JF rfl))(hd:(x == ("__debug__" : Str))=false:=by decide)
  (hcd:(x == ("__classdict__" : Str))=false:=by decide):PE X (.Name x pos) (QhZ i):=Qrx hN hv hd hcd
end
theorem Qua{A B:Prop}(h:B):if false=true then A else B:=by
 rw[if_neg QJ];exact h
theorem QrH{A B:Prop}(h:A):if true=true then A else B:=by
 rw[if_pos rfl];exact h
theorem QAk{c A B:Prop}[Decidable c](h1:c->A)(h2:¬c->B):if c then A else B:=by
 by_cases h:c
 ·rw[if_pos h];exact h1 h
 ·rw[if_neg h];exact h2 h
theorem QzB{c A B:Prop}[Decidable c](hc:c)(h:B):if(!decide c)=true then A else B:=by
 rw[decide_eq_true hc];exact Qua h
def Same(H H':Hp):Prop:=∀b o,H b=some o->H' b=some o
theorem Same.refl(H:Hp):Same H H:=λ_ _ h=>h
theorem Same.trans{H H1 H2:Hp}(a:Same H H1)(b:Same H1 H2):Same H H2:=λc o h=>b c o (a c o h)
theorem Same.free{H H':Hp}(e:Same H H'){l:Addr}(h:H' l=Qx1):H l=Qx1:=by
 cases q:H l with
 |none=>rfl
 |some o=>
  rw[e l o q] at h;cases h
theorem Same.seq{K:PySem.W.Frag}{H H':Hp}{a:Addr}{xs:List V}(e:Same H H')(h:SqL K H a xs):SqL K H' a xs:=by
 rcases h with(h | ⟨o,h⟩) | h
 ·exact .inl (.inl (e _ _ h))
 ·exact .inl (.inr ⟨o,e _ _ h⟩)
 ·exact .inr h
end L2
set_option maxHeartbeats 4000000
namespace Rt
def QbW:Bool->Keyed->Array Keyed->Nat->Nat->Nat->StateT JX Sem (Option Nat):=sortPriv% PySem.Builtin.gallop
theorem QkE(lf:Bool)(kk:Keyed)(xs:Array Keyed)(b n h:Nat):QbW lf kk xs b n h=(do
 let bey (z:Nat):StateT JX Sem (Option Bool):=do
  let x <- elem' xs (b+z)
  if lf then lt' x kk else return (<- lt' kk x).map (!·)
 let mut l0:=0
 let mut o0:=1
 let mut u:=0
 let mut v:=0
 let some r0 <- bey h | return none
 if r0 then
  let mo:=n - h
  for _ in [0:n] do
   if o0≥mo then break
   let some r1 <- bey (h+o0) | return none
   if !r1 then break
   l0:=o0
   o0:=2*o0+1
  u:=h+l0+1
  v:=h+min o0 mo
 else
  let mo:=h+1
  for _ in [0:n] do
   if o0≥mo then break
   let some r1 <- bey (h - o0) | return none
   if r1 then break
   l0:=o0
   o0:=2*o0+1
  u:=h+1 - min o0 mo
  v:=h - l0
 for _ in [0:n] do
  if u≥v then break
  let m:=u+(v - u) / 2
  let some r1 <- bey m | return none
  if r1 then u:=m+1 else v:=m
 return some v):=rfl
structure Ord (c:Keyed->Keyed->Bool):Prop where
 asym:∀x y,c x y=true->c y x=false
 trans:∀x y z,c y x=false->c z y=false->c z x=false
abbrev le (c:Keyed->Keyed->Bool) (x y:Keyed):Prop:=c y x=false
section
variable{c:Keyed->Keyed->Bool}
theorem Ord.irr(o:Ord c)(x:Keyed):c x x=false:=by
 cases h:c x x with
 |false=>rfl
 |true=>rw[o.asym x x h] at h;cases h
theorem Ord.tr(o:Ord c){x y z:Keyed}(a:le c x y)(b:le c y z):le c x z:=o.trans x y z a b
theorem Ord.lt_le(o:Ord c){x y:Keyed}(a:c x y=true):le c x y:=o.asym x y a
theorem Ord.tr_lt(o:Ord c){x y z:Keyed}(a:le c x y)(b:c y z=true):c x z=true:=by
 cases h:c x z with
 |true=>rfl
 |false=>rw[show c y z=false from o.trans z x y h a] at b;cases b
end
def kx(xs:Array Keyed)(i:Nat):Keyed:=(xs[i]?).getD (JI,JI)
theorem Qt7{xs:Array Keyed}{i:Nat}(h:i<xs.size):xs[i]? = some (kx xs i):=by
 unfold kx;rw[getElem?_pos xs i h];rfl
theorem QiJ{xs ys:Array Keyed}{i j:Nat}(h:xs[i]? = ys[j]?):kx xs i=kx ys j:=by unfold kx;rw[h]
def Sg(c:Keyed->Keyed->Bool)(xs:Array Keyed)(lo hi:Nat):Prop:=∀i j,lo<=i->i<=j->j<hi->le c (kx xs i) (kx xs j)
structure Asks (prog:QC) (w:Ja) (A:Q2) (s:Shared) (κ:Yd) (a₀:Array Keyed) (c:Keyed->Keyed->Bool):Prop where
 ord:Ord c
 lt:∀x y,x∈a₀.toList->y∈a₀.toList->∀(C:Bool->Shared->Prop)(E':Value->Shared->Prop),C (c x y) s->wpAny (model prog w) A (keyLt' κ x.1 y.1) C E' s
structure SB (κ:Yd) (a₀:Array Keyed) (st:JX):Prop where
 perm:(arrOf st).Perm a₀
 kind:kindOf st=κ
 failed:failedOf st=none
theorem SB.size{κ:Yd}{a₀:Array Keyed}{st:JX}(h:SB κ a₀ st):(arrOf st).size=a₀.size:=h.perm.size_eq
theorem SB.mem{κ:Yd}{a₀:Array Keyed}{st:JX}(h:SB κ a₀ st){p:Keyed}(e:p∈(arrOf st).toList):p∈a₀.toList:=(ZA.mp h.perm).mem_iff.mp e
theorem QeJ{xs:Array Keyed}{i:Nat}(h:i<xs.size):kx xs i∈xs.toList:=ZK.mpr (YD (Qt7 h))
section
variable{prog:QC}{w:Ja}{A:Q2}{E:Value->Shared->Prop}{s:Shared}{a₀:Array Keyed}{κ:Yd}{c:Keyed->Keyed->Bool}
theorem QgW{st:JX}{x y:Keyed}{Q:Option Bool->JX->Prop}(hA:Asks prog w A s κ a₀ c)(hk:kindOf st=κ)(hx:x∈a₀.toList)(hy:y∈a₀.toList)(h:Q (some (c x y)) st):wpS (model prog w) A E s (lt' x y) Q st:=by
 rw[lt'_eq];refine Ql (Qci ?_);rw[hk];refine Ql (Qec (QaD (hA.lt x y hx hy _ _ ⟨rfl,?_⟩)));exact Qm h
theorem Q9{st:JX}{arr:Array Keyed}{i:Nat}{Q:Keyed->JX->Prop}(hi:i<arr.size)(h:Q (kx arr i) st):wpS (model prog w) A E s (elem' arr i) Q st:=by
 rw[elem'_eq,Qt7 hi];exact Qm h
theorem Qes{st:JX}{i j:Nat}{Q:Option Bool->JX->Prop}(hA:Asks prog w A s κ a₀ c)(hB:SB κ a₀ st)(hi:i<a₀.size)(hj:j<a₀.size)(h:Q (some (c (kx (arrOf st) i) (kx (arrOf st) j))) st):wpS (model prog w) A E s (ltAt' i j) Q st:=by
 have h1:i<(arrOf st).size:=by rw[hB.size];exact hi
 have h2:j<(arrOf st).size:=by rw[hB.size];exact hj
 rw[ltAt'_eq];refine Ql (Qci ?_);refine Ql (Q9 h1 ?_);refine Ql (Q9 h2 ?_);exact QgW hA hB.kind (hB.mem (QeJ h1)) (hB.mem (QeJ h2)) h
def QcE(c:Keyed->Keyed->Bool)(lf:Bool)(kk:Keyed)(xs:Array Keyed)(i:Nat):Bool:=if lf then c (kx xs i) kk else !c kk (kx xs i)
theorem QpR(o:Ord c){lf:Bool}{kk:Keyed}{xs:Array Keyed}{b n:Nat}(sg:Sg c xs b (b+n)){i j:Nat}(hij:i<=j)(hj:j<n)(h:QcE c lf kk xs (b+j)=true):QcE c lf kk xs (b+i)=true:=by
 have l:=sg (b+i) (b+j) (by omega) (by omega) (by omega);unfold QcE at h ⊢;cases lf with
 |true=>exact o.tr_lt l h
 |false=>
  simp only[Zw,if_false,Qe0] at h ⊢;exact o.tr l h
theorem ZF{st:JX}{lf:Bool}{kk:Keyed}{xs:Array Keyed}{b n hint:Nat}{Q:Option Nat->JX->Prop}(hA:Asks prog w A s κ a₀ c)(hk:kindOf st=κ)(hkey:kk∈a₀.toList)(harr:∀p∈xs.toList,p∈a₀.toList)(hb:b+n<=xs.size)(hh:hint<n)(sg:Sg c xs b (b+n))
  (h:∀k,k<=n->(∀i,i<k->QcE c lf kk xs (b+i)=true)->(∀i,k<=i->i<n->QcE c lf kk xs (b+i)=false)->Q (some k) st):wpS (model prog w) A E s (QbW lf kk xs b n hint) Q st:=by
 have bey:∀(i:Nat)(Q':Option Bool->JX->Prop),i<n->Q' (some (QcE c lf kk xs (b+i))) st->wpS (model prog w) A E s (do
   let x <- elem' xs (b+i)
   if lf then lt' x kk else return (<- lt' kk x).map (!·)) Q' st:=λi Q' hi hq=>by
  have hs:b+i<xs.size:=by omega
  refine Ql (Q9 hs ?_);have pm:=harr _ (QeJ hs);unfold QcE at hq;cases lf with
  |true=>exact QgW hA hk pm hkey hq
  |false=>exact Ql (QgW hA hk hkey pm (Qm hq))
 have mono:∀{i j:Nat},i<=j->j<n->QcE c lf kk xs (b+j)=true->QcE c lf kk xs (b+i)=true:=λhij hj h=>QpR hA.ord sg hij hj h
 have monoF:∀{i j:Nat},i<=j->j<n->QcE c lf kk xs (b+i)=false->QcE c lf kk xs (b+j)=false:=λ{i j} hij hj h=>by
  cases e:QcE c lf kk xs (b+j) with
  |false=>rfl
  |true=>rw[mono hij hj e] at h;cases h
 rw[QkE]
 dsimp only
 refine Ql (bey hint _ hh ?_);cases hr:QcE c lf kk xs (b+hint) with
 |true=>
  dsimp only
  rw[if_pos rfl];refine Ql (Yx (JZ (I:=λx z st'=>st'=st/\∃l o,z=(none,l,o)/\l<o/\x+1<=o/\hint+l<n/\QcE c lf kk xs (b+(hint+l))=true)
   (Q:=λz st'=>st'=st/\∃l o,z=(none,l,o)/\l<o/\hint+l<n/\QcE c lf kk xs (b+(hint+l))=true/\(hint+o<n->QcE c lf kk xs (b+(hint+o))=false)) ?step ?fin ⟨rfl,0,1,rfl,by omega,by omega,by omega,hr⟩) ?post)
  case fin=>
   rintro z st' ⟨rfl,l,o,rfl,h1,h2,h3,h4⟩;exact⟨rfl,l,o,rfl,h1,h3,h4,λh5=>by omega⟩
  case step=>
   rintro x z st' _ hx ⟨rfl,l,o,rfl,h1,h2,h3,h4⟩
   dsimp only
   by_cases g:o≥n - hint
   ·rw[if_pos g];exact Qm ⟨rfl,l,o,rfl,h1,h3,h4,λh5=>by omega⟩
   ·rw[if_neg g];refine Ql (bey (hint+o) _ (by omega) ?_);cases e:QcE c lf kk xs (b+(hint+o)) with
    |true=>exact Qm ⟨rfl,o,2*o+1,rfl,by omega,by omega,by omega,e⟩
    |false=>exact Qm ⟨rfl,l,o,rfl,h1,h3,h4,λ_=>e⟩
  case post=>
   rintro z st' ⟨rfl,l,o,rfl,h1,h3,h4,h5⟩
   dsimp only
   refine Ql (Yx (JZ (I:=λx z st''=>st''=st'/\∃u v,z=(none,u,v)/\v<=n/\u<=v/\v - u<=n - x/\(∀i,i<u->QcE c lf kk xs (b+i)=true)/\(∀i,v<=i->i<n->QcE c lf kk xs (b+i)=false))
    (Q:=λz st''=>st''=st'/\∃v,z=(none,v,v)/\v<=n/\(∀i,i<v->QcE c lf kk xs (b+i)=true)/\(∀i,v<=i->i<n->QcE c lf kk xs (b+i)=false)) ?step2 ?fin2 ?init2) ?post2)
   case init2=>
    refine⟨rfl,_,_,rfl,by omega,by omega,by omega,λi hi=>mono (by omega) h3 h4,λi hi hn=>?_⟩;exact monoF (i:=hint+o) (by omega) hn (h5 (by omega))
   case fin2=>
    rintro z st'' ⟨rfl,u,v,rfl,g1,g2,g3,g4,g5⟩;have:u=v:=by omega
    subst this;exact⟨rfl,u,rfl,g1,g4,g5⟩
   case step2=>
    rintro x z st'' _ hx ⟨rfl,u,v,rfl,g1,g2,g3,g4,g5⟩
    dsimp only
    by_cases g:u≥v
    ·rw[if_pos g];have:u=v:=by omega
     subst this;exact Qm ⟨rfl,u,rfl,g1,g4,g5⟩
    ·rw[if_neg g];refine Ql (bey (u+(v - u) / 2) _ (by omega) ?_);cases e:QcE c lf kk xs (b+(u+(v - u) / 2)) with
     |true=>exact Qm ⟨rfl,_,_,rfl,g1,by omega,by omega,λi hi=>mono (by omega) (by omega) e,g5⟩
     |false=>exact Qm ⟨rfl,_,_,rfl,by omega,by omega,by omega,g4,λi hi hn=>monoF hi hn e⟩
   case post2=>
    rintro z st'' ⟨rfl,v,rfl,g1,g4,g5⟩;exact Qm (h v g1 g4 g5)
 |false=>
  dsimp only
  rw[if_neg (by decide)];refine Ql (Yx (JZ (I:=λx z st'=>st'=st/\∃l o,z=(none,l,o)/\l<o/\x+1<=o/\l<=hint/\QcE c lf kk xs (b+(hint - l))=false)
   (Q:=λz st'=>st'=st/\∃l o,z=(none,l,o)/\l<o/\l<=hint/\QcE c lf kk xs (b+(hint - l))=false/\(o<=hint->QcE c lf kk xs (b+(hint - o))=true)) ?step ?fin ⟨rfl,0,1,rfl,by omega,by omega,by omega,hr⟩) ?post)
  case fin=>
   rintro z st' ⟨rfl,l,o,rfl,h1,h2,h3,h4⟩;exact⟨rfl,l,o,rfl,h1,h3,h4,λh5=>by omega⟩
  case step=>
   rintro x z st' _ hx ⟨rfl,l,o,rfl,h1,h2,h3,h4⟩
   dsimp only
   by_cases g:o≥hint+1
   ·rw[if_pos g];exact Qm ⟨rfl,l,o,rfl,h1,h3,h4,λh5=>by omega⟩
   ·rw[if_neg g];refine Ql (bey (hint - o) _ (by omega) ?_);cases e:QcE c lf kk xs (b+(hint - o)) with
    |false=>exact Qm ⟨rfl,o,2*o+1,rfl,by omega,by omega,by omega,e⟩
    |true=>exact Qm ⟨rfl,l,o,rfl,h1,h3,h4,λ_=>e⟩
  case post=>
   rintro z st' ⟨rfl,l,o,rfl,h1,h3,h4,h5⟩
   dsimp only
   refine Ql (Yx (JZ (I:=λx z st''=>st''=st'/\∃u v,z=(none,u,v)/\v<=n/\u<=v/\v - u<=n - x/\(∀i,i<u->QcE c lf kk xs (b+i)=true)/\(∀i,v<=i->i<n->QcE c lf kk xs (b+i)=false))
    (Q:=λz st''=>st''=st'/\∃v,z=(none,v,v)/\v<=n/\(∀i,i<v->QcE c lf kk xs (b+i)=true)/\(∀i,v<=i->i<n->QcE c lf kk xs (b+i)=false)) ?step2 ?fin2 ?init2) ?post2)
   case init2=>
    refine⟨rfl,_,_,rfl,by omega,by omega,by omega,λi hi=>?_,λi hi hn=>monoF hi hn h4⟩;exact mono (j:=hint - o) (by omega) (by omega) (h5 (by omega))
   case fin2=>
    rintro z st'' ⟨rfl,u,v,rfl,g1,g2,g3,g4,g5⟩;have:u=v:=by omega
    subst this;exact⟨rfl,u,rfl,g1,g4,g5⟩
   case step2=>
    rintro x z st'' _ hx ⟨rfl,u,v,rfl,g1,g2,g3,g4,g5⟩
    dsimp only
    by_cases g:u≥v
    ·rw[if_pos g];have:u=v:=by omega
     subst this;exact Qm ⟨rfl,u,rfl,g1,g4,g5⟩
    ·rw[if_neg g];refine Ql (bey (u+(v - u) / 2) _ (by omega) ?_);cases e:QcE c lf kk xs (b+(u+(v - u) / 2)) with
     |true=>exact Qm ⟨rfl,_,_,rfl,g1,by omega,by omega,λi hi=>mono (by omega) (by omega) e,g5⟩
     |false=>exact Qm ⟨rfl,_,_,rfl,by omega,by omega,by omega,g4,λi hi hn=>monoF hi hn e⟩
   case post2=>
    rintro z st'' ⟨rfl,v,rfl,g1,g4,g5⟩;exact Qm (h v g1 g4 g5)
structure Fb (κ:Yd) (a₀:Array Keyed) (lo:Nat) (st st':JX):Prop where
 sb:SB κ a₀ st'
 pend:pendingOf st'=pendingOf st
 low:∀k,k<lo->kx (arrOf st') k=kx (arrOf st) k
theorem Fb.refl{st:JX}{lo:Nat}(h:SB κ a₀ st):Fb κ a₀ lo st st:=⟨h,rfl,λ_ _=>rfl⟩
theorem QmB{xs:Array Keyed}{i j:Nat}(hj:j<=xs.size)(k:Nat):kx (mirror xs i j ((j - i) / 2)) k=if i<=k/\k<j then kx xs (i+j - 1 - k) else kx xs k:=by
 have e:=Qu8 (i:=i) hj k;by_cases h1:i<=k/\k<j
 ·rw[if_pos h1] at e ⊢;exact QiJ e
 ·rw[if_neg h1] at e ⊢;exact QiJ e
theorem QbN{st:JX}{i j lo:Nat}{st0:JX}{Q:Unit->JX->Prop}(fb:Fb κ a₀ lo st0 st)(hi:lo<=i)(hj:j<=a₀.size)
  (h:∀st',Fb κ a₀ lo st0 st'->(∀k,kx (arrOf st') k=if i<=k/\k<j then kx (arrOf st) (i+j - 1 - k) else kx (arrOf st) k)->Q () st'):wpS (model prog w) A E s (reverseSlice' i j) Q st:=by
 rw[reverseSlice'_eq];have km:∀k,kx (mirror (arrOf st) i j ((j - i) / 2)) k=if i<=k/\k<j then kx (arrOf st) (i+j - 1 - k) else kx (arrOf st) k:=λk=>QmB (by rw[fb.sb.size];exact hj) k
 refine Qat (h _ ⟨⟨(mirror_perm _ _ _ _).trans fb.sb.perm,fb.sb.kind,fb.sb.failed⟩,fb.pend,λk hk=>?_⟩ km);show kx (mirror (arrOf st) i j ((j - i) / 2)) k=_;rw[km,if_neg (by omega)];exact fb.low k hk
def QAD(lo a nr:Nat):StateT JX Sem (Option (Option Nat)×Nat):=
 forIn [a:nr] ((none,a):Option (Option Nat)×Nat) λ_ z=>do
  let r <- ltAt' (lo+z.2) (lo+z.2 - 1)
  match r with
  |some b=>if b=true then pure (Qa6 (none,z.2)) else pure (JY (none,z.2+1))
  |_=>pure (Qa6 (some none,z.2))
theorem Qeu{st:JX}{lo a nr:Nat}{Q:Option (Option Nat)×Nat->JX->Prop}(hA:Asks prog w A s κ a₀ c)(hn:lo+nr<=a₀.size)(h1:1<=a)(han:a<=nr)(hB:SB κ a₀ st)(sg:Sg c (arrOf st) lo (lo+a))
  (h:∀n,a<=n->n<=nr->Sg c (arrOf st) lo (lo+n)->(n=nr∨c (kx (arrOf st) (lo+n)) (kx (arrOf st) (lo+n - 1))=true)->Q (none,n) st):wpS (model prog w) A E s (QAD lo a nr) Q st:=by
 unfold QAD;refine JZ (I:=λx z st'=>st'=st/\z=(none,x)/\Sg c (arrOf st) lo (lo+x)) ?step ?fin ⟨rfl,rfl,sg⟩
 case fin=>
  rintro z st' ⟨rfl,rfl,hs⟩;rw[show max a nr=nr by omega] at hs ⊢;exact h nr han (Qj _) hs (.inl rfl)
 case step=>
  rintro x z st' hax hxn ⟨rfl,rfl,hs⟩
  dsimp only
  refine Ql (Qes hA hB (by omega) (by omega) ?_);cases e:c (kx (arrOf st') (lo+x)) (kx (arrOf st') (lo+x - 1)) with
  |true=>exact Qm (h x hax (by omega) hs (.inr e))
  |false=>
   refine Qm ⟨rfl,rfl,λi j hi hij hj=>?_⟩;by_cases z:j<lo+x
   ·exact hs i j hi hij z
   ·have zj:j=lo+x:=by omega
    subst zj;by_cases zi:i=lo+x
    ·subst zi;exact hA.ord.irr _
    ·exact hA.ord.tr (hs i (lo+x - 1) hi (by omega) (by omega)) e
def Ng(c:Keyed->Keyed->Bool)(xs:Array Keyed)(lo hi:Nat):Prop:=∀i j,lo<=i->i<=j->j<hi->le c (kx xs j) (kx xs i)
def Eqv(c:Keyed->Keyed->Bool)(x y:Keyed):Prop:=le c x y/\le c y x
theorem Eqv.ng(o:Ord c){xs ys:Array Keyed}{lo hi:Nat}(h:∀k,lo<=k->k<hi->Eqv c (kx ys k) (kx xs k))(n:Ng c xs lo hi):Ng c ys lo hi:=λi j hi' hij hj=>
 o.tr (h j (by omega) hj).1 (o.tr (n i j hi' hij hj) (h i hi' (by omega)).2)
theorem Qf3(o:Ord c){xs ys:Array Keyed}{u v:Nat}(h:∀k,kx ys k=if u<=k/\k<v then kx xs (u+v - 1 - k) else kx xs k)(q:∀k,u<=k->k<v->Eqv c (kx xs k) (kx xs (v - 1)))(k:Nat):Eqv c (kx ys k) (kx xs k):=by
 rw[h k];split
 ·rename_i z
  have a:=q (u+v - 1 - k) (by omega) (by omega);have b:=q k z.1 z.2;exact⟨o.tr a.1 b.2,o.tr b.1 a.2⟩
 ·exact⟨o.irr _,o.irr _⟩
def Qxt(lo n nr:Nat):StateT JX Sem (Option (Option Nat)×Nat×Nat):=
 forIn [n:nr] ((none,n,0):Option (Option Nat)×Nat×Nat) λ_ z=>do
  let r <- ltAt' (lo+z.2.1) (lo+z.2.1 - 1)
  match r with
  |some b=>
   if b=true then
    if z.2.2 > 0 then do
     reverseSlice' (lo+z.2.1 - (z.2.2+1)) (lo+z.2.1)
     pure (JY (none,z.2.1+1,0))
    else pure (JY (none,z.2.1+1,0))
   else do
    let r <- ltAt' (lo+z.2.1 - 1) (lo+z.2.1)
    match r with
    |some b=>
     if b=true then pure (Qa6 (none,z.2.1,z.2.2))
     else pure (JY (none,z.2.1+1,z.2.2+1))
    |_=>pure (Qa6 (some none,z.2.1,z.2.2))
  |_=>pure (Qa6 (some none,z.2.1,z.2.2))
theorem QeH(o:Ord c){xs:Array Keyed}{lo n:Nat}(h:Ng c xs lo (lo+n))(h1:1<=n)(l:le c (kx xs (lo+n)) (kx xs (lo+n - 1))):Ng c xs lo (lo+(n+1)):=λi j hi hij hj=>by
 by_cases z:j<lo+n
 ·exact h i j hi hij z
 ·have zj:j=lo+n:=by omega
  subst zj;by_cases zi:i=lo+n
  ·subst zi;exact o.irr _
  ·exact o.tr l (h i (lo+n - 1) hi (by omega) (by omega))
theorem Qi6{st st0:JX}{lo n nr:Nat}{Q:Option (Option Nat)×Nat×Nat->JX->Prop}(hA:Asks prog w A s κ a₀ c)(hn:lo+nr<=a₀.size)(h1:1<=n)(han:n<=nr)(fb:Fb κ a₀ lo st0 st)(ng:Ng c (arrOf st) lo (lo+n))
  (h:∀m q st',n<=m->m<=nr->Fb κ a₀ lo st0 st'->Ng c (arrOf st') lo (lo+m)->q+1<=m->(∀k,lo+m - (q+1)<=k->k<lo+m->Eqv c (kx (arrOf st') k) (kx (arrOf st') (lo+m - 1)))->Q (none,m,q) st'):wpS (model prog w) A E s (Qxt lo n nr) Q st:=by
 unfold Qxt;have ir:∀x,Eqv c x x:=λx=>⟨hA.ord.irr x,hA.ord.irr x⟩
 refine JZ (I:=λx z st'=>∃q,z=(none,x,q)/\Fb κ a₀ lo st0 st'/\Ng c (arrOf st') lo (lo+x)/\q+1<=x/\(∀k,lo+x - (q+1)<=k->k<lo+x->Eqv c (kx (arrOf st') k) (kx (arrOf st') (lo+x - 1)))) ?step ?fin
  ⟨0,rfl,fb,ng,h1,λk k1 k2=>by rw[show k=lo+n - 1 by omega];exact ir _⟩
 case fin=>
  rintro z st' ⟨q,rfl,f,g,g1,g2⟩;rw[show max n nr=nr by omega] at g g1 g2 ⊢;exact h nr q st' han (Qj _) f g g1 g2
 case step=>
  rintro x z st' hax hxn ⟨q,rfl,f,g,g1,g2⟩
  dsimp only
  refine Ql (Qes hA f.sb (by omega) (by omega) ?_);cases e:c (kx (arrOf st') (lo+x)) (kx (arrOf st') (lo+x - 1)) with
  |true=>
   dsimp only
   rw[if_pos rfl];by_cases zq:q > 0
   ·rw[if_pos zq];refine Ql (QbN f (by omega) (by omega) λst2 f2 km=>Qm ⟨0,rfl,f2,?_,by omega,λk k1 k2=>by rw[show k=lo+(x+1) - 1 by omega];exact ir _⟩);refine Eqv.ng hA.ord (xs:=arrOf st') (λk _ _=>Qf3 hA.ord km g2 k) (QeH hA.ord g (by omega) (hA.ord.lt_le e))
   ·rw[if_neg zq];exact Qm ⟨0,rfl,f,QeH hA.ord g (by omega) (hA.ord.lt_le e),by omega,λk k1 k2=>by rw[show k=lo+(x+1) - 1 by omega];exact ir _⟩
  |false=>
   dsimp only
   rw[if_neg (by decide)];refine Ql (Qes hA f.sb (by omega) (by omega) ?_);cases e2:c (kx (arrOf st') (lo+x - 1)) (kx (arrOf st') (lo+x)) with
   |true=>exact Qm (h x q st' hax (by omega) f g g1 g2)
   |false=>
    refine Qm ⟨q+1,rfl,f,QeH hA.ord g (by omega) e2,by omega,λk k1 k2=>?_⟩;rw[show lo+(x+1) - 1=lo+x by omega];by_cases zk:k=lo+x
    ·subst zk;exact ir _
    ·have a:=g2 k (by omega) (by omega);exact⟨hA.ord.tr a.1 e,hA.ord.tr e2 a.2⟩
theorem Qpk{xs ys:Array Keyed}{lo hi:Nat}(h:∀k,kx ys k=if lo<=k/\k<hi then kx xs (lo+hi - 1 - k) else kx xs k)(n:Ng c xs lo hi):Sg c ys lo hi:=λi j hi' hij hj=>by
 rw[h i,h j,if_pos (by omega),if_pos (by omega)];exact n _ _ (by omega) (by omega) (by omega)
theorem QfN{st:JX}{lo nr:Nat}{Q:Option Nat->JX->Prop}(hA:Asks prog w A s κ a₀ c)(hn:lo+nr<=a₀.size)(h1:1<=nr)(hB:SB κ a₀ st)
  (h:∀m st',Fb κ a₀ lo st st'->1<=m->m<=nr->Sg c (arrOf st') lo (lo+m)->Q (some m) st'):wpS (model prog w) A E s (countRun' lo nr) Q st:=by
 rw[countRun'_eq]
 dsimp only
 refine Ql (Qeu (lo:=lo) (a:=1) (nr:=nr) hA hn (Qj _) h1 hB (λi j hi hij hj=>by rw[show i=j by omega];exact hA.ord.irr _) λn n1 n2 sg hor=>?_)
 dsimp only
 by_cases zn:n=nr
 ·rw[if_pos (by simpa using zn)];exact Qm (h n st (Fb.refl hB) n1 n2 sg)
 ·rw[if_neg (by simpa using zn)];have hlt:=hor.resolve_left zn;by_cases zg:n > 1
  ·rw[if_pos zg];refine Ql (Qes hA hB (by omega) (by omega) ?_);cases e:c (kx (arrOf st) lo) (kx (arrOf st) (lo+n - 1)) with
   |true=>exact Qm (h n st (Fb.refl hB) n1 n2 sg)
   |false=>
    have all:∀k,lo<=k->k<lo+n->Eqv c (kx (arrOf st) k) (kx (arrOf st) (lo+n - 1)):=λk k1 k2=>
     ⟨sg k (lo+n - 1) k1 (by omega) (by omega),hA.ord.tr e (sg lo k (Qj _) k1 k2)⟩
    dsimp only
    rw[if_neg (by decide)];refine Ql (QbN (Fb.refl hB) (Qj _) (by omega) λst2 f2 km=>?_);have ng2:Ng c (arrOf st2) lo (lo+(n+1)):=by
     refine Eqv.ng hA.ord (xs:=arrOf st) (λk k1 k2=>Qf3 hA.ord km all k) (QeH hA.ord (λi j i1 ij j1=>?_) n1 (hA.ord.lt_le hlt));have a:=all i i1 (by omega);have b:=all j (by omega) j1;exact hA.ord.tr b.1 a.2
    refine Ql (Qec (wpAny_rule ⟨rfl,?_⟩));refine Ql (Qi6 (lo:=lo) (n:=n+1) (nr:=nr) hA hn (by omega) (by omega) f2 (ng2) λm q st' m1 m2 f5 g g1 g2=>?_)
    dsimp only
    by_cases zq:q > 0
    ·rw[if_pos zq];refine Ql (QbN f5 (by omega) (by omega) λst3 f3 km3=>?_);refine Ql (QbN f3 (Qj _) (by omega) λst4 f4 km4=>?_);refine Ql (Qeu (lo:=lo) (a:=m) (nr:=nr) hA hn (by omega) m2 f4.sb (Qpk km4 (Eqv.ng hA.ord (xs:=arrOf st') (λk _ _=>Qf3 hA.ord km3 g2 k) g)) λk k1 k2 sg4 _=>Qm (h k st4 f4 (by omega) k2 sg4))
    ·rw[if_neg zq];refine Ql (QbN f5 (Qj _) (by omega) λst4 f4 km4=>?_);refine Ql (Qeu (lo:=lo) (a:=m) (nr:=nr) hA hn (by omega) m2 f4.sb (Qpk km4 (g)) λk k1 k2 sg4 _=>Qm (h k st4 f4 (by omega) k2 sg4))
  ·rw[if_neg zg];have z1:n=1:=by omega
   subst z1;refine Ql (Qec (wpAny_rule ⟨rfl,?_⟩));refine Ql (Qi6 (lo:=lo) (n:=1+1) (nr:=nr) hA hn (by omega) (by omega) (Fb.refl hB) (QeH hA.ord (λi j i1 ij j1=>by rw[show i=j by omega];exact hA.ord.irr _) n1 (hA.ord.lt_le hlt)) λm q st' m1 m2 f5 g g1 g2=>?_)
   dsimp only
   by_cases zq:q > 0
   ·rw[if_pos zq];refine Ql (QbN f5 (by omega) (by omega) λst3 f3 km3=>?_);refine Ql (QbN f3 (Qj _) (by omega) λst4 f4 km4=>?_);refine Ql (Qeu (lo:=lo) (a:=m) (nr:=nr) hA hn (by omega) m2 f4.sb (Qpk km4 (Eqv.ng hA.ord (xs:=arrOf st') (λk _ _=>Qf3 hA.ord km3 g2 k) g)) λk k1 k2 sg4 _=>Qm (h k st4 f4 (by omega) k2 sg4))
   ·rw[if_neg zq];refine Ql (QbN f5 (Qj _) (by omega) λst4 f4 km4=>?_);refine Ql (Qeu (lo:=lo) (a:=m) (nr:=nr) hA hn (by omega) m2 f4.sb (Qpk km4 (g)) λk k1 k2 sg4 _=>Qm (h k st4 f4 (by omega) k2 sg4))
theorem QmC{xs:Array Keyed}{src d:Nat}(hs:src<xs.size)(hd:d<=src)(k:Nat):kx (bubble xs src d) k=if k=src - d then kx xs src else if src - d<k/\k<=src then kx xs (k - 1) else kx xs k:=by
 have e:=getElem?_bubble hs d hd k
 by_cases h1:k=src - d
 ·rw[if_pos h1] at e ⊢;exact QiJ e
 ·rw[if_neg h1] at e ⊢;by_cases h2:src - d<k/\k<=src
  ·rw[if_pos h2] at e ⊢;exact QiJ e
  ·rw[if_neg h2] at e ⊢;exact QiJ e
theorem Qet{st:JX}{lo n ok:Nat}{Q:Bool->JX->Prop}(hA:Asks prog w A s κ a₀ c)(hn:lo+n<=a₀.size)(h1:1<=ok)(hok:ok<=n)(hB:SB κ a₀ st)(sg:Sg c (arrOf st) lo (lo+ok))
  (h:∀st',Fb κ a₀ lo st st'->Sg c (arrOf st') lo (lo+n)->Q true st'):wpS (model prog w) A E s (binarySort' lo n ok) Q st:=by
 rw[binarySort'_eq];refine Ql (Yx (JZ (I:=λk z st'=>z=(none,())/\Fb κ a₀ lo st st'/\Sg c (arrOf st') lo (lo+min k n)) (Q:=λz st'=>z=(none,())/\Fb κ a₀ lo st st'/\Sg c (arrOf st') lo (lo+n)) ?step ?fin ⟨rfl,Fb.refl hB,by rw[show min (max ok 1) n=ok by omega];exact sg⟩) ?post)
 case post=>
  rintro z st' ⟨rfl,f,g⟩;exact Qm (h st' f g)
 case fin=>
  rintro z st' ⟨rfl,f,g⟩;rw[show min (max (max ok 1) n) n=n by omega] at g;exact⟨rfl,f,g⟩
 case step=>
  rintro k z st' hak hkn ⟨rfl,f,g⟩;rw[show min k n=k by omega] at g;refine Ql (Yx (JZ (I:=λx z st''=>st''=st'/\∃l r,z=(none,l,r)/\l<=r/\r<=k/\r - l<=k - x/\(∀i,i<l->le c (kx (arrOf st') (lo+i)) (kx (arrOf st') (lo+k)))/\(∀i,r<=i->i<k->le c (kx (arrOf st') (lo+k)) (kx (arrOf st') (lo+i))))
   (Q:=λz st''=>st''=st'/\∃l r,z=(none,l,r)/\l<=k/\(∀i,i<l->le c (kx (arrOf st') (lo+i)) (kx (arrOf st') (lo+k)))/\(∀i,l<=i->i<k->le c (kx (arrOf st') (lo+k)) (kx (arrOf st') (lo+i)))) ?istep ?ifin ⟨rfl,0,k,rfl,by omega,by omega,by omega,λi hi=>by omega,λi a b=>by omega⟩) ?ipost)
  case ifin=>
   rintro z st'' ⟨rfl,l,r,rfl,h1,h2,h3,h4,h5⟩;have:l=r:=by omega
   subst this;exact⟨rfl,l,l,rfl,h2,h4,h5⟩
  case istep=>
   rintro x z st'' _ hx ⟨rfl,l,r,rfl,h1,h2,h3,h4,h5⟩
   dsimp only
   by_cases zz:l≥r
   ·rw[if_pos zz];have:l=r:=by omega
    subst this;exact Qm ⟨rfl,l,l,rfl,h2,h4,h5⟩
   ·rw[if_neg zz];refine Ql (Qes hA f.sb (by omega) (by omega) ?_);cases e:c (kx (arrOf st'') (lo+k)) (kx (arrOf st'') (lo+(l+r) / 2)) with
    |true=>exact Qm ⟨rfl,_,_,rfl,by omega,by omega,by omega,h4,λi a b=>hA.ord.tr (hA.ord.lt_le e) (g _ _ (by omega) (by omega) (by omega))⟩
    |false=>exact Qm ⟨rfl,_,_,rfl,by omega,by omega,by omega,λi a=>hA.ord.tr (g (lo+i) (lo+(l+r) / 2) (by omega) (by omega) (by omega)) e,h5⟩
  case ipost=>
   rintro z st'' ⟨rfl,l,r,rfl,h2,h4,h5⟩
   dsimp only
   rw[moveDown'_eq];have hs:lo+k<(arrOf st'').size:=by rw[f.sb.size];omega
   have kb:∀j,kx (bubble (arrOf st'') (lo+k) (lo+k - (lo+l))) j=if j=lo+l then kx (arrOf st'') (lo+k) else if lo+l<j/\j<=lo+k then kx (arrOf st'') (j - 1) else kx (arrOf st'') j:=λj=>by
    rw[QmC hs (by omega),show lo+k - (lo+k - (lo+l))=lo+l by omega]
   refine Ql (Qat (Qm ⟨rfl,⟨⟨(bubble_perm _ _ _).trans f.sb.perm,f.sb.kind,f.sb.failed⟩,f.pend,λj hj=>?_⟩,λi j hi hij hj=>?_⟩))
   ·show kx (bubble (arrOf st'') (lo+k) (lo+k - (lo+l))) j=_;rw[kb,if_neg (by omega),if_neg (by omega)];exact f.low j hj
   ·show le c (kx (bubble (arrOf st'') (lo+k) (lo+k - (lo+l))) i) (kx (bubble (arrOf st'') (lo+k) (lo+k - (lo+l))) j);rw[kb,kb];have low:∀i,lo<=i->i<lo+l->le c (kx (arrOf st'') i) (kx (arrOf st'') (lo+k)):=λi a b=>by have:=h4 (i - lo) (by omega);rwa [show lo+(i - lo)=i by omega] at this
    have high:∀i,lo+l<=i->i<lo+k->le c (kx (arrOf st'') (lo+k)) (kx (arrOf st'') i):=λi a b=>by have:=h5 (i - lo) (by omega) (by omega);rwa [show lo+(i - lo)=i by omega] at this
    repeat' split
    all_goals first
     |(exfalso;omega)
     |exact hA.ord.irr _
     |exact low _ (by omega) (by omega)
     |exact high _ (by omega) (by omega)
     |exact g _ _ (by omega) (by omega) (by omega)
end
def YA:Nat->StateT JX Sem Unit:=sortPriv% PySem.Builtin.setMinGallop
theorem Qd4(g:Nat):YA g=modify λz=>QnN (kindOf z) (arrOf z) (pendingOf z) g (failedOf z):=rfl
def Qgi:Array Keyed->Array Keyed->StateT JX Sem (Array Keyed):=sortPriv% PySem.Builtin.mergeLo
def Qgj:Array Keyed->Array Keyed->StateT JX Sem (Array Keyed):=sortPriv% PySem.Builtin.mergeHi
theorem QiE(a b:Array Keyed):Qgi a b=(do
 rule "list.sort.merge-lo"
 let tot:=a.size+b.size
 let dn (r:Array Keyed) (i j:Nat):=r++a.extract i a.size++b.extract j b.size
 let la (r:Array Keyed) (i j:Nat):=r++b.extract j b.size++a.extract i a.size
 let mut r:Array Keyed:=#[<- elem' b 0]
 let mut i:=0
 let mut j:=1
 if j == b.size then return dn r i j
 if i+1 == a.size then return la r i j
 let mut mg:=gallopOf (<- get)
 for _ in [0:tot] do
  let mut p:=0
  let mut q:=0
  for _ in [0:tot] do
   let some t <- lt' (<- elem' b j) (<- elem' a i) | return dn r i j
   if t then
    r:=r.push (<- elem' b j);j:=j+1;q:=q+1;p:=0
    if j == b.size then return dn r i j
    if q≥mg then break
   else
    r:=r.push (<- elem' a i);i:=i+1;p:=p+1;q:=0
    if i+1 == a.size then return la r i j
    if p≥mg then break
  rule "list.sort.gallop"
  mg:=mg+1
  for _ in [0:tot] do
   if mg > 1 then mg:=mg - 1
   YA mg
   let some k <- QbW false (<- elem' b j) a i (a.size - i) 0 | return dn r i j
   p:=k
   if k > 0 then
    r:=r++a.extract i (i+k);i:=i+k
    if i+1 == a.size then return la r i j
    if i == a.size then return dn r i j
   r:=r.push (<- elem' b j);j:=j+1
   if j == b.size then return dn r i j
   let some k <- QbW true (<- elem' a i) b j (b.size - j) 0 | return dn r i j
   q:=k
   if k > 0 then
    r:=r++b.extract j (j+k);j:=j+k
    if j == b.size then return dn r i j
   r:=r.push (<- elem' a i);i:=i+1
   if i+1 == a.size then return la r i j
   if p<7&&q<7 then break
  mg:=mg+1
  YA mg
 unsupported "internal:list.sort.merge-bound"):=rfl
section
variable{c:Keyed->Keyed->Bool}
abbrev Pw (c:Keyed->Keyed->Bool) (l:List Keyed):Prop:=l.Pairwise (le c)
theorem QrX{r ch x y:List Keyed}(h1:Pw c (r++(ch++x)))(h2:Pw c (r++y))(h:∀u∈ch,∀v∈y,le c u v):Pw c ((r++ch)++x)/\Pw c ((r++ch)++y):=by
 have h1':Pw c ((r++ch)++x):=by rw[Q5];exact h1
 refine⟨h1',?_⟩;have g:=JH.mp h1';have g2:=JH.mp h2;refine JH.mpr ⟨g.1,g2.2.1,λu hu v hv=>?_⟩;rcases Js.mp hu with z | z
 ·exact g2.2.2 u z v hv
 ·exact h u z v hv
theorem QaP{xs:Array Keyed}{i:Nat}(h:i<xs.size):xs.toList[i]? = some (kx xs i):=by rw[Q8];exact Qt7 h
theorem Qm4{xs:Array Keyed}{i:Nat}(h:i<xs.size):xs.toList.drop i=kx xs i::xs.toList.drop (i+1):=by
 have hl:i<xs.toList.length:=by rw[Qc];exact h
 rw[Qaa hl];have:=QaP h;rw[Qf hl] at this;rw[QB this]
theorem Qbu{xs:Array Keyed}{i:Nat}{p:Keyed}(h:p∈xs.toList.drop i):∃k,i<=k/\k<xs.size/\p=kx xs k:=by
 obtain⟨n,hn⟩:=QZ.mp h;rw[Yy] at hn;have hl:=(QM.mp hn).1;rw[Qc] at hl;rw[QaP hl] at hn;exact⟨i+n,by omega,hl,(QB hn).symm⟩
theorem Qeo(xs:Array Keyed)(i k:Nat):(xs.extract i (i+k)).toList=(xs.toList.drop i).take k:=by
 rw[QaV,Y9,Nat.add_sub_cancel_left]
theorem QdE(xs:Array Keyed)(i:Nat):(xs.extract i xs.size).toList=xs.toList.drop i:=by
 rw[QaV,Y9,Qco (by rw[Yo,Qc];exact Qj _)]
theorem QeI{xs:Array Keyed}{i k:Nat}{p:Keyed}(h:p∈(xs.toList.drop i).take k):∃t,t<k/\i+t<xs.size/\p=kx xs (i+t):=by
 obtain⟨n,hn⟩:=QZ.mp h;rw[Qef] at hn;split at hn
 ·rename_i z
  rw[Yy] at hn;have hl:=(QM.mp hn).1;rw[Qc] at hl;rw[QaP hl] at hn;exact⟨n,z,hl,(QB hn).symm⟩
 ·cases hn
structure MI (c:Keyed->Keyed->Bool) (a b r:Array Keyed) (i j:Nat):Prop where
 ha:Pw c (r.toList++a.toList.drop i)
 hb:Pw c (r.toList++b.toList.drop j)
 pm:(r.toList++(a.toList.drop i++b.toList.drop j)).Perm (a.toList++b.toList)
def Out(c:Keyed->Keyed->Bool)(a b z:Array Keyed):Prop:=Pw c z.toList/\z.toList.Perm (a.toList++b.toList)
variable{a b r:Array Keyed}{i j k:Nat}
theorem MI.chA(m:MI c a b r i j)(h:∀t,t<k->i+t<a.size->∀n,j<=n->n<b.size->le c (kx a (i+t)) (kx b n)):MI c a b (r++a.extract i (i+k)) (i+k) j:=by
 have e:a.toList.drop i=(a.toList.drop i).take k++a.toList.drop (i+k):=by rw[<- QhV,Jn]
 have e2:(r++a.extract i (i+k)).toList=r.toList++(a.toList.drop i).take k:=by rw[Jy,Qeo]
 have h1:=m.ha;have pm:=m.pm;rw[e] at h1 pm;obtain⟨g1,g2⟩:=QrX h1 m.hb λu hu v hv=>by
  obtain⟨t,t1,t2,rfl⟩:=QeI hu;obtain⟨n,n1,n2,rfl⟩:=Qbu hv;exact h t t1 t2 n n1 n2
 refine⟨by rw[e2];exact g1,by rw[e2];exact g2,?_⟩;rw[e2,Q5,<- Q5 ((a.toList.drop i).take k)];exact pm
theorem MI.chB(m:MI c a b r i j)(h:∀t,t<k->j+t<b.size->∀n,i<=n->n<a.size->le c (kx b (j+t)) (kx a n)):MI c a b (r++b.extract j (j+k)) i (j+k):=by
 have e:b.toList.drop j=(b.toList.drop j).take k++b.toList.drop (j+k):=by rw[<- QhV,Jn]
 have e2:(r++b.extract j (j+k)).toList=r.toList++(b.toList.drop j).take k:=by rw[Jy,Qeo]
 have h1:=m.hb;have pm:=m.pm;rw[e] at h1 pm;obtain⟨g1,g2⟩:=QrX h1 m.ha λu hu v hv=>by
  obtain⟨t,t1,t2,rfl⟩:=QeI hu;obtain⟨n,n1,n2,rfl⟩:=Qbu hv;exact h t t1 t2 n n1 n2
 refine⟨by rw[e2];exact g2,by rw[e2];exact g1,?_⟩;rw[e2,Q5];refine QaK (Yp _ ?_) pm;rw[<- Q5,<- Q5];exact Qam _ Z6
theorem Qjk{xs:Array Keyed}{i:Nat}(h:i<xs.size):r.push (kx xs i)=r++xs.extract i (i+1):=by
 apply Qb6.mp
 rw[QbK,Jy,Qeo,Qm4 h];rfl
theorem MI.puA(m:MI c a b r i j)(hi:i<a.size)(h:∀n,j<=n->n<b.size->le c (kx a i) (kx b n)):MI c a b (r.push (kx a i)) (i+1) j:=by
 rw[Qjk hi];refine m.chA λt t1 t2=>?_
 have:t=0:=by omega
 subst this;exact h
theorem MI.puB(m:MI c a b r i j)(hj:j<b.size)(h:∀n,i<=n->n<a.size->le c (kx b j) (kx a n)):MI c a b (r.push (kx b j)) i (j+1):=by
 rw[Qjk hj];refine m.chB λt t1 t2=>?_
 have:t=0:=by omega
 subst this;exact h
theorem MI.dnB(m:MI c a b r i j)(hj:j=b.size):Out c a b (r++a.extract i a.size++b.extract j b.size):=by
 have e:b.toList.drop j=[]:=Yv (by rw[Qc];omega);have e2:(r++a.extract i a.size++b.extract j b.size).toList=r.toList++a.toList.drop i:=by rw[Jy,Jy,QdE,QdE,e,Jt]
 have pm:=m.pm;rw[e,Jt] at pm;exact⟨by rw[e2];exact m.ha,by rw[e2];exact pm⟩
theorem MI.dnA(m:MI c a b r i j)(hi:i=a.size):Out c a b (r++a.extract i a.size++b.extract j b.size):=by
 have e:a.toList.drop i=[]:=Yv (by rw[Qc];omega);have e2:(r++a.extract i a.size++b.extract j b.size).toList=r.toList++b.toList.drop j:=by rw[Jy,Jy,QdE,QdE,e,Jt]
 have pm:=m.pm;rw[e,Qbd] at pm;exact⟨by rw[e2];exact m.hb,by rw[e2];exact pm⟩
theorem MI.last(m:MI c a b r i j)(hi:i+1=a.size)(p2:∀k,k<b.size->le c (kx b k) (kx a (a.size - 1))):Out c a b (r++b.extract j b.size++a.extract i a.size):=by
 have e2:(r++b.extract j b.size++a.extract i a.size).toList=(r.toList++b.toList.drop j)++a.toList.drop i:=by rw[Jy,Jy,QdE,QdE]
 have g:=JH.mp m.ha;refine⟨by
  rw[e2];refine JH.mpr ⟨m.hb,g.2.1,λu hu v hv=>?_⟩;rcases Js.mp hu with z | z
  ·exact g.2.2 u z v hv
  ·obtain⟨n,n1,n2,rfl⟩:=Qbu hv;obtain⟨n',n3,n4,rfl⟩:=Qbu z;rw[show n=a.size - 1 by omega];exact p2 n' n4,?_⟩
 rw[e2,Q5];exact QaK (Yp _ Z6) m.pm
end
structure Sm (st st':JX):Prop where
 kind:kindOf st'=kindOf st
 arr:arrOf st'=arrOf st
 pend:pendingOf st'=pendingOf st
 failed:failedOf st'=failedOf st
theorem Sm.refl(st:JX):Sm st st:=⟨rfl,rfl,rfl,rfl⟩
section
variable{prog:QC}{w:Ja}{A:Q2}{E:Value->Shared->Prop}{s:Shared}{a₀:Array Keyed}{κ:Yd}{c:Keyed->Keyed->Bool}
theorem Qfg{st st0:JX}{g:Nat}{Q:Unit->JX->Prop}(m:Sm st0 st)(h:∀st',Sm st0 st'->Q () st'):wpS (model prog w) A E s (YA g) Q st:=by
 rw[Qd4];exact Qat (h _ ⟨m.kind,m.arr,m.pend,m.failed⟩)
theorem JP{x y:Nat}(h:x≠y):¬((x == y)=true):=λz=>h (beq_iff_eq.mp z)
theorem Qh9{st:JX}{a b:Array Keyed}{Q:Array Keyed->JX->Prop}(hA:Asks prog w A s κ a₀ c)(hk:kindOf st=κ)(ma:∀p∈a.toList,p∈a₀.toList)(mb:∀p∈b.toList,p∈a₀.toList)(na:1<=a.size)(nb:1<=b.size)
  (sa:Sg c a 0 a.size)(sb:Sg c b 0 b.size)(p1:∀k,k<a.size->le c (kx b 0) (kx a k))(p2:∀k,k<b.size->le c (kx b k) (kx a (a.size - 1)))(h:∀z st',Sm st st'->Out c a b z->Q z st'):wpS (model prog w) A E s (Qgi a b) Q st:=by
 have pwl:∀{xs:Array Keyed},Sg c xs 0 xs.size->Pw c xs.toList:=λ{xs} sg=>Jx.mpr λx y hx hy hxy=>by
  rw[Qc] at hx hy;have e1:=QaP hx;have e2:=QaP hy;rw[Qf (by rw[Qc];exact hx)] at e1;rw[Qf (by rw[Qc];exact hy)] at e2;rw[QB e1,QB e2];exact sg x y (Qu _) (by omega) hy
 rw[QiE]
 dsimp only
 refine Ql (Qec (wpAny_rule ⟨rfl,?_⟩));refine Ql (Q9 (by omega) ?_);have m0:MI c a b #[] 0 0:=⟨by rw[Ya];exact pwl sa,by rw[Ya];exact pwl sb,by rw[Ya,Ya];exact Z0 _⟩;have m1:MI c a b #[kx b 0] 0 1:=MI.puB m0 (by omega) λn _ hn=>p1 n hn
 by_cases z1:1=b.size
 ·rw[if_pos (beq_iff_eq.mpr z1)];exact Qm (h _ _ (Sm.refl st) (m1.dnB z1))
 ·rw[if_neg (JP z1)];by_cases z2:0+1=a.size
  ·rw[if_pos (beq_iff_eq.mpr z2)];exact Qm (h _ _ (Sm.refl st) (m1.last z2 p2))
  ·rw[if_neg (JP z2)];refine Ql (Qci ?_);refine Ql (Yx (JZ (I:=λx z st'=>∃r i j mg,z=(none,r,i,j,mg)/\MI c a b r i j/\i+1<a.size/\j<b.size/\x+1<=i+j/\Sm st st')
    (Q:=λz st'=>∃o y,z=(some o,y)/\Out c a b o/\Sm st st') ?step ?fin ⟨_,0,1,_,rfl,m1,by omega,by omega,by omega,Sm.refl st⟩) ?post)
   case post=>
    rintro z st' ⟨o,y,rfl,ho,sm⟩;exact Qm (h o st' sm ho)
   case fin=>
    rintro z st' ⟨r,i,j,mg,rfl,m,i1,j1,x1,sm⟩;exfalso
    omega
   case step=>
    rintro x z st' _ hx ⟨r,i,j,mg,rfl,m,i1,j1,x1,sm⟩
    dsimp only
    refine Ql (Yx (JZ (I:=λy z st2=>∃r i j p q,z=(none,r,i,j,p,q)/\MI c a b r i j/\i+1<a.size/\j<b.size/\x+1+y<=i+j/\Sm st st2)
     (Q:=λz st2=>(∃o y,z=(some o,y)/\Out c a b o/\Sm st st2)∨∃r i j p q,z=(none,r,i,j,p,q)/\MI c a b r i j/\i+1<a.size/\j<b.size/\x+2<=i+j/\Sm st st2) ?step1 ?fin1 ⟨r,i,j,0,0,rfl,m,i1,j1,by omega,sm⟩) ?post1)
    case fin1=>
     rintro z st2 ⟨r,i,j,p,q,rfl,m,i1,j1,x1,sm⟩;exact .inr ⟨r,i,j,p,q,rfl,m,i1,j1,by omega,sm⟩
    case step1=>
     rintro y z st2 _ hy ⟨r,i,j,p,q,rfl,m,i1,j1,x1,sm⟩
     dsimp only
     refine Ql (Q9 j1 ?_);refine Ql (Q9 (by omega) ?_);refine Ql (QgW hA (sm.kind.trans hk) (mb _ (QeJ j1)) (ma _ (QeJ (by omega))) ?_);cases e:c (kx b j) (kx a i) with
     |true=>
      dsimp only
      rw[if_pos rfl];refine Ql (Q9 j1 ?_);have m2:=MI.puB m j1 λn n1 n2=>hA.ord.tr (hA.ord.lt_le e) (sa i n (Qu _) n1 n2)
      by_cases z3:j+1=b.size
      ·rw[if_pos (beq_iff_eq.mpr z3)];exact Qm (.inl ⟨_,_,rfl,m2.dnB z3,sm⟩)
      ·rw[if_neg (JP z3)];split
       ·exact Qm (.inr ⟨_,_,_,_,_,rfl,m2,by omega,by omega,by omega,sm⟩)
       ·exact Qm ⟨_,_,_,_,_,rfl,m2,by omega,by omega,by omega,sm⟩
     |false=>
      dsimp only
      rw[if_neg (by decide)];refine Ql (Q9 (by omega) ?_);have m2:=MI.puA m (by omega) λn n1 n2=>hA.ord.tr e (sb j n (Qu _) n1 n2)
      by_cases z3:i+1+1=a.size
      ·rw[if_pos (beq_iff_eq.mpr z3)];exact Qm (.inl ⟨_,_,rfl,m2.last z3 p2,sm⟩)
      ·rw[if_neg (JP z3)];split
       ·exact Qm (.inr ⟨_,_,_,_,_,rfl,m2,by omega,by omega,by omega,sm⟩)
       ·exact Qm ⟨_,_,_,_,_,rfl,m2,by omega,by omega,by omega,sm⟩
    case post1=>
     rintro z st2 (⟨o,y,rfl,ho,sm⟩ | ⟨r,i,j,p,q,rfl,m,i1,j1,x1,sm⟩)
     ·exact Qm ⟨o,_,rfl,ho,sm⟩
     ·dsimp only
      refine Ql (Qec (wpAny_rule ⟨rfl,?_⟩));refine Ql (Yx (JZ (I:=λy z st3=>∃r i j mg p q,z=(none,r,i,j,mg,p,q)/\MI c a b r i j/\i+1<a.size/\j<b.size/\x+2<=i+j/\Sm st st3)
       (Q:=λz st3=>(∃o y,z=(some o,y)/\Out c a b o/\Sm st st3)∨∃r i j mg p q,z=(none,r,i,j,mg,p,q)/\MI c a b r i j/\i+1<a.size/\j<b.size/\x+2<=i+j/\Sm st st3) ?step2 ?fin2 ⟨r,i,j,_,p,q,rfl,m,i1,j1,by omega,sm⟩) ?post2)
      case fin2=>
       rintro z st3 ⟨r,i,j,mg,p,q,rfl,m,i1,j1,x1,sm⟩;exact .inr ⟨r,i,j,mg,p,q,rfl,m,i1,j1,by omega,sm⟩
      case post2=>
       rintro z st3 (⟨o,y,rfl,ho,sm⟩ | ⟨r,i,j,mg,p,q,rfl,m,i1,j1,x1,sm⟩)
       ·exact Qm ⟨o,_,rfl,ho,sm⟩
       ·dsimp only
        exact Ql (Qfg sm λst4 sm4=>Qm ⟨_,_,_,_,rfl,m,i1,j1,by omega,sm4⟩)
      case step2=>
       rintro y z st3 _ hy ⟨r,i,j,mg,p,q,rfl,m,i1,j1,x1,sm⟩
       dsimp only
       by_cases z0:mg > 1
       ·rw[if_pos z0];refine Ql (Qfg sm λst4 sm4=>?_);refine Ql (Q9 (by omega) ?_);refine Ql (ZF hA (sm4.kind.trans hk) (mb _ (QeJ (by omega))) ma (by omega) (by omega) (λx y x1 xy y1=>sa x y (Qu _) xy (by omega)) λk kn b1 b2=>?_);have b1:∀t,t<k->(!c (kx b j) (kx a (i+t)))=true:=λt ht=>b1 t ht
        have b2:∀t,k<=t->t<a.size - i->(!c (kx b j) (kx a (i+t)))=false:=λt h1 h2=>b2 t h1 h2
        dsimp only
        have hB1:∀n,i+k<=n->n<a.size->le c (kx b j) (kx a n):=λn n1 n2=>by
         have:=b2 (n - i) (by omega) (by omega);rw[show i+(n - i)=n by omega] at this;exact hA.ord.lt_le (by simpa using this)
        by_cases zk:k > 0
        ·rw[if_pos zk];have m2:=MI.chA (k:=k) m λt t1 t2 n n1 n2=>by
          have:=b1 t t1;exact hA.ord.tr (show le c (kx a (i+t)) (kx b j) by simpa using this) (sb j n (Qu _) n1 n2)
         by_cases z2:i+k+1=a.size
         ·rw[if_pos (beq_iff_eq.mpr z2)];exact Qm (.inl ⟨_,_,rfl,m2.last z2 p2,sm4⟩)
         ·rw[if_neg (JP z2)];by_cases z3:i+k=a.size
          ·rw[if_pos (beq_iff_eq.mpr z3)];exact Qm (.inl ⟨_,_,rfl,m2.dnA z3,sm4⟩)
          ·rw[if_neg (JP z3)];refine Ql (Q9 (by omega) ?_);have m5:=MI.puB m2 (by omega) hB1;by_cases z5:j+1=b.size
           ·rw[if_pos (beq_iff_eq.mpr z5)];exact Qm (.inl ⟨_,_,rfl,m5.dnB z5,sm4⟩)
           ·rw[if_neg (JP z5)];refine Ql (Q9 (by omega) ?_);refine Ql (ZF hA (sm4.kind.trans hk) (ma _ (QeJ (by omega))) mb (by omega) (by omega) (λx y x1 xy y1=>sb x y (Qu _) xy (by omega)) λk2 k2n b1 b2=>?_);have b1:∀t,t<k2->c (kx b (j+1+t)) (kx a (i+k))=true:=λt ht=>b1 t ht
            have b2:∀t,k2<=t->t<b.size - (j+1)->c (kx b (j+1+t)) (kx a (i+k))=false:=λt h1 h2=>b2 t h1 h2
            dsimp only
            have gA:∀n,j+1+k2<=n->n<b.size->le c (kx a (i+k)) (kx b n):=λn n1 n2=>by have:=b2 (n - (j+1)) (by omega) (by omega);rwa [show j+1+(n - (j+1))=n by omega] at this
            by_cases zk2:k2 > 0
            ·rw[if_pos zk2];have m6:=MI.chB (k:=k2) m5 λt t1 t2 n n1 n2=>hA.ord.tr (hA.ord.lt_le (b1 t t1)) (sa (i+k) n (Qu _) n1 n2)
             by_cases z6:j+1+k2=b.size
             ·rw[if_pos (beq_iff_eq.mpr z6)];exact Qm (.inl ⟨_,_,rfl,m6.dnB z6,sm4⟩)
             ·rw[if_neg (JP z6)];refine Ql (Q9 (by omega) ?_);have m9:=MI.puA m6 (by omega) gA;by_cases z9:i+k+1+1=a.size
              ·rw[if_pos (beq_iff_eq.mpr z9)];exact Qm (.inl ⟨_,_,rfl,m9.last z9 p2,sm4⟩)
              ·rw[if_neg (JP z9)];split
               ·exact Qm (.inr ⟨_,_,_,_,_,_,rfl,m9,by omega,by omega,by omega,sm4⟩)
               ·exact Qm ⟨_,_,_,_,_,_,rfl,m9,by omega,by omega,by omega,sm4⟩
            ·rw[if_neg zk2];have zk2:k2=0:=by omega
             subst zk2;refine Ql (Q9 (by omega) ?_);have m9:=MI.puA m5 (by omega) gA;by_cases z9:i+k+1+1=a.size
             ·rw[if_pos (beq_iff_eq.mpr z9)];exact Qm (.inl ⟨_,_,rfl,m9.last z9 p2,sm4⟩)
             ·rw[if_neg (JP z9)];split
              ·exact Qm (.inr ⟨_,_,_,_,_,_,rfl,m9,by omega,by omega,by omega,sm4⟩)
              ·exact Qm ⟨_,_,_,_,_,_,rfl,m9,by omega,by omega,by omega,sm4⟩
        ·rw[if_neg zk];have zk:k=0:=by omega
         subst zk;refine Ql (Q9 (by omega) ?_);have m5:=MI.puB m (by omega) hB1;by_cases z5:j+1=b.size
         ·rw[if_pos (beq_iff_eq.mpr z5)];exact Qm (.inl ⟨_,_,rfl,m5.dnB z5,sm4⟩)
         ·rw[if_neg (JP z5)];refine Ql (Q9 (by omega) ?_);refine Ql (ZF hA (sm4.kind.trans hk) (ma _ (QeJ (by omega))) mb (by omega) (by omega) (λx y x1 xy y1=>sb x y (Qu _) xy (by omega)) λk2 k2n b1 b2=>?_);have b1:∀t,t<k2->c (kx b (j+1+t)) (kx a (i))=true:=λt ht=>b1 t ht
          have b2:∀t,k2<=t->t<b.size - (j+1)->c (kx b (j+1+t)) (kx a (i))=false:=λt h1 h2=>b2 t h1 h2
          dsimp only
          have gA:∀n,j+1+k2<=n->n<b.size->le c (kx a (i)) (kx b n):=λn n1 n2=>by have:=b2 (n - (j+1)) (by omega) (by omega);rwa [show j+1+(n - (j+1))=n by omega] at this
          by_cases zk2:k2 > 0
          ·rw[if_pos zk2];have m6:=MI.chB (k:=k2) m5 λt t1 t2 n n1 n2=>hA.ord.tr (hA.ord.lt_le (b1 t t1)) (sa (i) n (Qu _) n1 n2)
           by_cases z6:j+1+k2=b.size
           ·rw[if_pos (beq_iff_eq.mpr z6)];exact Qm (.inl ⟨_,_,rfl,m6.dnB z6,sm4⟩)
           ·rw[if_neg (JP z6)];refine Ql (Q9 (by omega) ?_);have m9:=MI.puA m6 (by omega) gA;by_cases z9:i+1+1=a.size
            ·rw[if_pos (beq_iff_eq.mpr z9)];exact Qm (.inl ⟨_,_,rfl,m9.last z9 p2,sm4⟩)
            ·rw[if_neg (JP z9)];split
             ·exact Qm (.inr ⟨_,_,_,_,_,_,rfl,m9,by omega,by omega,by omega,sm4⟩)
             ·exact Qm ⟨_,_,_,_,_,_,rfl,m9,by omega,by omega,by omega,sm4⟩
          ·rw[if_neg zk2];have zk2:k2=0:=by omega
           subst zk2;refine Ql (Q9 (by omega) ?_);have m9:=MI.puA m5 (by omega) gA;by_cases z9:i+1+1=a.size
           ·rw[if_pos (beq_iff_eq.mpr z9)];exact Qm (.inl ⟨_,_,rfl,m9.last z9 p2,sm4⟩)
           ·rw[if_neg (JP z9)];split
            ·exact Qm (.inr ⟨_,_,_,_,_,_,rfl,m9,by omega,by omega,by omega,sm4⟩)
            ·exact Qm ⟨_,_,_,_,_,_,rfl,m9,by omega,by omega,by omega,sm4⟩
       ·rw[if_neg z0];refine Ql (Qfg sm λst4 sm4=>?_);refine Ql (Q9 (by omega) ?_);refine Ql (ZF hA (sm4.kind.trans hk) (mb _ (QeJ (by omega))) ma (by omega) (by omega) (λx y x1 xy y1=>sa x y (Qu _) xy (by omega)) λk kn b1 b2=>?_);have b1:∀t,t<k->(!c (kx b j) (kx a (i+t)))=true:=λt ht=>b1 t ht
        have b2:∀t,k<=t->t<a.size - i->(!c (kx b j) (kx a (i+t)))=false:=λt h1 h2=>b2 t h1 h2
        dsimp only
        have hB1:∀n,i+k<=n->n<a.size->le c (kx b j) (kx a n):=λn n1 n2=>by
         have:=b2 (n - i) (by omega) (by omega);rw[show i+(n - i)=n by omega] at this;exact hA.ord.lt_le (by simpa using this)
        by_cases zk:k > 0
        ·rw[if_pos zk];have m2:=MI.chA (k:=k) m λt t1 t2 n n1 n2=>by
          have:=b1 t t1;exact hA.ord.tr (show le c (kx a (i+t)) (kx b j) by simpa using this) (sb j n (Qu _) n1 n2)
         by_cases z2:i+k+1=a.size
         ·rw[if_pos (beq_iff_eq.mpr z2)];exact Qm (.inl ⟨_,_,rfl,m2.last z2 p2,sm4⟩)
         ·rw[if_neg (JP z2)];by_cases z3:i+k=a.size
          ·rw[if_pos (beq_iff_eq.mpr z3)];exact Qm (.inl ⟨_,_,rfl,m2.dnA z3,sm4⟩)
          ·rw[if_neg (JP z3)];refine Ql (Q9 (by omega) ?_);have m5:=MI.puB m2 (by omega) hB1;by_cases z5:j+1=b.size
           ·rw[if_pos (beq_iff_eq.mpr z5)];exact Qm (.inl ⟨_,_,rfl,m5.dnB z5,sm4⟩)
           ·rw[if_neg (JP z5)];refine Ql (Q9 (by omega) ?_);refine Ql (ZF hA (sm4.kind.trans hk) (ma _ (QeJ (by omega))) mb (by omega) (by omega) (λx y x1 xy y1=>sb x y (Qu _) xy (by omega)) λk2 k2n b1 b2=>?_);have b1:∀t,t<k2->c (kx b (j+1+t)) (kx a (i+k))=true:=λt ht=>b1 t ht
            have b2:∀t,k2<=t->t<b.size - (j+1)->c (kx b (j+1+t)) (kx a (i+k))=false:=λt h1 h2=>b2 t h1 h2
            dsimp only
            have gA:∀n,j+1+k2<=n->n<b.size->le c (kx a (i+k)) (kx b n):=λn n1 n2=>by have:=b2 (n - (j+1)) (by omega) (by omega);rwa [show j+1+(n - (j+1))=n by omega] at this
            by_cases zk2:k2 > 0
            ·rw[if_pos zk2];have m6:=MI.chB (k:=k2) m5 λt t1 t2 n n1 n2=>hA.ord.tr (hA.ord.lt_le (b1 t t1)) (sa (i+k) n (Qu _) n1 n2)
             by_cases z6:j+1+k2=b.size
             ·rw[if_pos (beq_iff_eq.mpr z6)];exact Qm (.inl ⟨_,_,rfl,m6.dnB z6,sm4⟩)
             ·rw[if_neg (JP z6)];refine Ql (Q9 (by omega) ?_);have m9:=MI.puA m6 (by omega) gA;by_cases z9:i+k+1+1=a.size
              ·rw[if_pos (beq_iff_eq.mpr z9)];exact Qm (.inl ⟨_,_,rfl,m9.last z9 p2,sm4⟩)
              ·rw[if_neg (JP z9)];split
               ·exact Qm (.inr ⟨_,_,_,_,_,_,rfl,m9,by omega,by omega,by omega,sm4⟩)
               ·exact Qm ⟨_,_,_,_,_,_,rfl,m9,by omega,by omega,by omega,sm4⟩
            ·rw[if_neg zk2];have zk2:k2=0:=by omega
             subst zk2;refine Ql (Q9 (by omega) ?_);have m9:=MI.puA m5 (by omega) gA;by_cases z9:i+k+1+1=a.size
             ·rw[if_pos (beq_iff_eq.mpr z9)];exact Qm (.inl ⟨_,_,rfl,m9.last z9 p2,sm4⟩)
             ·rw[if_neg (JP z9)];split
              ·exact Qm (.inr ⟨_,_,_,_,_,_,rfl,m9,by omega,by omega,by omega,sm4⟩)
              ·exact Qm ⟨_,_,_,_,_,_,rfl,m9,by omega,by omega,by omega,sm4⟩
        ·rw[if_neg zk];have zk:k=0:=by omega
         subst zk;refine Ql (Q9 (by omega) ?_);have m5:=MI.puB m (by omega) hB1;by_cases z5:j+1=b.size
         ·rw[if_pos (beq_iff_eq.mpr z5)];exact Qm (.inl ⟨_,_,rfl,m5.dnB z5,sm4⟩)
         ·rw[if_neg (JP z5)];refine Ql (Q9 (by omega) ?_);refine Ql (ZF hA (sm4.kind.trans hk) (ma _ (QeJ (by omega))) mb (by omega) (by omega) (λx y x1 xy y1=>sb x y (Qu _) xy (by omega)) λk2 k2n b1 b2=>?_);have b1:∀t,t<k2->c (kx b (j+1+t)) (kx a (i))=true:=λt ht=>b1 t ht
          have b2:∀t,k2<=t->t<b.size - (j+1)->c (kx b (j+1+t)) (kx a (i))=false:=λt h1 h2=>b2 t h1 h2
          dsimp only
          have gA:∀n,j+1+k2<=n->n<b.size->le c (kx a (i)) (kx b n):=λn n1 n2=>by have:=b2 (n - (j+1)) (by omega) (by omega);rwa [show j+1+(n - (j+1))=n by omega] at this
          by_cases zk2:k2 > 0
          ·rw[if_pos zk2];have m6:=MI.chB (k:=k2) m5 λt t1 t2 n n1 n2=>hA.ord.tr (hA.ord.lt_le (b1 t t1)) (sa (i) n (Qu _) n1 n2)
           by_cases z6:j+1+k2=b.size
           ·rw[if_pos (beq_iff_eq.mpr z6)];exact Qm (.inl ⟨_,_,rfl,m6.dnB z6,sm4⟩)
           ·rw[if_neg (JP z6)];refine Ql (Q9 (by omega) ?_);have m9:=MI.puA m6 (by omega) gA;by_cases z9:i+1+1=a.size
            ·rw[if_pos (beq_iff_eq.mpr z9)];exact Qm (.inl ⟨_,_,rfl,m9.last z9 p2,sm4⟩)
            ·rw[if_neg (JP z9)];split
             ·exact Qm (.inr ⟨_,_,_,_,_,_,rfl,m9,by omega,by omega,by omega,sm4⟩)
             ·exact Qm ⟨_,_,_,_,_,_,rfl,m9,by omega,by omega,by omega,sm4⟩
          ·rw[if_neg zk2];have zk2:k2=0:=by omega
           subst zk2;refine Ql (Q9 (by omega) ?_);have m9:=MI.puA m5 (by omega) gA;by_cases z9:i+1+1=a.size
           ·rw[if_pos (beq_iff_eq.mpr z9)];exact Qm (.inl ⟨_,_,rfl,m9.last z9 p2,sm4⟩)
           ·rw[if_neg (JP z9)];split
            ·exact Qm (.inr ⟨_,_,_,_,_,_,rfl,m9,by omega,by omega,by omega,sm4⟩)
            ·exact Qm ⟨_,_,_,_,_,_,rfl,m9,by omega,by omega,by omega,sm4⟩
end
theorem QiF(a b:Array Keyed):Qgj a b=(do
 rule "list.sort.merge-hi"
 let tot:=a.size+b.size
 let dn (r:Array Keyed) (i j:Nat):=a.extract 0 i++b.extract 0 j++r.reverse
 let fb (r:Array Keyed) (i j:Nat):=b.extract 0 j++a.extract 0 i++r.reverse
 let mut i:=a.size - 1
 let mut j:=b.size
 let mut r:Array Keyed:=#[<- elem' a i]
 if i == 0 then return dn r i j
 if j == 1 then return fb r i j
 let mut mg:=gallopOf (<- get)
 for _ in [0:tot] do
  let mut p:=0
  let mut q:=0
  for _ in [0:tot] do
   let some t <- lt' (<- elem' b (j - 1)) (<- elem' a (i - 1)) | return dn r i j
   if t then
    i:=i - 1;r:=r.push (<- elem' a i);p:=p+1;q:=0
    if i == 0 then return dn r i j
    if p≥mg then break
   else
    j:=j - 1;r:=r.push (<- elem' b j);q:=q+1;p:=0
    if j == 1 then return fb r i j
    if q≥mg then break
  rule "list.sort.gallop"
  mg:=mg+1
  for _ in [0:tot] do
   if mg > 1 then mg:=mg - 1
   YA mg
   let some t <- QbW false (<- elem' b (j - 1)) a 0 i (i - 1) | return dn r i j
   let k:=i - t
   p:=k
   if k > 0 then
    r:=r++(a.extract t i).reverse;i:=t
    if i == 0 then return dn r i j
   j:=j - 1;r:=r.push (<- elem' b j)
   if j == 1 then return fb r i j
   let some t <- QbW true (<- elem' a (i - 1)) b 0 j (j - 1) | return dn r i j
   let k:=j - t
   q:=k
   if k > 0 then
    r:=r++(b.extract t j).reverse;j:=t
    if j == 1 then return fb r i j
    if j == 0 then return dn r i j
   i:=i - 1;r:=r.push (<- elem' a i)
   if i == 0 then return dn r i j
   if p<7&&q<7 then break
  mg:=mg+1
  YA mg
 unsupported "internal:list.sort.merge-bound"):=rfl
section
variable{c:Keyed->Keyed->Bool}
theorem QrW{r ch x y:List Keyed}(h1:Pw c ((x++ch)++r))(h2:Pw c (y++r))(h:∀u∈y,∀v∈ch,le c u v):Pw c (x++(ch++r))/\Pw c (y++(ch++r)):=by
 have h1':Pw c (x++(ch++r)):=by rw[<- Q5];exact h1
 refine⟨h1',?_⟩;have g:=JH.mp h1';have g2:=JH.mp h2;refine JH.mpr ⟨g2.1,g.2.1,λu hu v hv=>?_⟩;rcases Js.mp hv with z | z
 ·exact h u hu v z
 ·exact g2.2.2 u hu v z
theorem QjK(xs:Array Keyed)(i:Nat):(xs.extract 0 i).toList=xs.toList.take i:=by
 rw[QaV,Y9,Nat.sub_zero,Ya]
theorem QaS(xs:Array Keyed)(t i:Nat):(xs.extract t i).toList=(xs.toList.take i).drop t:=by
 rw[QaV,Y9,List.take_drop];by_cases z:t<=i
 ·rw[show t+(i - t)=i by omega]
 ·rw[show i - t=0 by omega,QcP,Yv (by rw[Jr];omega),Yv (by rw[Jr];omega)]
theorem Y7{xs:Array Keyed}{t i:Nat}{p:Keyed}(h:p∈(xs.toList.take i).drop t):∃n,t<=n/\n<i/\n<xs.size/\p=kx xs n:=by
 obtain⟨n,hn⟩:=QZ.mp h;rw[Yy,Qef] at hn;split at hn
 ·rename_i z
  have hl:=(QM.mp hn).1;rw[Qc] at hl;rw[QaP hl] at hn;exact⟨t+n,by omega,z,hl,(QB hn).symm⟩
 ·cases hn
structure MH (c:Keyed->Keyed->Bool) (a b r:Array Keyed) (i j:Nat):Prop where
 ha:Pw c (a.toList.take i++r.toList.reverse)
 hb:Pw c (b.toList.take j++r.toList.reverse)
 pm:((a.toList.take i++b.toList.take j)++r.toList.reverse).Perm (a.toList++b.toList)
variable{a b r:Array Keyed}{i j t:Nat}
theorem Qdt(r x:Array Keyed):(r++x.reverse).toList.reverse=x.toList++r.toList.reverse:=by
 rw[Jy,QcS,List.reverse_append,List.reverse_reverse]
theorem MH.chA(m:MH c a b r i j)(ht:t<=i)(h:∀n,t<=n->n<i->n<a.size->∀k,k<j->k<b.size->le c (kx b k) (kx a n)):MH c a b (r++(a.extract t i).reverse) t j:=by
 have e:a.toList.take i=a.toList.take t++(a.toList.take i).drop t:=by
  have:=(Jn t (a.toList.take i)).symm
  rwa [Qdj,Qbh ht] at this
 have h1:=m.ha;have pm:=m.pm;rw[e] at h1 pm;obtain⟨g1,g2⟩:=QrW h1 m.hb λu hu v hv=>by
  obtain⟨n,n1,n2,n3,rfl⟩:=Y7 hv;obtain⟨k,_,k2,k3,rfl⟩:=Y7 (t:=0) (by rw[Ya];exact hu);exact h n n1 n2 n3 k k2 k3
 refine⟨by rw[Qdt,QaS];exact g1,by rw[Qdt,QaS];exact g2,?_⟩;rw[Qdt,QaS];refine QaK ?_ pm
 rw[<- Q5];refine Qam _ ?_
 rw[Q5,Q5];exact Yp _ Z6
theorem MH.chB(m:MH c a b r i j)(ht:t<=j)(h:∀n,t<=n->n<j->n<b.size->∀k,k<i->k<a.size->le c (kx a k) (kx b n)):MH c a b (r++(b.extract t j).reverse) i t:=by
 have e:b.toList.take j=b.toList.take t++(b.toList.take j).drop t:=by
  have:=(Jn t (b.toList.take j)).symm
  rwa [Qdj,Qbh ht] at this
 have h1:=m.hb;have pm:=m.pm;rw[e] at h1 pm;obtain⟨g1,g2⟩:=QrW h1 m.ha λu hu v hv=>by
  obtain⟨n,n1,n2,n3,rfl⟩:=Y7 hv;obtain⟨k,_,k2,k3,rfl⟩:=Y7 (t:=0) (by rw[Ya];exact hu);exact h n n1 n2 n3 k k2 k3
 refine⟨by rw[Qdt,QaS];exact g2,by rw[Qdt,QaS];exact g1,?_⟩;rw[Qdt,QaS];refine QaK ?_ pm
 rw[<- Q5,Q5 (a.toList.take i)]
theorem Qjj{xs:Array Keyed}{i:Nat}(h1:1<=i)(h:i<=xs.size):r.push (kx xs (i - 1))=r++(xs.extract (i - 1) i).reverse:=by
 apply Qb6.mp
 have e:=Qeo xs (i - 1) 1;rw[show i - 1+1=i by omega] at e;rw[QbK,Jy,QcS,e,Qm4 (by omega)];rfl
theorem MH.puA(m:MH c a b r i j)(h1:1<=i)(hi:i<=a.size)(h:∀k,k<j->k<b.size->le c (kx b k) (kx a (i - 1))):MH c a b (r.push (kx a (i - 1))) (i - 1) j:=by
 rw[Qjj h1 hi];refine m.chA (by omega) λn n1 n2 _=>?_
 rw[show n=i - 1 by omega];exact h
theorem MH.puB(m:MH c a b r i j)(h1:1<=j)(hj:j<=b.size)(h:∀k,k<i->k<a.size->le c (kx a k) (kx b (j - 1))):MH c a b (r.push (kx b (j - 1))) i (j - 1):=by
 rw[Qjj h1 hj];refine m.chB (by omega) λn n1 n2 _=>?_
 rw[show n=j - 1 by omega];exact h
theorem Qca(x y r:Array Keyed)(i j:Nat):(x.extract 0 i++y.extract 0 j++r.reverse).toList=(x.toList.take i++y.toList.take j)++r.toList.reverse:=by
 rw[Jy,Jy,QjK,QjK,QcS]
theorem MH.dnA(m:MH c a b r i j)(hi:i=0):Out c a b (a.extract 0 i++b.extract 0 j++r.reverse):=by
 have pm:=m.pm;subst hi;refine⟨?_,by rw[Qca];exact pm⟩;rw[Qca,Qvd,Qbd];exact m.hb
theorem MH.dnB(m:MH c a b r i j)(hj:j=0):Out c a b (a.extract 0 i++b.extract 0 j++r.reverse):=by
 have pm:=m.pm;subst hj;refine⟨?_,by rw[Qca];exact pm⟩;rw[Qca,Qvd,Jt];exact m.ha
theorem MH.fb(m:MH c a b r i j)(hj:j=1)(p1:∀k,k<a.size->le c (kx b 0) (kx a k)):Out c a b (b.extract 0 j++a.extract 0 i++r.reverse):=by
 refine⟨?_,?_⟩
 ·rw[Qca];have g:=JH.mp m.hb;rw[Q5];refine JH.mpr ⟨g.1,m.ha,λu hu v hv=>?_⟩;rcases Js.mp hv with z | z
  ·obtain⟨k,_,k2,k3,rfl⟩:=Y7 (t:=0) (by rw[Ya];exact hu);obtain⟨n,_,n2,n3,rfl⟩:=Y7 (t:=0) (by rw[Ya];exact z);rw[show k=0 by omega];exact p1 n n3
  ·exact g.2.2 u hu v z
 ·rw[Qca];exact QaK (Qam _ Z6) m.pm
end
section
variable{prog:QC}{w:Ja}{A:Q2}{E:Value->Shared->Prop}{s:Shared}{a₀:Array Keyed}{κ:Yd}{c:Keyed->Keyed->Bool}
theorem Qji{xs:Array Keyed}(sg:Sg c xs 0 xs.size):Pw c xs.toList:=Jx.mpr λx y hx hy hxy=>by
 rw[Qc] at hx hy;have e1:=QaP hx;have e2:=QaP hy;rw[Qf (by rw[Qc];exact hx)] at e1;rw[Qf (by rw[Qc];exact hy)] at e2;rw[QB e1,QB e2];exact sg x y (Qu _) (by omega) hy
theorem Qia{st:JX}{a b:Array Keyed}{Q:Array Keyed->JX->Prop}(hA:Asks prog w A s κ a₀ c)(hk:kindOf st=κ)(ma:∀p∈a.toList,p∈a₀.toList)(mb:∀p∈b.toList,p∈a₀.toList)(na:1<=a.size)(nb:1<=b.size)
  (sa:Sg c a 0 a.size)(sb:Sg c b 0 b.size)(p1:∀k,k<a.size->le c (kx b 0) (kx a k))(p2:∀k,k<b.size->le c (kx b k) (kx a (a.size - 1)))(h:∀z st',Sm st st'->Out c a b z->Q z st'):wpS (model prog w) A E s (Qgj a b) Q st:=by
 rw[QiF]
 dsimp only
 refine Ql (Qec (wpAny_rule ⟨rfl,?_⟩));refine Ql (Q9 (by omega) ?_);have tk:∀xs:Array Keyed,xs.toList.take xs.size=xs.toList:=λxs=>Qco (by rw[Qc];exact Qj _)
 have m0:MH c a b #[] a.size b.size:=⟨by rw[tk];show Pw c (a.toList++[]);rw[Jt];exact Qji sa,by rw[tk];show Pw c (b.toList++[]);rw[Jt];exact Qji sb,by rw[tk,tk];show((a.toList++b.toList)++[]).Perm _;rw[Jt]⟩;have m1:MH c a b #[kx a (a.size - 1)] (a.size - 1) b.size:=MH.puA m0 na (Qj _) λk _ hk=>p2 k hk
 by_cases z1:a.size - 1=0
 ·rw[if_pos (beq_iff_eq.mpr z1)];exact Qm (h _ _ (Sm.refl st) (m1.dnA z1))
 ·rw[if_neg (JP z1)];by_cases z2:b.size=1
  ·rw[if_pos (beq_iff_eq.mpr z2)];exact Qm (h _ _ (Sm.refl st) (m1.fb z2 p1))
  ·rw[if_neg (JP z2)];refine Ql (Qci ?_);refine Ql (Yx (JZ (I:=λx z st'=>∃r i j mg,z=(none,i,j,r,mg)/\MH c a b r i j/\1<=i/\i<=a.size/\2<=j/\j<=b.size/\x+1+i+j<=a.size+b.size/\Sm st st')
    (Q:=λz st'=>∃o y,z=(some o,y)/\Out c a b o/\Sm st st') ?step ?fin ⟨_,_,_,_,rfl,m1,by omega,by omega,by omega,by omega,by omega,Sm.refl st⟩) ?post)
   case post=>
    rintro z st' ⟨o,y,rfl,ho,sm⟩;exact Qm (h o st' sm ho)
   case fin=>
    rintro z st' ⟨r,i,j,mg,rfl,m,i1,i2,j1,j2,x1,sm⟩;exfalso
    omega
   case step=>
    rintro x z st' _ hx ⟨r,i,j,mg,rfl,m,i1,i2,j1,j2,x1,sm⟩
    dsimp only
    refine Ql (Yx (JZ (I:=λy z st2=>∃r i j p q,z=(none,i,j,r,p,q)/\MH c a b r i j/\1<=i/\i<=a.size/\2<=j/\j<=b.size/\x+1+y+i+j<=a.size+b.size/\Sm st st2)
     (Q:=λz st2=>(∃o y,z=(some o,y)/\Out c a b o/\Sm st st2)∨∃r i j p q,z=(none,i,j,r,p,q)/\MH c a b r i j/\1<=i/\i<=a.size/\2<=j/\j<=b.size/\x+2+i+j<=a.size+b.size/\Sm st st2) ?step1 ?fin1 ⟨r,i,j,0,0,rfl,m,i1,i2,j1,j2,by omega,sm⟩) ?post1)
    case fin1=>
     rintro z st2 ⟨r,i,j,p,q,rfl,m,i1,i2,j1,j2,x1,sm⟩;exact .inr ⟨r,i,j,p,q,rfl,m,i1,i2,j1,j2,by omega,sm⟩
    case step1=>
     rintro y z st2 _ hy ⟨r,i,j,p,q,rfl,m,i1,i2,j1,j2,x1,sm⟩
     dsimp only
     refine Ql (Q9 (by omega) ?_);refine Ql (Q9 (by omega) ?_);refine Ql (QgW hA (sm.kind.trans hk) (mb _ (QeJ (by omega))) (ma _ (QeJ (by omega))) ?_);cases e:c (kx b (j - 1)) (kx a (i - 1)) with
     |true=>
      dsimp only
      rw[if_pos rfl];refine Ql (Q9 (by omega) ?_);have m2:=MH.puA m i1 i2 λk k1 k2=>hA.ord.tr (sb k (j - 1) (Qu _) (by omega) (by omega)) (hA.ord.lt_le e)
      by_cases z3:i - 1=0
      ·rw[if_pos (beq_iff_eq.mpr z3)];exact Qm (.inl ⟨_,_,rfl,m2.dnA z3,sm⟩)
      ·rw[if_neg (JP z3)];split
       ·exact Qm (.inr ⟨_,_,_,_,_,rfl,m2,by omega,by omega,by omega,by omega,by omega,sm⟩)
       ·exact Qm ⟨_,_,_,_,_,rfl,m2,by omega,by omega,by omega,by omega,by omega,sm⟩
     |false=>
      dsimp only
      rw[if_neg (by decide)];refine Ql (Q9 (by omega) ?_);have m2:=MH.puB m (by omega) j2 λk k1 k2=>hA.ord.tr (sa k (i - 1) (Qu _) (by omega) (by omega)) e
      by_cases z3:j - 1=1
      ·rw[if_pos (beq_iff_eq.mpr z3)];exact Qm (.inl ⟨_,_,rfl,m2.fb z3 p1,sm⟩)
      ·rw[if_neg (JP z3)];split
       ·exact Qm (.inr ⟨_,_,_,_,_,rfl,m2,by omega,by omega,by omega,by omega,by omega,sm⟩)
       ·exact Qm ⟨_,_,_,_,_,rfl,m2,by omega,by omega,by omega,by omega,by omega,sm⟩
    case post1=>
     rintro z st2 (⟨o,y,rfl,ho,sm⟩ | ⟨r,i,j,p,q,rfl,m,i1,i2,j1,j2,x1,sm⟩)
     ·exact Qm ⟨o,_,rfl,ho,sm⟩
     ·dsimp only
      refine Ql (Qec (wpAny_rule ⟨rfl,?_⟩));refine Ql (Yx (JZ (I:=λy z st3=>∃r i j mg p q,z=(none,i,j,r,mg,p,q)/\MH c a b r i j/\1<=i/\i<=a.size/\2<=j/\j<=b.size/\x+2+i+j<=a.size+b.size/\Sm st st3)
       (Q:=λz st3=>(∃o y,z=(some o,y)/\Out c a b o/\Sm st st3)∨∃r i j mg p q,z=(none,i,j,r,mg,p,q)/\MH c a b r i j/\1<=i/\i<=a.size/\2<=j/\j<=b.size/\x+2+i+j<=a.size+b.size/\Sm st st3) ?step2 ?fin2 ⟨r,i,j,_,p,q,rfl,m,i1,i2,j1,j2,by omega,sm⟩) ?post2)
      case fin2=>
       rintro z st3 ⟨r,i,j,mg,p,q,rfl,m,i1,i2,j1,j2,x1,sm⟩;exact .inr ⟨r,i,j,mg,p,q,rfl,m,i1,i2,j1,j2,by omega,sm⟩
      case post2=>
       rintro z st3 (⟨o,y,rfl,ho,sm⟩ | ⟨r,i,j,mg,p,q,rfl,m,i1,i2,j1,j2,x1,sm⟩)
       ·exact Qm ⟨o,_,rfl,ho,sm⟩
       ·dsimp only
        exact Ql (Qfg sm λst4 sm4=>Qm ⟨_,_,_,_,rfl,m,i1,i2,j1,j2,by omega,sm4⟩)
      case step2=>
       rintro y z st3 _ hy ⟨r,i,j,mg,p,q,rfl,m,i1,i2,j1,j2,x1,sm⟩
       dsimp only
       by_cases z0:mg > 1
       ·rw[if_pos z0];refine Ql (Qfg sm λst4 sm4=>?_);refine Ql (Q9 (by omega) ?_);refine Ql (ZF hA (sm4.kind.trans hk) (mb _ (QeJ (by omega))) ma (by omega) (by omega) (λx y x1 xy y1=>sa x y (Qu _) xy (by omega)) λt tn b1 b2=>?_);have lowA:∀n,n<t->le c (kx a n) (kx b (j - 1)):=λn hn=>by
         have:(!c (kx b (j - 1)) (kx a (0+n)))=true:=b1 n hn;rw[JU] at this
         simpa using this
        have b2:∀n,t<=n->n<i->c (kx b (j - 1)) (kx a n)=true:=λn h1 h2=>by
         have:(!c (kx b (j - 1)) (kx a (0+n)))=false:=b2 n h1 h2;rw[JU] at this
         simpa using this
        dsimp only
        by_cases zk:i - t > 0
        ·rw[if_pos zk];have m2:=MH.chA (t:=t) m tn λn n1 n2 _ k k1 k2=>hA.ord.tr (sb k (j - 1) (Qu _) (by omega) (by omega)) (hA.ord.lt_le (b2 n n1 n2))
         by_cases z2:t=0
         ·rw[if_pos (beq_iff_eq.mpr z2)];exact Qm (.inl ⟨_,_,rfl,m2.dnA z2,sm4⟩)
         ·rw[if_neg (JP z2)];refine Ql (Q9 (by omega) ?_);have m5:=MH.puB m2 (by omega) (by omega) λk k1 k2=>lowA k k1
          by_cases z5:j - 1=1
          ·rw[if_pos (beq_iff_eq.mpr z5)];exact Qm (.inl ⟨_,_,rfl,m5.fb z5 p1,sm4⟩)
          ·rw[if_neg (JP z5)];refine Ql (Q9 (by omega) ?_);refine Ql (ZF hA (sm4.kind.trans hk) (ma _ (QeJ (by omega))) mb (by omega) (by omega) (λx y x1 xy y1=>sb x y (Qu _) xy (by omega)) λt2 t2n b1 b2=>?_);have b1:∀n,n<t2->c (kx b n) (kx a (t - 1))=true:=λn hn=>by have:=b1 n hn;rwa [JU] at this
           have b2:∀n,t2<=n->n<j - 1->c (kx b n) (kx a (t - 1))=false:=λn h1 h2=>by have:=b2 n h1 h2;rwa [JU] at this
           dsimp only
           by_cases zk2:j - 1 - t2 > 0
           ·rw[if_pos zk2];have m6:=MH.chB (t:=t2) m5 t2n λn n1 n2 _ k k1 k2=>hA.ord.tr (sa k (t - 1) (Qu _) (by omega) (by omega)) (b2 n n1 n2)
            by_cases z6:t2=1
            ·rw[if_pos (beq_iff_eq.mpr z6)];exact Qm (.inl ⟨_,_,rfl,m6.fb z6 p1,sm4⟩)
            ·rw[if_neg (JP z6)];by_cases z7:t2=0
             ·rw[if_pos (beq_iff_eq.mpr z7)];exact Qm (.inl ⟨_,_,rfl,m6.dnB z7,sm4⟩)
             ·rw[if_neg (JP z7)];refine Ql (Q9 (by omega) ?_);have m9:=MH.puA m6 (by omega) (by omega) λk k1 k2=>hA.ord.lt_le (b1 k k1)
              by_cases z9:t - 1=0
              ·rw[if_pos (beq_iff_eq.mpr z9)];exact Qm (.inl ⟨_,_,rfl,m9.dnA z9,sm4⟩)
              ·rw[if_neg (JP z9)];split
               ·exact Qm (.inr ⟨_,_,_,_,_,_,rfl,m9,by omega,by omega,by omega,by omega,by omega,sm4⟩)
               ·exact Qm ⟨_,_,_,_,_,_,rfl,m9,by omega,by omega,by omega,by omega,by omega,sm4⟩
           ·rw[if_neg zk2];have zt:t2=j - 1:=by omega
            refine Ql (Q9 (by omega) ?_);have m9:=MH.puA m5 (by omega) (by omega) λk k1 k2=>hA.ord.lt_le (b1 k (by omega))
            by_cases z9:t - 1=0
            ·rw[if_pos (beq_iff_eq.mpr z9)];exact Qm (.inl ⟨_,_,rfl,m9.dnA z9,sm4⟩)
            ·rw[if_neg (JP z9)];split
             ·exact Qm (.inr ⟨_,_,_,_,_,_,rfl,m9,by omega,by omega,by omega,by omega,by omega,sm4⟩)
             ·exact Qm ⟨_,_,_,_,_,_,rfl,m9,by omega,by omega,by omega,by omega,by omega,sm4⟩
        ·rw[if_neg zk];have zt:t=i:=by omega
         subst zt;refine Ql (Q9 (by omega) ?_);have m5:=MH.puB m (by omega) (by omega) λk k1 k2=>lowA k k1
         by_cases z5:j - 1=1
         ·rw[if_pos (beq_iff_eq.mpr z5)];exact Qm (.inl ⟨_,_,rfl,m5.fb z5 p1,sm4⟩)
         ·rw[if_neg (JP z5)];refine Ql (Q9 (by omega) ?_);refine Ql (ZF hA (sm4.kind.trans hk) (ma _ (QeJ (by omega))) mb (by omega) (by omega) (λx y x1 xy y1=>sb x y (Qu _) xy (by omega)) λt2 t2n b1 b2=>?_);have b1:∀n,n<t2->c (kx b n) (kx a (t - 1))=true:=λn hn=>by have:=b1 n hn;rwa [JU] at this
          have b2:∀n,t2<=n->n<j - 1->c (kx b n) (kx a (t - 1))=false:=λn h1 h2=>by have:=b2 n h1 h2;rwa [JU] at this
          dsimp only
          by_cases zk2:j - 1 - t2 > 0
          ·rw[if_pos zk2];have m6:=MH.chB (t:=t2) m5 t2n λn n1 n2 _ k k1 k2=>hA.ord.tr (sa k (t - 1) (Qu _) (by omega) (by omega)) (b2 n n1 n2)
           by_cases z6:t2=1
           ·rw[if_pos (beq_iff_eq.mpr z6)];exact Qm (.inl ⟨_,_,rfl,m6.fb z6 p1,sm4⟩)
           ·rw[if_neg (JP z6)];by_cases z7:t2=0
            ·rw[if_pos (beq_iff_eq.mpr z7)];exact Qm (.inl ⟨_,_,rfl,m6.dnB z7,sm4⟩)
            ·rw[if_neg (JP z7)];refine Ql (Q9 (by omega) ?_);have m9:=MH.puA m6 (by omega) (by omega) λk k1 k2=>hA.ord.lt_le (b1 k k1)
             by_cases z9:t - 1=0
             ·rw[if_pos (beq_iff_eq.mpr z9)];exact Qm (.inl ⟨_,_,rfl,m9.dnA z9,sm4⟩)
             ·rw[if_neg (JP z9)];split
              ·exact Qm (.inr ⟨_,_,_,_,_,_,rfl,m9,by omega,by omega,by omega,by omega,by omega,sm4⟩)
              ·exact Qm ⟨_,_,_,_,_,_,rfl,m9,by omega,by omega,by omega,by omega,by omega,sm4⟩
          ·rw[if_neg zk2];have zt:t2=j - 1:=by omega
           refine Ql (Q9 (by omega) ?_);have m9:=MH.puA m5 (by omega) (by omega) λk k1 k2=>hA.ord.lt_le (b1 k (by omega))
           by_cases z9:t - 1=0
           ·rw[if_pos (beq_iff_eq.mpr z9)];exact Qm (.inl ⟨_,_,rfl,m9.dnA z9,sm4⟩)
           ·rw[if_neg (JP z9)];split
            ·exact Qm (.inr ⟨_,_,_,_,_,_,rfl,m9,by omega,by omega,by omega,by omega,by omega,sm4⟩)
            ·exact Qm ⟨_,_,_,_,_,_,rfl,m9,by omega,by omega,by omega,by omega,by omega,sm4⟩
       ·rw[if_neg z0];refine Ql (Qfg sm λst4 sm4=>?_);refine Ql (Q9 (by omega) ?_);refine Ql (ZF hA (sm4.kind.trans hk) (mb _ (QeJ (by omega))) ma (by omega) (by omega) (λx y x1 xy y1=>sa x y (Qu _) xy (by omega)) λt tn b1 b2=>?_);have lowA:∀n,n<t->le c (kx a n) (kx b (j - 1)):=λn hn=>by
         have:(!c (kx b (j - 1)) (kx a (0+n)))=true:=b1 n hn;rw[JU] at this
         simpa using this
        have b2:∀n,t<=n->n<i->c (kx b (j - 1)) (kx a n)=true:=λn h1 h2=>by
         have:(!c (kx b (j - 1)) (kx a (0+n)))=false:=b2 n h1 h2;rw[JU] at this
         simpa using this
        dsimp only
        by_cases zk:i - t > 0
        ·rw[if_pos zk];have m2:=MH.chA (t:=t) m tn λn n1 n2 _ k k1 k2=>hA.ord.tr (sb k (j - 1) (Qu _) (by omega) (by omega)) (hA.ord.lt_le (b2 n n1 n2))
         by_cases z2:t=0
         ·rw[if_pos (beq_iff_eq.mpr z2)];exact Qm (.inl ⟨_,_,rfl,m2.dnA z2,sm4⟩)
         ·rw[if_neg (JP z2)];refine Ql (Q9 (by omega) ?_);have m5:=MH.puB m2 (by omega) (by omega) λk k1 k2=>lowA k k1
          by_cases z5:j - 1=1
          ·rw[if_pos (beq_iff_eq.mpr z5)];exact Qm (.inl ⟨_,_,rfl,m5.fb z5 p1,sm4⟩)
          ·rw[if_neg (JP z5)];refine Ql (Q9 (by omega) ?_);refine Ql (ZF hA (sm4.kind.trans hk) (ma _ (QeJ (by omega))) mb (by omega) (by omega) (λx y x1 xy y1=>sb x y (Qu _) xy (by omega)) λt2 t2n b1 b2=>?_);have b1:∀n,n<t2->c (kx b n) (kx a (t - 1))=true:=λn hn=>by have:=b1 n hn;rwa [JU] at this
           have b2:∀n,t2<=n->n<j - 1->c (kx b n) (kx a (t - 1))=false:=λn h1 h2=>by have:=b2 n h1 h2;rwa [JU] at this
           dsimp only
           by_cases zk2:j - 1 - t2 > 0
           ·rw[if_pos zk2];have m6:=MH.chB (t:=t2) m5 t2n λn n1 n2 _ k k1 k2=>hA.ord.tr (sa k (t - 1) (Qu _) (by omega) (by omega)) (b2 n n1 n2)
            by_cases z6:t2=1
            ·rw[if_pos (beq_iff_eq.mpr z6)];exact Qm (.inl ⟨_,_,rfl,m6.fb z6 p1,sm4⟩)
            ·rw[if_neg (JP z6)];by_cases z7:t2=0
             ·rw[if_pos (beq_iff_eq.mpr z7)];exact Qm (.inl ⟨_,_,rfl,m6.dnB z7,sm4⟩)
             ·rw[if_neg (JP z7)];refine Ql (Q9 (by omega) ?_);have m9:=MH.puA m6 (by omega) (by omega) λk k1 k2=>hA.ord.lt_le (b1 k k1)
              by_cases z9:t - 1=0
              ·rw[if_pos (beq_iff_eq.mpr z9)];exact Qm (.inl ⟨_,_,rfl,m9.dnA z9,sm4⟩)
              ·rw[if_neg (JP z9)];split
               ·exact Qm (.inr ⟨_,_,_,_,_,_,rfl,m9,by omega,by omega,by omega,by omega,by omega,sm4⟩)
               ·exact Qm ⟨_,_,_,_,_,_,rfl,m9,by omega,by omega,by omega,by omega,by omega,sm4⟩
           ·rw[if_neg zk2];have zt:t2=j - 1:=by omega
            refine Ql (Q9 (by omega) ?_);have m9:=MH.puA m5 (by omega) (by omega) λk k1 k2=>hA.ord.lt_le (b1 k (by omega))
            by_cases z9:t - 1=0
            ·rw[if_pos (beq_iff_eq.mpr z9)];exact Qm (.inl ⟨_,_,rfl,m9.dnA z9,sm4⟩)
            ·rw[if_neg (JP z9)];split
             ·exact Qm (.inr ⟨_,_,_,_,_,_,rfl,m9,by omega,by omega,by omega,by omega,by omega,sm4⟩)
             ·exact Qm ⟨_,_,_,_,_,_,rfl,m9,by omega,by omega,by omega,by omega,by omega,sm4⟩
        ·rw[if_neg zk];have zt:t=i:=by omega
         subst zt;refine Ql (Q9 (by omega) ?_);have m5:=MH.puB m (by omega) (by omega) λk k1 k2=>lowA k k1
         by_cases z5:j - 1=1
         ·rw[if_pos (beq_iff_eq.mpr z5)];exact Qm (.inl ⟨_,_,rfl,m5.fb z5 p1,sm4⟩)
         ·rw[if_neg (JP z5)];refine Ql (Q9 (by omega) ?_);refine Ql (ZF hA (sm4.kind.trans hk) (ma _ (QeJ (by omega))) mb (by omega) (by omega) (λx y x1 xy y1=>sb x y (Qu _) xy (by omega)) λt2 t2n b1 b2=>?_);have b1:∀n,n<t2->c (kx b n) (kx a (t - 1))=true:=λn hn=>by have:=b1 n hn;rwa [JU] at this
          have b2:∀n,t2<=n->n<j - 1->c (kx b n) (kx a (t - 1))=false:=λn h1 h2=>by have:=b2 n h1 h2;rwa [JU] at this
          dsimp only
          by_cases zk2:j - 1 - t2 > 0
          ·rw[if_pos zk2];have m6:=MH.chB (t:=t2) m5 t2n λn n1 n2 _ k k1 k2=>hA.ord.tr (sa k (t - 1) (Qu _) (by omega) (by omega)) (b2 n n1 n2)
           by_cases z6:t2=1
           ·rw[if_pos (beq_iff_eq.mpr z6)];exact Qm (.inl ⟨_,_,rfl,m6.fb z6 p1,sm4⟩)
           ·rw[if_neg (JP z6)];by_cases z7:t2=0
            ·rw[if_pos (beq_iff_eq.mpr z7)];exact Qm (.inl ⟨_,_,rfl,m6.dnB z7,sm4⟩)
            ·rw[if_neg (JP z7)];refine Ql (Q9 (by omega) ?_);have m9:=MH.puA m6 (by omega) (by omega) λk k1 k2=>hA.ord.lt_le (b1 k k1)
             by_cases z9:t - 1=0
             ·rw[if_pos (beq_iff_eq.mpr z9)];exact Qm (.inl ⟨_,_,rfl,m9.dnA z9,sm4⟩)
             ·rw[if_neg (JP z9)];split
              ·exact Qm (.inr ⟨_,_,_,_,_,_,rfl,m9,by omega,by omega,by omega,by omega,by omega,sm4⟩)
              ·exact Qm ⟨_,_,_,_,_,_,rfl,m9,by omega,by omega,by omega,by omega,by omega,sm4⟩
          ·rw[if_neg zk2];have zt:t2=j - 1:=by omega
           refine Ql (Q9 (by omega) ?_);have m9:=MH.puA m5 (by omega) (by omega) λk k1 k2=>hA.ord.lt_le (b1 k (by omega))
           by_cases z9:t - 1=0
           ·rw[if_pos (beq_iff_eq.mpr z9)];exact Qm (.inl ⟨_,_,rfl,m9.dnA z9,sm4⟩)
           ·rw[if_neg (JP z9)];split
            ·exact Qm (.inr ⟨_,_,_,_,_,_,rfl,m9,by omega,by omega,by omega,by omega,by omega,sm4⟩)
            ·exact Qm ⟨_,_,_,_,_,_,rfl,m9,by omega,by omega,by omega,by omega,by omega,sm4⟩
end
theorem QiG(i:Nat):mergeAt' i=(do
 let z <- get
 let (some (u,n,pw),some (v,m,_)):=((pendingOf z)[i]?,(pendingOf z)[i+1]?) | unsupported "internal:list.sort.pending"
 set (setPending z (((pendingOf z).setIfInBounds i (u,n+m,pw)).eraseIdxIfInBounds (i+1)))
 let some k <- QbW false (<- elem' (arrOf z) v) (arrOf z) u n 0 | return false
 let (u,n):=(u+k,n - k)
 if n == 0 then return true
 let some m <- QbW true (<- elem' (arrOf z) (u+n - 1)) (arrOf z) v m (m - 1) | return false
 if m == 0 then return true
 let x:=(arrOf z).extract u v
 let y:=(arrOf z).extract v (v+m)
 let mm <- if n<=m then Qgi x y else Qgj x y
 modify λz=>setArr z (mm.toList.zipIdx.foldl (λa (p,j)=>a.setIfInBounds (u+j) p) (arrOf z))
 return (failedOf (<- get)).isNone):=rfl
theorem Qso{σ:Type}{M:Qj6}{A:Q2}{E:Value->Shared->Prop}{s:Shared}{Q:PUnit->σ->Prop}{st st':σ}(h:Q ⟨⟩ st'):wpS M A E s (set st':StateT σ Sem PUnit) Q st:=by
 unfold wpS;rw[StateT.run_set];exact wpAny_pure ⟨rfl,h⟩
theorem QjD(u:Nat):∀(z:List Keyed)(m:Nat)(xs:Array Keyed),u+m+z.length<=xs.size->((z.zipIdx m).foldl (λa (p:Keyed×Nat)=>a.setIfInBounds (u+p.2) p.1) xs).toList=xs.toList.take (u+m)++z++xs.toList.drop (u+m+z.length)
 |[],m,xs,_=>by
  show xs.toList=_;rw[Jt,QcK,QcP,Jn]
 |p::z,m,xs,h=>by
  rw[Qy] at h;rw[Qfd,QcL];have ih:=QjD u z (m+1) (xs.setIfInBounds (u+m) p) (by rw[QhY];omega);rw[ih,QgI,List.set_eq_take_append_cons_drop,if_pos (by rw[Qc];omega)];have lt:(xs.toList.take (u+m)).length=u+m:=by rw[Jr,Qc];omega
  have e1:(xs.toList.take (u+m)++p::xs.toList.drop (u+m+1)).take (u+(m+1))=xs.toList.take (u+m)++[p]:=by
   rw[List.take_append,lt,Qco (by omega),show u+(m+1) - (u+m)=1 by omega];rfl
  have e2:(xs.toList.take (u+m)++p::xs.toList.drop (u+m+1)).drop (u+(m+1)+z.length)=xs.toList.drop (u+m+(p::z).length):=by
   rw[List.drop_append,lt,Yv (by omega),Qbd,show u+(m+1)+z.length - (u+m)=z.length+1 by omega,List.drop_succ_cons,QhV,Qy]
   congr 1
   omega
  rw[e1,e2,Q5,Q5,Q5];rfl
theorem Qht{xs ys:Array Keyed}{i j:Nat}(h:xs.toList[i]? = ys.toList[j]?):kx xs i=kx ys j:=by
 rw[Q8,Q8] at h;exact QiJ h
theorem QrE{xs:Array Keyed}{u v t:Nat}(h:u+t<v)(hv:v<=xs.size):kx (xs.extract u v) t=kx xs (u+t):=by
 refine QiJ ?_
 rw[Array.getElem?_extract,if_pos (by omega)]
section
variable{c:Keyed->Keyed->Bool}
structure Laid (c:Keyed->Keyed->Bool) (xs ws z:Array Keyed) (lo hi:Nat):Prop where
 size:ws.size=xs.size
 perm:ws.Perm xs
 out:∀n,n<lo∨hi<=n->kx ws n=kx xs n
 mid:∀n,lo<=n->n<hi->kx ws n=kx z (n - lo)
 zs:z.size=hi - lo
 of_:∀n,lo<=n->n<hi->∃m,lo<=m/\m<hi/\kx ws n=kx xs m
theorem Qt6{xs z:Array Keyed}{lo v hi:Nat}(h1:lo<=v)(h2:v<=hi)(h3:hi<=xs.size)(o:Out c (xs.extract lo v) (xs.extract v hi) z):Laid c xs (z.toList.zipIdx.foldl (λa (p:Keyed×Nat)=>a.setIfInBounds (lo+p.2) p.1) xs) z lo hi:=by
 have ln:z.toList.length=hi - lo:=by
  rw[o.2.length_eq,Qw,Qc,Qc,Qbn,Qbn];omega
 have zs:z.size=hi - lo:=by rw[<- ln,Qc]
 have lb:=QjD lo z.toList 0 xs (by omega);rw[QcP,ln,show lo+(hi - lo)=hi by omega] at lb;generalize hw:z.toList.zipIdx.foldl (λa (p:Keyed×Nat)=>a.setIfInBounds (lo+p.2) p.1) xs=ws;rw[show z.toList.zipIdx 0=z.toList.zipIdx from rfl,hw] at lb;have lt:(xs.toList.take lo).length=lo:=by rw[Jr,Qc];omega
 have mid0:xs.toList=xs.toList.take lo++((xs.extract lo v).toList++(xs.extract v hi).toList)++xs.toList.drop hi:=by
  rw[QaS,QaS];have e1:xs.toList.take hi=xs.toList.take v++(xs.toList.take hi).drop v:=by
   have:=(Jn v (xs.toList.take hi)).symm
   rwa [Qdj,Qbh h2] at this
  have e2:xs.toList.take v=xs.toList.take lo++(xs.toList.take v).drop lo:=by
   have:=(Jn lo (xs.toList.take v)).symm
   rwa [Qdj,Qbh h1] at this
  rw[<- Q5,<- e2,<- e1,Jn]
 have szl:ws.toList.length=xs.toList.length:=by
  rw[lb,Qw,Qw,lt,ln,Yo,Qc];omega
 have md:∀n,lo<=n->n<hi->kx ws n=kx z (n - lo):=λn n1 n2=>by
  refine Qht ?_
  rw[lb,ZD (by rw[Qw,lt,ln];omega),Ji (by rw[lt];exact n1),lt]
 refine⟨by rw[<- Qc,szl,Qc],?_,λn hn=>?_,md,zs,λn n1 n2=>?_⟩
 ·refine ZA.mpr ?_
  rw[lb]
  conv=>rhs;rw[mid0]
  exact Qam _ (Yp _ o.2)
 ·refine Qht ?_
  rw[lb];rcases hn with hn | hn
  ·rw[Q5,ZD (by rw[lt];exact hn),Qef,if_pos hn]
  ·rw[Ji (by rw[Qw,lt,ln];omega),Qw,lt,ln,Yy]
   congr 1
   omega
 ·have hz:n - lo<z.size:=by omega
  have hm:=o.2.mem_iff.mp (QeJ hz);rw[md n n1 n2];rcases Js.mp hm with q | q
  ·rw[QaS] at q;obtain⟨m,m1,m2,_,e⟩:=Y7 q;exact⟨m,m1,by omega,e⟩
  ·rw[QaS] at q;obtain⟨m,m1,m2,_,e⟩:=Y7 q;exact⟨m,by omega,m2,e⟩
end
section
variable{prog:QC}{w:Ja}{A:Q2}{E:Value->Shared->Prop}{s:Shared}{a₀:Array Keyed}{κ:Yd}{c:Keyed->Keyed->Bool}
structure Mg (κ:Yd) (a₀:Array Keyed) (c:Keyed->Keyed->Bool) (st st':JX) (i u v hi pn pw:Nat):Prop where
 sb:SB κ a₀ st'
 pend:pendingOf st'=((pendingOf st).setIfInBounds i (u,pn,pw)).eraseIdxIfInBounds (i+1)
 out:∀n,n<u∨hi<=n->kx (arrOf st') n=kx (arrOf st) n
 sg:Sg c (arrOf st') u hi
theorem Qib{st:JX}{i u n pw m pw2:Nat}{Q:Bool->JX->Prop}(hA:Asks prog w A s κ a₀ c)(hB:SB κ a₀ st)(e1:(pendingOf st)[i]? = some (u,n,pw))(e2:(pendingOf st)[i+1]? = some (u+n,m,pw2))(n1:1<=n)(m1:1<=m)(hz:u+n+m<=a₀.size)
  (s1:Sg c (arrOf st) u (u+n))(s2:Sg c (arrOf st) (u+n) (u+n+m))(h:∀st',Mg κ a₀ c st st' i u (u+n) (u+n+m) (n+m) pw->Q true st'):wpS (model prog w) A E s (mergeAt' i) Q st:=by
 have sz:=hB.size;have mem:∀p∈(arrOf st).toList,p∈a₀.toList:=λp hp=>hB.mem hp
 have memE:∀{x y:Nat}{p:Keyed},p∈((arrOf st).extract x y).toList->p∈a₀.toList:=λ{x y p} hp=>mem p (by rw[QaS] at hp;exact Qdc (QaX hp))
 rw[QiG];refine Ql (Qci ?_);rw[e1,e2]
 dsimp only
 refine Ql (Qso ?_);refine Ql (Q9 (by omega) ?_);refine Ql (ZF hA hB.kind (mem _ (QeJ (by omega))) mem (by omega) (by omega) s1 λk kn b1 b2=>?_);have b1:∀t,t<k->le c (kx (arrOf st) (u+t)) (kx (arrOf st) (u+n)):=λt ht=>by
  have:(!c (kx (arrOf st) (u+n)) (kx (arrOf st) (u+t)))=true:=b1 t ht
  simpa using this
 have b2:∀t,k<=t->t<n->c (kx (arrOf st) (u+n)) (kx (arrOf st) (u+t))=true:=λt h1 h2=>by
  have:(!c (kx (arrOf st) (u+n)) (kx (arrOf st) (u+t)))=false:=b2 t h1 h2
  simpa using this
 dsimp only
 by_cases z1:n - k=0
 ·rw[if_pos (beq_iff_eq.mpr z1)];refine Qm (h _ ⟨⟨hB.perm,hB.kind,hB.failed⟩,rfl,λ_ _=>rfl,λx y x1 xy y1=>?_⟩);show le c (kx (arrOf st) x) (kx (arrOf st) y);by_cases zx:x<u+n
  ·by_cases zy:y<u+n
   ·exact s1 x y x1 xy zy
   ·have:=b1 (x - u) (by omega);rw[show u+(x - u)=x by omega] at this;exact hA.ord.tr this (s2 (u+n) y (Qj _) (by omega) y1)
  ·exact s2 x y (by omega) xy y1
 ·rw[if_neg (JP z1)];have hl:u+k+(n - k) - 1=u+n - 1:=by omega
  rw[hl];refine Ql (Q9 (by omega) ?_);refine Ql (ZF hA hB.kind (mem _ (QeJ (by omega))) mem (by omega) (by omega) s2 λm2 mn d1 d2=>?_);have d1:∀t,t<m2->c (kx (arrOf st) (u+n+t)) (kx (arrOf st) (u+n - 1))=true:=λt ht=>d1 t ht
  have d2:∀t,m2<=t->t<m->le c (kx (arrOf st) (u+n - 1)) (kx (arrOf st) (u+n+t)):=λt h1 h2=>d2 t h1 h2
  dsimp only
  by_cases z2:m2=0
  ·rw[if_pos (beq_iff_eq.mpr z2)];refine Qm (h _ ⟨⟨hB.perm,hB.kind,hB.failed⟩,rfl,λ_ _=>rfl,λx y x1 xy y1=>?_⟩);show le c (kx (arrOf st) x) (kx (arrOf st) y);by_cases zx:x<u+n
   ·by_cases zy:y<u+n
    ·exact s1 x y x1 xy zy
    ·have:=d2 (y - (u+n)) (by omega) (by omega);rw[show u+n+(y - (u+n))=y by omega] at this;exact hA.ord.tr (s1 x (u+n - 1) x1 (by omega) (by omega)) this
   ·exact s2 x y (by omega) xy y1
  ·rw[if_neg (JP z2)];have ex:∀t,t<n - k->kx ((arrOf st).extract (u+k) (u+n)) t=kx (arrOf st) (u+k+t):=λt ht=>QrE (by omega) (by omega)
   have ey:∀t,t<m2->kx ((arrOf st).extract (u+n) (u+n+m2)) t=kx (arrOf st) (u+n+t):=λt ht=>QrE (by omega) (by omega)
   have sx:((arrOf st).extract (u+k) (u+n)).size=n - k:=by rw[Qbn];omega
   have sy:((arrOf st).extract (u+n) (u+n+m2)).size=m2:=by rw[Qbn];omega
   have fin:∀(z:Array Keyed)(st':JX),Sm (setPending st (((pendingOf st).setIfInBounds i (u,n+m,pw)).eraseIdxIfInBounds (i+1))) st'->Out c ((arrOf st).extract (u+k) (u+n)) ((arrOf st).extract (u+n) (u+n+m2)) z ->
     wpS (model prog w) A E s (do
      modify λx=>setArr x (z.toList.zipIdx.foldl (λa (p,j)=>a.setIfInBounds (u+k+j) p) (arrOf x))
      return (failedOf (<- get)).isNone) Q st':=λz st' sm o=>by
    refine Ql (Qat (Ql (Qci ?_)));have fe:failedOf st'=none:=sm.failed.trans hB.failed;have ae:arrOf st'=arrOf st:=sm.arr;have L:=Qt6 (c:=c) (xs:=arrOf st) (z:=z) (lo:=u+k) (v:=u+n) (hi:=u+n+m2) (by omega) (by omega) (by omega) o;refine Qm ?_
    show Q ((failedOf st').isNone) _;rw[fe,ae];refine h _ ⟨⟨L.perm.trans hB.perm,sm.kind.trans hB.kind,fe⟩,sm.pend,λx hx=>L.out x (by omega),λx y x1 xy y1=>?_⟩;generalize z.toList.zipIdx.foldl (λa (p:Keyed×Nat)=>a.setIfInBounds (u+k+p.2) p.1) (arrOf st)=ws at L;show le c (kx ws x) (kx ws y);have a0:∀x,u<=x->x<u+k->le c (kx (arrOf st) x) (kx (arrOf st) (u+n)):=λx g1 g2=>by have:=b1 (x - u) (by omega);rwa [show u+(x - u)=x by omega] at this
    have b9:∀y,u+n+m2<=y->y<u+n+m->le c (kx (arrOf st) (u+n - 1)) (kx (arrOf st) y):=λy g1 g2=>by have:=d2 (y - (u+n)) (by omega) (by omega);rwa [show u+n+(y - (u+n))=y by omega] at this
    by_cases zx:x<u+k
    ·rw[L.out x (.inl zx)];by_cases zy:y<u+k
     ·rw[L.out y (.inl zy)];exact s1 x y x1 xy (by omega)
     ·by_cases zy2:y<u+n+m2
      ·obtain⟨q,q1,q2,qe⟩:=L.of_ y (by omega) zy2;rw[qe];by_cases zq:q<u+n
       ·exact s1 x q x1 (by omega) zq
       ·exact hA.ord.tr (a0 x x1 zx) (s2 (u+n) q (Qj _) (by omega) (by omega))
      ·rw[L.out y (.inr (by omega))];exact hA.ord.tr (a0 x x1 zx) (s2 (u+n) y (Qj _) (by omega) y1)
    ·by_cases zx2:x<u+n+m2
     ·by_cases zy2:y<u+n+m2
      ·rw[L.mid x (by omega) zx2,L.mid y (by omega) zy2];by_cases xe:x=y
       ·subst xe;exact hA.ord.irr _
       ·have g:=Jx.mp o.1 (x - (u+k)) (y - (u+k)) (by rw[Qc,L.zs];omega) (by rw[Qc,L.zs];omega) (by omega);have k1:=QaP (xs:=z) (i:=x - (u+k)) (by rw[L.zs];omega);have k2:=QaP (xs:=z) (i:=y - (u+k)) (by rw[L.zs];omega);rw[Qf (by rw[Qc,L.zs];omega)] at k1 k2;rw[QB k1,QB k2] at g;exact g
      ·rw[L.out y (.inr (by omega))];obtain⟨q,q1,q2,qe⟩:=L.of_ x (by omega) zx2;rw[qe];by_cases zq:q<u+n
       ·exact hA.ord.tr (s1 q (u+n - 1) (by omega) (by omega) (by omega)) (b9 y (by omega) y1)
       ·exact s2 q y (by omega) (by omega) y1
     ·rw[L.out x (.inr (by omega)),L.out y (.inr (by omega))];exact s2 x y (by omega) xy y1
   have hsx:Sg c ((arrOf st).extract (u+k) (u+n)) 0 ((arrOf st).extract (u+k) (u+n)).size:=λx y _ xy y1=>by
    rw[sx] at y1;rw[ex x (by omega),ex y y1];exact s1 _ _ (by omega) (by omega) (by omega)
   have hsy:Sg c ((arrOf st).extract (u+n) (u+n+m2)) 0 ((arrOf st).extract (u+n) (u+n+m2)).size:=λx y _ xy y1=>by
    rw[sy] at y1;rw[ey x (by omega),ey y y1];exact s2 _ _ (by omega) (by omega) (by omega)
   have hp1:∀t,t<((arrOf st).extract (u+k) (u+n)).size->le c (kx ((arrOf st).extract (u+n) (u+n+m2)) 0) (kx ((arrOf st).extract (u+k) (u+n)) t):=λt ht=>by
    rw[sx] at ht;rw[ey 0 (by omega),ex t ht,QcP];have:=b2 (k+t) (by omega) (by omega);rw[show u+(k+t)=u+k+t by omega] at this;exact hA.ord.lt_le this
   have hp2:∀t,t<((arrOf st).extract (u+n) (u+n+m2)).size->le c (kx ((arrOf st).extract (u+n) (u+n+m2)) t) (kx ((arrOf st).extract (u+k) (u+n)) (((arrOf st).extract (u+k) (u+n)).size - 1)):=λt ht=>by
    rw[sy] at ht;rw[sx,ey t ht,ex (n - k - 1) (by omega),show u+k+(n - k - 1)=u+n - 1 by omega];exact hA.ord.lt_le (d1 t ht)
   split
   ·exact Ql (Qh9 hA hB.kind (λp hp=>memE hp) (λp hp=>memE hp) (by rw[sx];omega) (by rw[sy];omega) hsx hsy hp1 hp2 λz st' sm o=>fin z st' sm o)
   ·exact Ql (Qia hA hB.kind (λp hp=>memE hp) (λp hp=>memE hp) (by rw[sx];omega) (by rw[sy];omega) hsx hsy hp1 hp2 λz st' sm o=>fin z st' sm o)
end
def RunsOk:List (Nat×Nat)->Nat->Nat->Prop
 |[],s,e=>s=e
 |(s',n)::r,s,e=>s'=s/\1<=n/\RunsOk r (s+n) e
theorem RunsOk.app:∀{l1 l2:List (Nat×Nat)}{s e:Nat},RunsOk (l1++l2) s e↔∃m,RunsOk l1 s m/\RunsOk l2 m e
 |[],l2,s,e=>⟨λh=>⟨s,rfl,h⟩,λ⟨m,h1,h2⟩=>by cases(show s=m from h1);exact h2⟩
 |(s',n)::l1,l2,s,e=>by
  constructor
  ·rintro⟨h1,h2,h3⟩;obtain⟨m,a,b⟩:=RunsOk.app.mp h3;exact⟨m,⟨h1,h2,a⟩,b⟩
  ·rintro⟨m,⟨h1,h2,a⟩,b⟩;exact⟨h1,h2,RunsOk.app.mpr ⟨m,a,b⟩⟩
theorem RunsOk.le:∀{l:List (Nat×Nat)}{s e:Nat},RunsOk l s e->s+l.length<=e
 |[],s,e,h=>by cases(show s=e from h);exact Qj _
 |(s',n)::l,s,e,⟨_,h2,h3⟩=>by
  have:=RunsOk.le h3;rw[Qy];omega
theorem RunsOk.mem:∀{l:List (Nat×Nat)}{s e:Nat},RunsOk l s e->∀p∈l,s<=p.1/\p.1+p.2<=e
 |(s',n)::l,s,e,⟨h1,h2,h3⟩,p,hp=>by
  have hl:=RunsOk.le h3;rcases Qv.mp hp with z | z
  ·subst z;show s<=s'/\s'+n<=e;omega
  ·have:=RunsOk.mem h3 p z;omega
def sn(p:Nat×Nat×Nat):Nat×Nat:=(p.1,p.2.1)
def Y4(st:JX):List (Nat×Nat):=(pendingOf st).toList.map sn
section
variable{prog:QC}{w:Ja}{A:Q2}{E:Value->Shared->Prop}{s:Shared}{a₀:Array Keyed}{κ:Yd}{c:Keyed->Keyed->Bool}
structure RI (κ:Yd) (a₀:Array Keyed) (c:Keyed->Keyed->Bool) (lo:Nat) (st:JX):Prop where
 sb:SB κ a₀ st
 runs:RunsOk (Y4 st) 0 lo
 srt:∀p∈Y4 st,Sg c (arrOf st) p.1 (p.1+p.2)
 le:lo<=a₀.size
theorem Sg.same{xs ys:Array Keyed}{u v:Nat}(h:Sg c xs u v)(k:∀n,u<=n->n<v->kx ys n=kx xs n):Sg c ys u v:=λi j hi hij hj=>by
 rw[k i hi (by omega),k j (by omega) hj];exact h i j hi hij hj
theorem Qvu{l:List (Nat×Nat×Nat)}{i:Nat}(h:i+1<l.length):∃l1 x y l2,l=l1++x::y::l2/\l1.length=i:=by
 refine⟨l.take i,l[i],l[i+1],l.drop (i+2),?_,by rw[Jr];omega⟩;rw[<- Qaa,<- Qaa,Jn]
theorem Qdm{st:JX}{lo i hi:Nat}{Q:Bool->JX->Prop}(hA:Asks prog w A s κ a₀ c)(ri:RI κ a₀ c lo st)(hi':i+1<(pendingOf st).size)
  (h:∀st',RI κ a₀ c lo st'->(pendingOf st').size+1=(pendingOf st).size->(∀n,lo<=n->kx (arrOf st') n=kx (arrOf st) n)->Q true st'):wpS (model prog w) A E s (mergeAt' i) Q st:=by
 obtain⟨l1,⟨u,n,pw⟩,⟨v,m,pw2⟩,l2,el,ll⟩:=Qvu (l:=(pendingOf st).toList) (i:=i) (by rw[Qc];exact hi');have er:Y4 st=l1.map sn++(u,n)::(v,m)::l2.map sn:=by unfold Y4;rw[el,Zu];rfl
 have r0:=ri.runs;rw[er] at r0;obtain⟨q,ra,rb⟩:=RunsOk.app.mp r0;obtain⟨g1,g2,g3,g4,g5⟩:=rb;subst g1;subst g3;have e1:(pendingOf st)[i]? = some (u,n,pw):=by
  rw[<- Q8,el,Ji (by omega),ll,Qfb];rfl
 have e2:(pendingOf st)[i+1]? = some (u+n,m,pw2):=by
  rw[<- Q8,el,Ji (by omega),ll,show i+1 - i=1 by omega];rfl
 have le5:=RunsOk.le g5;have le1:=ri.le;refine Qib hA ri.sb e1 e2 g2 g4 (by omega) (ri.srt (u,n) (by rw[er];simp)) (ri.srt (u+n,m) (by rw[er];simp)) λst' mg=>?_
 have ep:(pendingOf st').toList=l1++(u,n+m,pw)::l2:=by
  rw[mg.pend,Array.toList_eraseIdxIfInBounds,QgI,el,List.set_append_right _ _ (by omega),ll,Qfb,List.set_cons_zero,List.eraseIdx_append_of_length_le (by omega),ll,show i+1 - i=1 by omega];rfl
 have er':Y4 st'=l1.map sn++(u,n+m)::l2.map sn:=by unfold Y4;rw[ep,Zu];rfl
 refine h st' ⟨mg.sb,?_,λp hp=>?_,ri.le⟩ ?_ λk hk=>mg.out k (.inr (by omega))
 ·rw[er'];exact RunsOk.app.mpr ⟨u,ra,rfl,by omega,by rw[show u+(n+m)=u+n+m by omega];exact g5⟩
 ·rw[er'] at hp;rcases Js.mp hp with z | z
  ·have b:=RunsOk.mem ra p z;exact(ri.srt p (by rw[er];exact Y2 _ z)).same λk k1 k2=>mg.out k (.inl (by omega))
  ·rcases Qv.mp z with z | z
   ·subst z;show Sg c (arrOf st') u (u+(n+m));rw[show u+(n+m)=u+n+m by omega];exact mg.sg
   ·have b:=RunsOk.mem g5 p z;exact(ri.srt p (by rw[er];exact Q0 _ (Q7 _ (Q7 _ z)))).same λk k1 k2=>mg.out k (.inr (by omega))
 ·rw[<- Qc,<- Qc,ep,el,Qw,Qw,Qy,Qy,Qy];omega
theorem RI.pow{st:JX}{lo:Nat}(r:RI κ a₀ c lo st)(i pw:Nat):RI κ a₀ c lo (setPending st ((pendingOf st).modify i λx=>(x.1,x.2.1,pw))):=by
 have er:Y4 (setPending st ((pendingOf st).modify i λx=>(x.1,x.2.1,pw)))=Y4 st:=by
  show((pendingOf st).modify i λx=>(x.1,x.2.1,pw)).toList.map sn=(pendingOf st).toList.map sn;rw[Array.toList_modify];apply QaA
  intro j;rw[Qz,Qz,List.getElem?_modify];cases(pendingOf st).toList[j]? with
  |none=>rfl
  |some p=>
   show some (sn (if i=j then _ else p))=some (sn p);split<;>rfl
 exact⟨⟨r.sb.perm,r.sb.kind,r.sb.failed⟩,by rw[er];exact r.runs,by rw[er];exact r.srt,r.le⟩
theorem Qh8{st:JX}{Q:Unit->JX->Prop}(hA:Asks prog w A s κ a₀ c)(hB:SB κ a₀ st)(hp:pendingOf st=#[])
  (h:∀st',SB κ a₀ st'->Sg c (arrOf st') 0 a₀.size->Q () st'):wpS (model prog w) A E s sortRuns' Q st:=by
 rw[sortRuns'_eq];refine Ql (Qci ?_)
 dsimp only
 rw[hB.size];have ri0:RI κ a₀ c 0 st:=⟨hB,by unfold Y4;rw[hp];rfl,λp h=>by unfold Y4 at h;rw[hp] at h;simp at h,Qu _⟩;refine Ql (Yx (JZ (I:=λx z st'=>∃lo,z=(none,lo)/\RI κ a₀ c lo st'/\(x<=lo∨lo=a₀.size)) (Q:=λz st'=>z=(none,a₀.size)/\RI κ a₀ c a₀.size st') ?step ?fin ⟨0,rfl,ri0,.inl (Qj _)⟩) ?post)
 case fin=>
  rintro z st' ⟨lo,rfl,ri,hx⟩;have:=ri.le;have e:lo=a₀.size:=by omega
  subst e;exact⟨rfl,ri⟩
 case step=>
  rintro x z st' _ hx ⟨lo,rfl,ri,hxl⟩
  dsimp only
  have hle:=ri.le;by_cases z0:lo≥a₀.size
  ·rw[if_pos z0];have e:lo=a₀.size:=by omega
   subst e;exact Qm ⟨rfl,ri⟩
  ·rw[if_neg z0];refine Ql (QfN hA (by omega) (by omega) ri.sb λm st1 f1 m1 m2 sg1=>?_)
   dsimp only
   have ri1:RI κ a₀ c lo st1:=⟨f1.sb,by unfold Y4;rw[f1.pend];exact ri.runs,λp hp=>by
    unfold Y4 at hp;rw[f1.pend] at hp;have b:=RunsOk.mem ri.runs p hp;exact(ri.srt p hp).same λk k1 k2=>f1.low k (by omega),hle⟩
   have push:∀(n:Nat)(st2:JX),RI κ a₀ c lo st2->1<=n->lo+n<=a₀.size->Sg c (arrOf st2) lo (lo+n)->RI κ a₀ c (lo+n) (setPending st2 ((pendingOf st2).push (lo,n,0))):=λn st2 r2 n1 n2 sg=>by
    have er:Y4 (setPending st2 ((pendingOf st2).push (lo,n,0)))=Y4 st2++[(lo,n)]:=by
     show((pendingOf st2).push (lo,n,0)).toList.map sn=_;rw[QbK,Zu];rfl
    refine⟨⟨r2.sb.perm,r2.sb.kind,r2.sb.failed⟩,by rw[er];exact RunsOk.app.mpr ⟨lo,r2.runs,rfl,n1,rfl⟩,λp hp=>?_,n2⟩;rw[er] at hp;rcases Js.mp hp with z | z
    ·exact r2.srt p z
    ·rw[Jj.mp z];exact sg
   by_cases zm:m<minRun' a₀.size a₀.size 0
   ·rw[if_pos zm];refine Ql (Qec (wpAny_rule ⟨rfl,?_⟩));refine Ql (Qet hA (by omega) m1 (by omega) f1.sb sg1 λst2 f2 sg2=>?_);simp only[Qyb,Zw,if_false];have ri2:RI κ a₀ c lo st2:=⟨f2.sb,by unfold Y4;rw[f2.pend];exact ri1.runs,λp hp=>by
     unfold Y4 at hp;rw[f2.pend] at hp;have b:=RunsOk.mem ri1.runs p hp;exact(ri1.srt p hp).same λk k1 k2=>f2.low k (by omega),hle⟩
    refine Ql (Qci ?_);cases hb:(pendingOf st2).back? with
    |none=>
     dsimp only
     exact Ql (Qat (Qm ⟨_,rfl,push _ st2 ri2 (by omega) (by omega) sg2,by omega⟩))
    |some bb=>
     obtain⟨s1,s2,s3⟩:=bb
     dsimp only
     refine Ql (Yx (JZ (I:=λ_ z st3=>z=(none,())/\RI κ a₀ c lo st3/\Sg c (arrOf st3) lo (lo+min (a₀.size - lo) (minRun' a₀.size a₀.size 0))) (Q:=λz st3=>z=(none,())/\RI κ a₀ c lo st3/\Sg c (arrOf st3) lo (lo+min (a₀.size - lo) (minRun' a₀.size a₀.size 0))) ?stepA (λ_ _ q=>q) ⟨rfl,ri2,sg2⟩) ?postA)
     case stepA=>
      rintro y z st3 _ hy ⟨rfl,r3,g3⟩;refine Ql (Qci ?_);by_cases z5:(pendingOf st3).size > 1
      ·rw[if_pos z5,getElem?_pos (pendingOf st3) ((pendingOf st3).size - 2) (by omega)];generalize (pendingOf st3)[(pendingOf st3).size - 2]'(by omega)=pp;obtain⟨q1,q2,q3⟩:=pp
       dsimp only
       split
       ·exact Qm ⟨rfl,r3,g3⟩
       ·refine Ql (Qdm (hi:=0) hA r3 (by omega) λst4 r4 sz k4=>?_);exact Qm ⟨rfl,r4,g3.same λk k1 _=>k4 k k1⟩
      ·rw[if_neg z5];exact Qm ⟨rfl,r3,g3⟩
     case postA=>
      rintro z st3 ⟨rfl,r3,g3⟩
      dsimp only
      refine Ql (Qat (Ql (Qat (Qm ⟨_,rfl,push _ _ (r3.pow _ _) (by omega) (by omega) g3,by omega⟩))))
   ·rw[if_neg zm];refine Ql (Qci ?_);cases hb:(pendingOf st1).back? with
    |none=>
     dsimp only
     exact Ql (Qat (Qm ⟨_,rfl,push _ st1 ri1 m1 (by omega) sg1,by omega⟩))
    |some bb=>
     obtain⟨s1,s2,s3⟩:=bb
     dsimp only
     refine Ql (Yx (JZ (I:=λ_ z st3=>z=(none,())/\RI κ a₀ c lo st3/\Sg c (arrOf st3) lo (lo+m)) (Q:=λz st3=>z=(none,())/\RI κ a₀ c lo st3/\Sg c (arrOf st3) lo (lo+m)) ?stepA (λ_ _ q=>q) ⟨rfl,ri1,sg1⟩) ?postA)
     case stepA=>
      rintro y z st3 _ hy ⟨rfl,r3,g3⟩;refine Ql (Qci ?_);by_cases z5:(pendingOf st3).size > 1
      ·rw[if_pos z5,getElem?_pos (pendingOf st3) ((pendingOf st3).size - 2) (by omega)];generalize (pendingOf st3)[(pendingOf st3).size - 2]'(by omega)=pp;obtain⟨q1,q2,q3⟩:=pp
       dsimp only
       split
       ·exact Qm ⟨rfl,r3,g3⟩
       ·refine Ql (Qdm (hi:=0) hA r3 (by omega) λst4 r4 sz k4=>?_);exact Qm ⟨rfl,r4,g3.same λk k1 _=>k4 k k1⟩
      ·rw[if_neg z5];exact Qm ⟨rfl,r3,g3⟩
     case postA=>
      rintro z st3 ⟨rfl,r3,g3⟩
      dsimp only
      refine Ql (Qat (Ql (Qat (Qm ⟨_,rfl,push _ _ (r3.pow _ _) m1 (by omega) g3,by omega⟩))))
 case post=>
  rintro z st' ⟨rfl,ri⟩
  dsimp only
  refine Ql (Yx (JZ (I:=λx z st3=>z=(none,())/\RI κ a₀ c a₀.size st3/\((pendingOf st3).size+x<=a₀.size∨(pendingOf st3).size<=1)) (Q:=λz st3=>z=(none,())/\RI κ a₀ c a₀.size st3/\(pendingOf st3).size<=1) ?stepB ?finB ⟨rfl,ri,.inl ?initB⟩) ?postB)
  case initB=>
   have:=RunsOk.le ri.runs;unfold Y4 at this;rw[Qe,Qc] at this;omega
  case finB=>
   rintro z st3 ⟨rfl,r3,hx⟩;exact⟨rfl,r3,by omega⟩
  case stepB=>
   rintro x z st3 _ hx ⟨rfl,r3,hs⟩;refine Ql (Qci ?_);by_cases z5:(pendingOf st3).size<=1
   ·rw[if_pos z5];exact Qm ⟨rfl,r3,z5⟩
   ·rw[if_neg z5];have key:∀i,i+1<(pendingOf st3).size->wpS (model prog w) A E s (mergeAt' i) (λb st4=>b=true/\RI κ a₀ c a₀.size st4/\(pendingOf st4).size+1=(pendingOf st3).size) st3:=λi hi=>Qdm (hi:=0) hA r3 hi λst4 r4 sz _=>⟨rfl,r4,sz⟩
    refine Ql (Yx (key _ ?_) ?_)
    ·have ii:∀{p:Prop}[Decidable p],(if p then(pendingOf st3).size - 2 - 1 else(pendingOf st3).size - 2)+1<(pendingOf st3).size:=by intro p _;split<;>omega
     exact ii
    ·rintro bb st4 ⟨rfl,r4,sz⟩;exact Qm ⟨rfl,r4,by omega⟩
  case postB=>
   rintro z st3 ⟨rfl,r3,hs⟩;refine Qm (h st3 r3.sb ?_);have rr:=r3.runs;have hl:(Y4 st3).length<=1:=by unfold Y4;rw[Qe,Qc];exact hs
   have hsr:=r3.srt;cases er:Y4 st3 with
   |nil=>
    rw[er] at rr;rw[<- (show 0=a₀.size from rr)];exact λi j hi hij hj=>by omega
   |cons p l=>
    rw[er] at rr hl hsr;cases l with
    |cons p' l'=>simp at hl
    |nil=>
     obtain⟨g1,g2,g3⟩:=rr;have:=hsr p (Jj.mpr rfl);rw[g1,(show 0+p.2=a₀.size from g3)] at this;exact this
end
end Rt
namespace L2
def blk(X:Cx)(M:List Str)(scope:YM)(cl:List (Str×Addr))(ex:List Addr)(s3:Shared)(H3:Hp)(C:Addr):Cx where
 prog:=X.prog
 w:=X.w
 K:=X.K
 mg:=X.mg
 base:=X.base
 A:=X.A
 N:=M
 s₀:=s3
 H₀:=H3
 env:=compEnvC scope cl C X.env
 outer:=X.stack
 stack:=X.stack
 ex:=ex
 fn:=λ_=>false
 calm:=X.calm
 pn:=[]
 xe:=λ_ _=>False
def QbE(env:Env):List (Str×Qa0)->List (Str×Addr)->List (Str×Addr)
 |[],acc=>acc
 |(n,k)::r,acc=>QbE env r (if k=.free then(n,(env.cells.lookup n).getD 0)::acc else acc)
theorem QiQ{env:Env}:∀(l:List (Str×Qa0))(acc:List (Str×Addr)),(∀x∈l,x.2=.free->∃c,env.cells.lookup x.1=some c) ->
  (forIn (m:=Sem) l acc λx cs=>(if(x.2 == Jh)=true then do let a <- cellOf env x.1;pure (JY ((x.1,a)::cs)) else pure (JY cs)))=pure (QbE env l acc)
 |[],acc,_=>rfl
 |(n,k)::r,acc,h=>by
  rw[QgG];by_cases hk:k=.free
  ·subst hk;obtain⟨c,hc⟩:=h (n,.free) JM rfl;have e1:cellOf env n=pure c:=by unfold cellOf;rw[hc]
   have e2:QbE env ((n,.free)::r) acc=QbE env r ((n,c)::acc):=by
    show QbE env r (if Jh=.free then(n,(env.cells.lookup n).getD 0)::acc else acc)=_;rw[if_pos rfl,hc];rfl
   rw[e2];show((if(Jh == Jh)=true then do let a <- cellOf env n;pure (JY ((n,a)::acc)) else pure (JY acc)) >>= _)=_;rw[if_pos (show(Jh == Jh)=true by decide),e1];exact QiQ r _ λx hx=>h x (Q7 _ hx)
  ·have hb:(k == Jh)=false:=by simpa using hk
   have e2:QbE env ((n,k)::r) acc=QbE env r acc:=by
    show QbE env r (if k=.free then(n,(env.cells.lookup n).getD 0)::acc else acc)=_;rw[if_neg hk]
   rw[e2];show((if(k == Jh)=true then _ else pure (JY acc)) >>= _)=_;rw[hb,if_neg QJ];exact QiQ r _ λx hx=>h x (Q7 _ hx)
theorem Qgt{scope:YM}{env:Env}(h:∀x∈scope.names,x.2=.free->∃c,env.cells.lookup x.1=some c):closureFor scope env=pure (QbE env scope.names []):=by
 have e:=QiQ (env:=env) scope.names [] h;unfold closureFor;show(forIn scope.names [] _ >>= _)=_;have e':(forIn (m:=Sem) scope.names ([]:List (Str×Addr)) λx cs=>match x with | (name,kind)=>(if(kind == Jh)=true then do let a <- cellOf env name;pure (JY ((name,a)::cs)) else pure (JY cs)))=pure (QbE env scope.names []):=e
 first
  |(rw[e'];rfl)
  |(refine Eq.trans (congrArg (λt=>t >>= _) e') ?_;rfl)
theorem QiR{env:Env}:∀(l:List (Str×Qa0))(acc:List (Str×Addr)),(∀x∈l,x.2=.free->∃c,env.cells.lookup x.1=some c)->(∀x c,acc.lookup x=some c->env.cells.lookup x=some c) ->
  (∀x c,(QbE env l acc).lookup x=some c->env.cells.lookup x=some c)/\(∀x c,acc.lookup x=some c->(QbE env l acc).lookup x=some c)/\∀x,(x,Jh)∈l->∃c,(QbE env l acc).lookup x=some c
 |[],acc,_,ha=>⟨ha,λ_ _ h=>h,λ_ h=>nomatch h⟩
 |(n,k)::r,acc,h,ha=>by
  have hr:∀x∈r,x.2=.free->∃c,env.cells.lookup x.1=some c:=λx hx=>h x (Q7 _ hx)
  by_cases hk:k=.free
  ·subst hk;obtain⟨c,hc⟩:=h (n,.free) JM rfl;have e2:QbE env ((n,.free)::r) acc=QbE env r ((n,c)::acc):=by
    show QbE env r (if Jh=.free then(n,(env.cells.lookup n).getD 0)::acc else acc)=_;rw[if_pos rfl,hc];rfl
   rw[e2];have ha':∀x c',((n,c)::acc).lookup x=some c'->env.cells.lookup x=some c':=λx c' q=>by
    rw[Jq] at q;cases hx:x == n with
    |true=>
     rw[hx] at q;have z:c=c':=QB q;have y:x=n:=by simpa using hx
     rw[y,<- z];exact hc
    |false=>rw[hx] at q;exact ha x c' q
   obtain⟨i1,i2,i3⟩:=QiR r ((n,c)::acc) hr ha';refine⟨i1,λx c' q=>?_,λx hx=>?_⟩
   ·refine i2 x c' ?_
    rw[Jq];cases hx:x == n with
    |true=>
     have y:x=n:=by simpa using hx
     have:=ha x c' q;rw[y,hc] at this;exact this
    |false=>exact q
   ·rcases Qv.mp hx with z | z
    ·cases z;exact⟨c,i2 n c (by rw[Jq,beq_self_eq_true])⟩
    ·exact i3 x z
  ·have e2:QbE env ((n,k)::r) acc=QbE env r acc:=by
    show QbE env r (if k=.free then(n,(env.cells.lookup n).getD 0)::acc else acc)=_;rw[if_neg hk]
   rw[e2];obtain⟨i1,i2,i3⟩:=QiR r acc hr ha;refine⟨i1,i2,λx hx=>?_⟩;rcases Qv.mp hx with z | z
   ·cases z;exact absurd rfl hk
   ·exact i3 x z
theorem Qcb{l:List (Str×Qa0)}{x:Str}{k:Qa0}(h:l.lookup x=some k):(x,k)∈l:=by
 induction l with
 |nil=>cases h
 |cons p r ih=>
  obtain⟨n,q⟩:=p;rw[Jq] at h;cases hx:x == n with
  |true=>
   rw[hx] at h;have y:x=n:=by simpa using hx
   have z:q=k:=QB h;subst y z;exact JM
  |false=>rw[hx] at h;exact Q7 _ (ih h)
theorem Qba{env:Env}:∀{names:List (Str×Qa0)}{x:Str}{k:Qa0},(names.map λ(n,k)=>if(k == Jh&&env.scope.kind == .function&&env.kindOf n == some .cell) then(n,YC) else(n,k)).lookup x=some k ->
  names.lookup x=some k∨(k=.cell/\names.lookup x=some .free)
 |[],x,k,h=>by cases h
 |(n,q)::r,x,k,h=>by
  have ih:=@Qba env r x k;rw[Jd] at h;have h':QgE x ((if(q == Jh&&env.scope.kind == .function&&env.kindOf n == some .cell)=true then(n,YC) else(n,q))::_)=some k:=h;cases hx:x == n with
  |true=>
   by_cases hc:(q == Jh&&env.scope.kind == .function&&env.kindOf n == some .cell)=true
   ·rw[if_pos hc,Jq,hx] at h';have z:YC=k:=QB h';have y:q=.free:=by simp at hc;exact hc.1.1
    refine .inr ⟨z.symm,?_⟩;rw[Jq,hx,y]
   ·rw[if_neg hc,Jq,hx] at h';refine .inl ?_
    rw[Jq,hx];exact h'
  |false=>
   have h2:QgE x (r.map λ(n,k)=>if(k == Jh&&env.scope.kind == .function&&env.kindOf n == some .cell) then(n,YC) else(n,k))=some k:=by
    by_cases hc:(q == Jh&&env.scope.kind == .function&&env.kindOf n == some .cell)=true
    ·rw[if_pos hc,Jq,hx] at h';exact h'
    ·rw[if_neg hc,Jq,hx] at h';exact h'
   rw[Jq,hx];exact ih h2
theorem relabel_free{env:Env}:∀{names:List (Str×Qa0)}{x:Str},names.lookup x=some .free->(names.map λ(n,k)=>if(k == Jh&&env.scope.kind == .function&&env.kindOf n == some .cell) then(n,YC) else(n,k)).lookup x=some .cell ∨
   (names.map λ(n,k)=>if(k == Jh&&env.scope.kind == .function&&env.kindOf n == some .cell) then(n,YC) else(n,k)).lookup x=some .free
 |[],x,h=>by cases h
 |(n,q)::r,x,h=>by
  have ih:=@relabel_free env r x;rw[Jd];show QgE x ((if(q == Jh&&env.scope.kind == .function&&env.kindOf n == some .cell)=true then(n,YC) else(n,q))::_)=some .cell∨QgE x ((if(q == Jh&&env.scope.kind == .function&&env.kindOf n == some .cell)=true then(n,YC) else(n,q))::_)=some .free;cases hx:x == n with
  |true=>
   rw[Jq,hx] at h;have z:q=Jh:=QB h;subst z;by_cases hc:(Jh == Jh&&env.scope.kind == .function&&env.kindOf n == some .cell)=true
   ·rw[if_pos hc,Jq,hx];exact .inl rfl
   ·rw[if_neg hc,Jq,hx];exact .inr rfl
  |false=>
   rw[Jq,hx] at h;by_cases hc:(q == Jh&&env.scope.kind == .function&&env.kindOf n == some .cell)=true
   ·rw[if_pos hc,Jq,hx];exact ih h
   ·rw[if_neg hc,Jq,hx];exact ih h
def QeV(N:List Str)(sc:YM)(M:List Str)(scope:YM)(cap:List (Option Nat)):Bool:=
 cap.length == M.length&&(M.zip cap).all (λ(x,o)=>match o with
  |none=>scope.names.lookup x == some .local
  |some j=>N[j]? == some x&&(scope.names.lookup x == some .free&&(sc.names.lookup x == some .cell||sc.names.lookup x == some .free))) &&
 (scope.kind == .function&&scope.names.all λy=>y.2 != .cell&&((y.2 != .free||(sc.names.lookup y.1 == some .cell||sc.names.lookup y.1 == some .free))&&(y.2 != .local||scope.names.lookup y.1 == some .local)))
def Qdg(cap:List (Option Nat))(σ:St):St:=cap.map λo=>match o with
 |none=>none
 |some j=>(σ[j]?).getD none
structure CapOk (N:List Str) (sc:YM) (M:List Str) (scope:YM) (cap:List (Option Nat)):Prop where
 len:cap.length=M.length
 own:∀(i j:Nat)(x:Str),M[i]? = some x->cap[i]? = some (some j)->N[j]? = some x/\scope.names.lookup x=some .free/\(sc.names.lookup x=some .cell∨sc.names.lookup x=some .free)
 kind:scope.kind=.function
 cell:∀y∈scope.names,y.2≠.cell
 free:∀y∈scope.names,y.2=.free->sc.names.lookup y.1=some .cell∨sc.names.lookup y.1=some .free
 loc:∀y∈scope.names,y.2=.local->scope.names.lookup y.1=some .local
theorem CapOk.of{N:List Str}{sc:YM}{M:List Str}{scope:YM}{cap:List (Option Nat)}(h:QeV N sc M scope cap=true):CapOk N sc M scope cap:=by
 unfold QeV at h;simp only[JS,Zi,beq_iff_eq] at h;obtain⟨⟨h1,h2⟩,h3,h4⟩:=h;refine⟨h1,λi j x e1 e2=>?_,h3,λy hy z=>?_,λy hy z=>?_,λy hy z=>?_⟩
 ·have hm:(x,some j)∈M.zip cap:=by
   have:(M.zip cap)[i]? = some (x,some j):=by rw[List.getElem?_zip_eq_some];exact⟨e1,e2⟩
   exact QK this
  have:=h2 _ hm;simp only[JS,beq_iff_eq,QuX] at this;exact this
 ·have:=(h4 y hy).1;simp[z] at this
 ·have:=(h4 y hy).2.1
  simpa [z] using this
 ·have:=(h4 y hy).2.2
  simpa [z] using this
section
variable{X:Cx}{pins:List (Addr×Obj)}{σ:St}{H H3:Hp}{s3:Shared}{M:List Str}{scope:YM}{cap:List (Option Nat)}{fp:List Addr}{h4:Heap}{t4:Nat}
theorem Cx.Ok.cells(ok:X.Ok){N:List Str}(c:CapOk N X.env.scope M scope cap):∀y∈scope.names,y.2=.free->∃d,X.env.cells.lookup y.1=some d:=λy hy z=>ok.has y.1 (c.free y hy z)
theorem Qc4(I:Inv X pins σ H3 s3)(c:CapOk X.N X.env.scope M scope cap)(hf:∀b∈fp,FpOk X pins H3 b)(hb:∀b∈fp,b<s3.heap.objs.size)
  (hn:h4.Ns s3.heap.objs.size λ_=>none)(hk:∀b o,s3.heap.get? b=some o->h4.get? b=some o) :
  Inv (blk X M scope (QbE X.env scope.names []) fp s3 H3 s3.heap.objs.size) [] (Qdg cap σ) H3 { s3 with heap:=h4,toks:=t4 }:=by
 obtain⟨c1,c2,c3⟩:=QiR scope.names [] (I.ok.cells c) (λx d q=>by cases q);refine⟨⟨I.ok.mod,c.kind,I.ok.glob,I.ok.blt,Qj _,λx y d e1 e2=>I.ok.inj x y d (c1 x d e1) (c1 y d e2),λx hx=>?_,(λx d z=>nomatch z),I.ok.hd,I.ok.frames,.inl rfl,λb hb'=>?_,I.bs,
  Jb I.ok.bsz I.sz,λb o e z=>?_,λb hb' z=>?_,I.stack,I.stkFree⟩,rfl,I.bare,Un.kept hk,⟨_,hn,λi x v e1 e2 e3=>?_⟩,λx d e=>?_,I.hok.fresh (Qj _),λx d e=>I.freeC x d (c1 x d e),λp hp=>(nomatch hp),I.hok.kept hk,?_⟩
 ·have hx':(relabel scope X.env).names.lookup x=some .cell∨(relabel scope X.env).names.lookup x=some .free:=hx;rcases hx' with q | q
  ·rcases Qba q with z | ⟨_,z⟩
   ·exact absurd rfl (c.cell _ (Qcb z))
   ·exact c3 x (Qcb z)
  ·rcases Qba q with z | ⟨z,_⟩
   ·exact c3 x (Qcb z)
   ·cases z
 ·obtain⟨f0,f1,f2,f3,f4,f5⟩:=hf b hb';exact⟨QF (hb b hb'),λx d e=>f4 x d (c1 x d e)⟩
 ·obtain⟨f0,f1,f2,f3,f4,f5⟩:=hf b z;rcases f3 with q | q
  ·exact I.ok.noex b o e q
  ·exact absurd (QR (Qp e) (Jb I.ok.bsz q)) (Ym _)
 ·obtain⟨f0,f1,f2,f3,f4,f5⟩:=hf b hb';rcases Qv.mp (I.stkSub b z) with q | q
  ·exact f1 q
  ·exact f2 q
 ·have e2':(cap.map λo=>match o with | none=>none | some j=>(σ[j]?).getD none)[i]? = some (some v):=e2;rw[Qz] at e2';cases q:cap[i]? with
  |none=>rw[q] at e2';cases e2'
  |some o=>
   rw[q] at e2';cases o with
   |none=>cases e2'
   |some j=>
    have e4:(σ[j]?).getD none=some v:=QB e2';have e5:σ[j]? = some (some v):=by
     cases r:σ[j]? with
     |none=>rw[r] at e4;cases e4
     |some o=>rw[r] at e4;exact congrArg some e4
    obtain⟨n1,n2,n3⟩:=c.own i j x e1 q;obtain⟨m,hm,hl⟩:=I.loc;obtain⟨u,ru,lk⟩:=hl j x v n1 e5 (n3.elim (λz=>.inr (.inl z)) λz=>.inr (.inr z));refine⟨u,ru,.inr ?_⟩;rcases lk with⟨k1,_⟩ | ⟨_,d,k2,k3⟩
    ·have k1':X.env.scope.names.lookup x=some .local:=k1;rcases n3 with z | z<;>(rw[z] at k1';cases k1')
    ·obtain⟨d',hd'⟩:=c3 x (Qcb n2);have ed:d'=d:=by
      have:=c1 x d' hd';rw[k2] at this;exact(QB this).symm
     subst ed;exact⟨(relabel_free n2:(relabel scope X.env).names.lookup x=some .cell∨(relabel scope X.env).names.lookup x=some .free),d',hd',k3.keeps hk⟩
 ·obtain⟨v,q⟩:=I.cell x d (c1 x d e);exact⟨v,q.keeps hk⟩
 ·show(cap.map _).length=M.length;rw[Qe];exact c.len
theorem Qny{σ':St}{s':Shared}{h':Heap}(I:Inv X pins σ H3 s3)(hf:∀b∈fp,FpOk X pins H3 b)(J:Inv (blk X M scope (QbE X.env scope.names []) fp s3 H3 s3.heap.objs.size) [] σ' H s')(hs:YJ s3.heap.objs.size s'.heap h') :
  Inv X pins σ H { s' with heap:=h' }:=by
 have u:Un (frs X.stack) fp H3 H s3.heap s'.heap:=J.base;have ne:∀b o,s3.heap.get? b=some o->b≠s3.heap.objs.size:=λb o e=>QF (Qp e)
 have hC:H s3.heap.objs.size=none:=J.free;refine I.call' (ch:=fp) (s':={ s' with heap:=h' }) J.os ⟨λb o e n hb hx=>(hs.2 b (ne b o e)).trans (u.keep b o e n hb hx),λb o e n hb hx=>?_,u.free,λb o e hx=>?_,u.tups,u.frzs,u.tbls⟩ (λb o e=>?_) J.bare λb hb=>?_
 ·obtain⟨sl,q⟩:=u.slot b o e n hb hx;exact⟨sl,(hs.2 b (ne b o e)).trans q⟩
 ·obtain⟨o',q⟩:=u.there b o e hx;exact⟨o',(hs.2 b (ne b o e)).trans q⟩
 ·refine(J.hok b o e).stay (λc v hc q=>(hs.2 c ?_).trans q) (λ_ q=>q) λ_ _ q=>q
  rintro rfl;rcases hc with z | z
  ·rw[<- z,hC] at e;cases e
  ·rw[hC] at z;cases z
 ·obtain⟨f0,f1,f2,f3,f4,f5⟩:=hf b hb;exact⟨f3,f1,f4,f5⟩
end
def Wk:St->St->Prop
 |[],[]=>True
 |none::a,_::b=>Wk a b
 |some v::a,some u::b=>v=u/\Wk a b
 |_,_=>False
theorem Wk.len:∀{a b:St},Wk a b->a.length=b.length
 |[],[],_=>rfl
 |none::a,_::b,h=>congrArg (·+1) (Wk.len (a:=a) (b:=b) h)
 |some v::a,some u::b,h=>congrArg (·+1) (Wk.len (a:=a) (b:=b) h.2)
 |[],_::_,h=>h.elim
 |some _::_,[],h=>h.elim
 |none::_,[],h=>h.elim
 |some _::_,none::_,h=>h.elim
theorem Wk.get:∀{a b:St},Wk a b->∀(i:Nat) v,a[i]? = some (some v)->b[i]? = some (some v)
 |[],[],_,i,v,h=>by simp at h
 |none::a,x::b,h,0,v,e=>by simp at e
 |none::a,x::b,h,i+1,v,e=>by
  simp only[Yk] at e ⊢;exact Wk.get (a:=a) (b:=b) h i v e
 |some q::a,some u::b,h,0,v,e=>by
  simp only[Qi0] at e ⊢;rw[<- h.1];exact e
 |some q::a,some u::b,h,i+1,v,e=>by
  simp only[Yk] at e ⊢;exact Wk.get (a:=a) (b:=b) h.2 i v e
 |[],_::_,h,_,_,_=>h.elim
 |some _::_,[],h,_,_,_=>h.elim
 |none::_,[],h,_,_,_=>h.elim
 |some _::_,none::_,h,_,_,_=>h.elim
theorem Inv.wk{X:Cx}{pins:List (Addr×Obj)}{σ σ':St}{H:Hp}{s:Shared}(I:Inv X pins σ H s)(h:Wk σ' σ):Inv X pins σ' H s:=I.weak h.len h.get
def QgZ(J:It)(body:V->Hp->(Hp->Prop)->Prop)(Qn:Hp->Prop)(H:Hp):Prop:=
 ∃W:Nat->Nat->Hp->Prop,(∃m,W 0 m H)/\∀i m H2,W i m H2->(J.stop i H2/\Qn H2)∨(J.go i H2/\∀x H3,J.yld i H2 x H3->body x H3 λH6=>∃m',m'<m/\W (i+1) m' H6)
abbrev Act:=(Shared->Prop)->Shared->Prop
def BodyOk(Y:Cx)(σ:St)(act:Act)(b:Hp->(Hp->Prop)->Prop):Prop:=
 ∀(pins:List (Addr×Obj))(s:Shared)(H:Hp)(k:Hp->Prop)(Q:Shared->Prop),Inv Y pins σ H s->b H k->(∀s' H',Inv Y pins σ H' s'->k H'->Q s')->act Q s
theorem Qc2{Y:Cx}{σ:St}{tg:Q3}{elt:Q3}{gens:List QcR}{scope:YM}{cpos:Pos}{d:Nat}{it D:Addr}{fp:List Addr}{tn:Nat->Heap->Prop}{J:It}{pins:List (Addr×Obj)}{s:Shared}{H:Hp}{body:V->Hp->(Hp->Prop)->Prop}{Qn:Hp->Prop}{R:QnO->Shared->Prop}{act:Value->Act}
  (hc:Y.calm=true)(T:Turn Y.prog Y.w Y.K tg J fp it tn)(st:tn 0 s.heap)(hf:∀b∈fp,FpOk Y pins H b)
  (hturn:∀(Q:PySem.Fin->Shared->Prop)(E:Value->Shared->Prop)(s:Shared),wpAny (model Y.prog Y.w) Y.A (pyNext (.ref it)) (λr s1=>match r with
   |none=>Q (.done .next) s1
   |some v=>wpAny (model Y.prog Y.w) Y.A (letOwnedTupleGo tg (.ref it) v) (λ_ s2=>act v (λs3=>Q (.again (.compLoop (.ListComp elt gens scope cpos) d (.ref it) (.ref D) Y.env)) s3) s2) E s1) E s ->
   wpAny (model Y.prog Y.w) Y.A (compTurn (.ListComp elt gens scope cpos) d (.ref it) (.ref D) Y.env) Q E s)
  (hact:∀(x:V)(u:Value),RelV x u->BodyOk Y σ (act u) (body x))
  (I:Inv Y pins σ H s)(h:QgZ J body Qn H)(hR:∀s' H',Inv Y pins σ H' s'->Qn H'->R (.ok .next) s') :
  codeAny (model Y.prog Y.w) Y.A (.compLoop (.ListComp elt gens scope cpos) d (.ref it) (.ref D) Y.env) R s:=by
 obtain⟨W,⟨m0,w0⟩,turn⟩:=h;have stat:∀{H':Hp},(∀b∈fp,H' b=none)->∀b∈fp,FpOk Y pins H' b:=λhn b hb=>⟨hn b hb,(hf b hb).2⟩
 refine codeAny_loop rfl (λn s'=>∃i H',Inv Y pins σ H' s'/\tn i s'.heap/\(∀b∈fp,H' b=none)/\W i n H') (λn s3 hI=>?_) m0 ⟨0,H,I,st,λb hb=>(hf b hb).1,w0⟩;show wpAny _ Y.A ((compTurn (.ListComp elt gens scope cpos) d (.ref it) (.ref D) Y.env).onRaise (λx=>do noteFrame x Y.env;theTreesLotGoes x)) _ _ s3;refine wpAny_noted (hturn _ _ _ ?_);obtain⟨i,H3,I3,st3,fr3,w3⟩:=hI;rcases turn i n H3 w3 with⟨stop,qn⟩ | ⟨go,step⟩
 ·refine thn (T.done Y rfl rfl rfl hc i pins s3 σ H3 _ I3 (stat fr3) st3 stop) λr s4 ⟨hr,I4⟩=>?_
  subst hr;exact hR s4 H3 I4 qn
 ·refine thn (T.item Y rfl rfl rfl hc i pins s3 σ H3 _ I3 (stat fr3) st3 go) λr s4 ⟨u,hr,h4⟩=>?_
  subst hr;refine thn h4 λ_ s5 ⟨x,H5,I5,r5,y5,st5,fr5⟩=>?_
  have I5':=I5.pinned (stat fr5) (T.obj _ _ st5);refine hact x u r5 _ s5 H5 _ _ I5' (step x H5 y5) λs7 H7 I7 ⟨m',hm,w7⟩=>?_
  refine⟨rfl,m',hm,i+1,H7,I7.unpinned,T.keep _ _ _ st5 λb hb o e=>(I7.pin (b,o) (Q0 _ (Q0 _ (QaH hb e)))).1,λb hb=>?_,w7⟩;obtain⟨o,e,dd⟩:=T.obj _ _ st5 b hb;exact(I7.pin (b,o) (Q0 _ (Q0 _ (QaH hb e)))).2.1
abbrev Qie (ifs:List Q3) (env:Env):Sem Bool:=forIn ifs true λc r=>if r=true then do let ok <- isTrue c env (eval c env);pure (JY ok) else pure (JY r)
def PTs(Y:Cx)(ifs:List Q3)(t:TT):Prop:=
 ∀(pins:List (Addr×Obj))(s:Shared)(σ:St)(H:Hp)(Q:Bool->Hp->Prop),Inv Y pins σ H s->t σ H Q->wpAny (model Y.prog Y.w) Y.A (Qie ifs Y.env) (TP Y pins σ Q) Y.xe s
def Qif:TT:=λ_ H Q=>Q true H
theorem QlT{Y:Cx}:PTs Y [] Qif:=λpins s σ H Q I h=>wpAny_tests_nil ⟨H,I,h⟩
theorem QlS{Y:Cx}{c:Q3}{t:TT}(h:PT Y c t):PTs Y [c] t:=λpins s σ H Q I q=>wpAny_tests_one (h pins s σ H Q I q)
def QnG(Y:Cx)(tg:Q3)(ifs:List Q3)(inner:Act):Value->Act:=λu Q s=>
 wpAny (model Y.prog Y.w) Y.A (assign tg Y.env u) (λ_ s4=>wpAny (model Y.prog Y.w) Y.A (Qie ifs Y.env) (λok s5=>if ok=true then inner Q s5 else Q s5) (λ_ _=>False) s4) (λ_ _=>False) s
def bOf(σ:St)(g:TG)(tc:TT)(inner:St->Hp->(Hp->Prop)->Prop):V->Hp->(Hp->Prop)->Prop:=λx H k=>g x σ H λσ4 H4=>Wk σ σ4/\tc σ4 H4 λb H5=>
 if b=true then inner σ4 H5 k else k H5
theorem QeW{Y:Cx}{σ:St}{tg:Q3}{ifs:List Q3}{g:TG}{tc:TT}{inner:Act}{ri:St->Hp->(Hp->Prop)->Prop}(hx:Y.xe=λ_ _=>False)(hg:PG Y tg g)(ht:PTs Y ifs tc)(he:∀σ4,BodyOk Y σ4 inner (ri σ4))(x:V)(u:Value)(r:RelV x u) :
  BodyOk Y σ (QnG Y tg ifs inner u) (bOf σ g tc ri x):=by
 intro pins s H k Q I h hQ;have hx':∀(v:Value)(s':Shared),Y.xe v s'->False:=λv s' z=>by rw[hx] at z;exact z
 refine wpAny_mono (hg pins s σ H x u _ I r h) (λ_ s4 ⟨σ4,H4,I4,wk,q4⟩=>?_) hx';refine wpAny_mono (ht pins s4 σ4 H4 _ I4 q4) (λb s5 ⟨H5,I5,q5⟩=>?_) hx';cases b with
 |false=>
  rw[if_neg QJ] at q5;rw[if_neg QJ];exact hQ s5 H5 (I5.wk wk) q5
 |true=>
  rw[if_pos rfl] at q5;rw[if_pos rfl];exact he σ4 pins s5 H5 k Q I5 q5 λs' H' I' k'=>hQ s' H' (I'.wk wk) k'
def QnJ(Y:Cx)(elt:Q3)(D:Addr):Act:=λQ s=>wpAny (model Y.prog Y.w) Y.A (eval elt Y.env) (λv s6=>wpAny (model Y.prog Y.w) Y.A (call (.builtin "list.append") [.ref D,v]) (λ_ s7=>Q s7) (λ_ _=>False) s6) (λ_ _=>False) s
def Qu2(p:Addr)(te:TE):St->Hp->(Hp->Prop)->Prop:=λσ H k=>te σ H λv H6=>∃ys,H6 p=some (.lst ys)/\ys.length<sizeLine/\k (upd H6 p (.lst (ys++[v])))
theorem QgA{Y:Cx}{σ:St}{elt:Q3}{te:TE}{D:Addr}(hx:Y.xe=λ_ _=>False)(he:PE Y elt te):BodyOk Y σ (QnJ Y elt D) (Qu2 D te σ):=by
 intro pins s H k Q I h hQ;have hx':∀(v:Value)(s':Shared),Y.xe v s'->False:=λv s' z=>by rw[hx] at z;exact z
 refine wpAny_mono (he pins s σ H _ I h) (λv s6 ⟨y,H6,I6,r6,ys,e,hz,q⟩=>?_) hx';exact wpAny_mono (Qmt (X:=Y) pins s6 σ H6 (.ref D) [y] (.ref D) [v] (λ_ H'=>k H') I6 rfl (.cons r6 .nil) ⟨D,ys,y,rfl,rfl,e,hz,q⟩) (λ_ s7 ⟨_,H7,I7,_,q7⟩=>hQ s7 H7 I7 q7) hx'
theorem Qi8{Y:Cx}{elt tg iter:Q3}{ifs:List Q3}{scope:YM}{cpos:Pos}{it D:Addr}(Q:PySem.Fin->Shared->Prop)(E:Value->Shared->Prop)(s:Shared)
  (h:wpAny (model Y.prog Y.w) Y.A (pyNext (.ref it)) (λr s1=>match r with
   |none=>Q (.done .next) s1
   |some v=>wpAny (model Y.prog Y.w) Y.A (letOwnedTupleGo tg (.ref it) v) (λ_ s2=>QnG Y tg ifs (QnJ Y elt D) v (λs3=>Q (.again (.compLoop (.ListComp elt [⟨tg,iter,ifs,0⟩] scope cpos) 0 (.ref it) (.ref D) Y.env)) s3) s2) E s1) E s) :
  wpAny (model Y.prog Y.w) Y.A (compTurn (.ListComp elt [⟨tg,iter,ifs,0⟩] scope cpos) 0 (.ref it) (.ref D) Y.env) Q E s:=by
 rw[compTurn_list];refine wpAny_bind (wpAny_standAt (wpAny_bind (thn h λr s1 h1=>?_)));cases r with
 |none=>exact wpAny_pure h1
 |some v=>
  refine wpAny_bind (thn h1 λ_ s2 h2=>?_);refine wpAny_bind (wpAny_mono h2 (λ_ s4 h4=>wpAny_bind (wpAny_mono h4 (λok s5 h5=>?_) λ_ _ f=>f.elim)) λ_ _ f=>f.elim);cases ok with
  |false=>exact wpAny_pure h5
  |true=>exact wpAny_bind (wpAny_bind (wpAny_mono h5 (λx s6 h6=>wpAny_bind (wpAny_mono h6 (λ_ s7 h7=>wpAny_pure (wpAny_pure h7)) λ_ _ f=>f.elim)) λ_ _ f=>f.elim))
def tComp(cap:List (Option Nat))(wi:TI)(g:TG)(tc:TT)(te:TE):TE:=λσ H Q=>wi σ H λJ H1=>∀p,H1 p=none->QgZ J (bOf (Qdg cap σ) g tc (Qu2 p te)) (Q (.ref p)) (upd H1 p (.lst []))
theorem FpOk.upd{X:Cx}{pins:List (Addr×Obj)}{H:Hp}{b a:Addr}{o:HO}(h:FpOk X pins H b)(hne:b≠a):FpOk X pins (upd H a o) b:=⟨by rw[JG hne];exact h.1,h.2⟩
theorem Qjn{X:Cx}{M:List Str}{cap:List (Option Nat)}{elt tg iter:Q3}{ifs:List Q3}{scope:YM}{pos:Pos}{wi:TI}{g:TG}{tc:TT}{te:TE}(hc:X.calm=true)(ok:QeV X.N X.env.scope M scope cap=true)
  (hi:PI X tg iter wi)(hb:∀cl ex s3 H3 C,PG (blk X M scope cl ex s3 H3 C) tg g/\PTs (blk X M scope cl ex s3 H3 C) ifs tc/\PE (blk X M scope cl ex s3 H3 C) elt te)
  (hs:∀x,foldedSetIterable iter X.env x=pure x:=by intro _;rfl):PE X (.ListComp elt [⟨tg,iter,ifs,0⟩] scope pos) (tComp cap wi g tc te):=by
 intro pins s σ H Q I h;have c:=CapOk.of ok;rw[eval_ListComp];refine Qau (use:=none) rfl hs (Qgt (I.ok.cells c)) c.kind c.loc ?_
 refine thn (hi pins s σ H _ I h) λv s1 h1=>thn h1 λitv s2 h2=>?_
 obtain⟨it,fp,tn,J,H2,e,I2,T,st2,f2,hW⟩:=h2;subst e;refine JQ (Qbk c.cell (by intro y hy;simp at hy) (λh₁ hns₁ hsb₁=>?_) c.kind);have I3:Inv X pins σ (upd H2 s2.heap.objs.size (.lst [])) { s2 with heap:=s2.heap.push { cls:=.type "list",data:=.seq ([]:List Value).toArray } }:=I2.lnew (t':=s2.toks) (ys:=[]) .nil (Qu _);have lt2:∀b∈fp,b<s2.heap.objs.size:=λb hb=>by obtain⟨o,e,_⟩:=T.obj _ _ st2 b hb;exact Qp e
 have f3:∀b∈fp,FpOk X pins (upd H2 s2.heap.objs.size (.lst [])) b:=λb hb=>(f2 b hb).upd (QF (lt2 b hb))
 generalize hs3:({ s2 with heap:=s2.heap.push { cls:=.type "list",data:=.seq ([]:List Value).toArray } }:Shared)=s3 at I3;have e3:s3.heap=s2.heap.push { cls:=.type "list",data:=.seq ([]:List Value).toArray }:=by rw[<- hs3]
 have z3:s3.heap.objs.size=s2.heap.objs.size+1:=by rw[e3,ZN]
 have hk:∀b o,s3.heap.get? b=some o->h₁.get? b=some o:=λb o e=>hsb₁.extBut b o (by
  have:=Qp e;rw[e3] at this;exact QF this) (Qd _ (e3 ▸ e))
 have hn₁:h₁.Ns s3.heap.objs.size λ_=>none:=by rw[e3];exact hns₁
 have B:=Qc4 (t4:=s3.toks+([]:List (Str×Value)).length) (fp:=fp) I3 c f3 (λb hb=>by rw[z3];exact YY (lt2 b hb)) hn₁ hk;have st4:tn 0 h₁:=T.keep _ _ _ st2 λb hb o e=>hk b o (by rw[e3];exact Qd _ e)
 have fp4:∀b∈fp,FpOk (blk X M scope (QbE X.env scope.names []) fp s3 (upd H2 s2.heap.objs.size (.lst [])) s3.heap.objs.size) [] (upd H2 s2.heap.objs.size (.lst [])) b:=λb hb=>by
  refine⟨(f3 b hb).1,(B.ok.exf b hb).1,B.ok.exfs b hb,.inl hb,(B.ok.exf b hb).2,λp hp=>(nomatch hp)⟩
 obtain⟨hg,ht,he⟩:=hb (QbE X.env scope.names []) fp s3 (upd H2 s2.heap.objs.size (.lst [])) s3.heap.objs.size;have loop:codeAny (model X.prog X.w) X.A (.compLoop (.ListComp elt [⟨tg,iter,ifs,0⟩] scope pos) 0 (.ref it) (.ref s2.heap.objs.size) (compEnvC scope (QbE X.env scope.names []) s3.heap.objs.size X.env))
   (compPost (model X.prog X.w) X.A X.xe none (EP X pins σ Q) (.ref s2.heap.objs.size) s3.heap.objs.size) { s3 with heap:=h₁,toks:=s3.toks+([]:List (Str×Value)).length }:=by
  refine Qc2 (Y:=blk X M scope (QbE X.env scope.names []) fp s3 (upd H2 s2.heap.objs.size (.lst [])) s3.heap.objs.size) (gens:=[⟨tg,iter,ifs,0⟩]) (d:=0) hc T st4 fp4
   (λQ E s h=>Qi8 Q E s h) (λx u r=>QeW rfl hg ht (λσ4=>QgA rfl he) x u r) B (hW _ (I2.hok.fresh (Qj _))) λs' H' I' q=>?_
  obtain⟨m,hn,_⟩:=I'.loc;exact⟨m,hn,λh' hs'=>⟨.ref s2.heap.objs.size,H',Qny I3 f3 I' hs',rfl,q⟩⟩
 exact Qdh loop (T.self _ 0 _ _ _ st4 loop)
section
variable{X:Cx}
theorem QiU:CallR X (.builtin "isinstance") (λxs H Q=>∃x t T b,xs=[x,.ty T]/\TyOf X.K H x t/\PySem.W.kitOne X.K t (.type T)=some b/\Q (.bl b) H):=by
 intro pins s σ H xs us Q I r h;obtain⟨x,t,T,b,rfl,ty,e,q⟩:=h;obtain⟨u,v,rfl,ru,rv⟩:=vals2 r;cases(show v=Z2 T from rv);exact QmE I ru ty e λtk=>⟨.bl b,H,I.tok tk,rfl,q⟩
theorem QpQ{bs:List Bool}:∀{us:List Value},Vals (bs.map V.bl) us->LSm.BoolsAre us bs:=by
 induction bs with
 |nil=>intro us r;cases r;exact .nil
 |cons b bs ih=>
  intro us r;cases r with
  |cons r t=>
   cases(show _=Z3 b from r);exact .cons b (ih t)
theorem Qgy:CallR X (.builtin "all") (λxs H Q=>∃(p:Addr)(bs:List Bool),xs=[.ref p]/\SqL X.K H p (bs.map V.bl)/\X.calm=true/\Q (.bl (bs.all id)) H):=by
 intro pins s σ H xs us Q I r h;obtain⟨p,bs,rfl,hp,hc,q⟩:=h;obtain⟨u,rfl,ru⟩:=vals1 r;cases ru;obtain⟨its,rv,pl,hz⟩:=I.list hp;have hl:=pl.isList;have hb:=QpQ rv;have hlt:p<s.heap.objs.size:=by obtain⟨_,e,_⟩:=hl;exact Qp e
 refine call_all_walk (Qys hl ?_);refine⟨s.heap.objs.size,[s.heap.objs.size,p],[s.heap.objs.size],its.toArray.size,_,_,λi=>(bs[i]?).getD true,rfl,Walks.list (A:=X.A.in1) (I.ok.hd hc) _ p (QF hlt) its.toArray,
  ⟨⟨_,QD _ rfl,rfl,rfl⟩,hl.push _⟩,λi v s' Q' E' hP hQ=>?_,λh' tk hk=>?_⟩
 ·obtain⟨b,e,rfl⟩:=hb.get i v (by simpa using hP);simp only[e,Option.getD_some] at hQ;exact Zc hQ
 ·have e:((Qq its.toArray.size).all λi=>(bs[i]?).getD true)=bs.all id:=by
   rw[Qr,hb.length];exact LSm.range_all bs
  rw[e];exact⟨.bl _,H,I.kept (LSm.kept_iter hk),rfl,q⟩
def Qz4:V->Option Int->Option Int->Hp->VK->Prop:=λx lo hi H Q=>∃a xs,x=.ref a/\H a=some (.tup xs)/\∀p H',Same H H'->H' p=some (.tup (QkZ xs lo hi))->Q (.ref p) H'
theorem JC{H:Hp}{p:Addr}{o:HO}(h:H p=none):Same H (upd H p o):=λb u e=>by rw[JG (Zp e h)];exact e
theorem Qcy{prog:QC}{w:Ja}{A:Q2}{E:Value->Shared->Prop}{s:Shared}{t sl:Addr}{items:Array Value}{vl vu:Value}{lo hi:Option Int}{Q:Value->Shared->Prop}(ht:IsTup s.heap t items)(hs:s.heap.IsSliceOf sl vl vu .none)(pl:QhW vl lo)(pu:QhW vu hi)
  (h1:HT.sIx items.size 0 lo=0)(h2:HT.sIx items.size items.size hi=items.size)(h:Q (.ref t) s):wpAny (model prog w) A (getItem (.ref t) (.ref sl)) Q E s:=by
 obtain⟨os,hos,hcs,hds⟩:=id hs;have hTs:s.TypeIs (.ref sl) "slice" := ⟨os,hos,hcs⟩;unfold getItem
 try with_reducible refine JL ?_
 first | refine wpAny_bind (wpAny_pure ?_) | skip
 refine wpAny_bind (Qyq ht.typeIs (by decide) ?_);refine wpAny_bind (Zd (name:=Qal "__getitem__") ht.typeIs J3
  (JW J3 ht.typeIs Qu9 ?_ (QxY _ _)))
 show wpAny _ _ (QdK (.ref t) >>= _) _ _ s;refine wpAny_bind (tupleItemsOf_ ht ?_);refine wpAny_bind (Qb2 hTs ?_);rw[if_pos (by decide)];refine wpAny_bind (HT.QbB hs pl pu ?_);show wpAny _ _ (if(((HT.sIx items.size 0 lo:Nat):Int) == 0&&(1:Int) == 1&&(HT.sIx items.size items.size hi - HT.sIx items.size 0 lo) == items.size)=true then _ else _) _ _ s;rw[if_pos (by rw[h1,h2];simp)];refine wpAny_bind (m:=QyO _) (wpAny_bind (Qb2 ht.typeIs (wpAny_pure ?_)));rw[if_pos (by decide)];exact wpAny_bind (wpAny_rule (wpAny_pure ⟨_,rfl,wpAny_pure h⟩))
theorem QvF:SlR X Qz4:=by
 intro pins s σ H x v vl vu lo hi sl Q I rx hs pl pu h;obtain⟨a,xs,rfl,hx,q⟩:=h;by_cases hw:HT.sIx xs.length 0 lo=0/\HT.sIx xs.length xs.length hi=xs.length
 ·cases rx;obtain⟨its,r,ht,hz⟩:=I.tuple (SqT.of hx);have hlen:its.toArray.size=xs.length:=by rw[Qr];exact r.length.symm
  refine⟨"tuple",_,J3.lookup,ht.typeIs,?_⟩;refine Qcy ht hs pl pu (by rw[hlen];exact hw.1) (by rw[hlen];exact hw.2) ?_
  refine⟨.ref a,H,I,rfl,q a H (Same.refl H) ?_⟩;have e:QkZ xs lo hi=xs:=by
   unfold QkZ;rw[hw.1,hw.2];simp
  rw[e];exact hx
 ·exact QvE pins s σ H (.ref a) v vl vu lo hi sl Q I rx hs pl pu ⟨a,xs,rfl,SqT.of hx,hw,λp hp=>q p _ (JC hp) JB⟩
def Qv4:R2:=λx y H Q=>∃a b xs ys,x=.ref a/\y=.ref b/\H a=some (.tup xs)/\H b=some (.tup ys)/\xs.length+ys.length<=sizeLine/\∀p H',Same H H'->H' p=some (.tup (xs++ys))->Q (.ref p) H'
theorem QtB:OpR X (binaryOp .Add) Qv4:=by
 intro pins s σ H x y v u Q I rx ry h;obtain⟨a,b,xs,ys,rfl,rfl,ha,hb,hz,q⟩:=h;by_cases hx:xs=[]
 ·subst hx;cases rx;cases ry;obtain⟨its,r1,p1,_⟩:=I.tuple (SqT.of ha);obtain⟨its2,r2,p2,_⟩:=I.tuple (SqT.of hb);cases r1;obtain⟨⟨cls,dd,data,sl⟩,ho,hc,n,hd⟩:=id p1;obtain⟨⟨cls2,dd2,data2,sl2⟩,ho2,hc2,n2,hd2⟩:=id p2;simp only at hc hd hc2 hd2;subst hc hd hc2 hd2;exact Qr9 ⟨_,ho,rfl⟩ ⟨_,ho2,rfl⟩ Qh2 QnU PySem.F.slot_tuple_add PySem.F.entry_tuple_add (PySem.F.args_tuple_add_2 _ _)
   (tuple_addW0 a b #[] its2.toArray n n2 dd dd2 sl sl2 rfl) ⟨ho,ho2,⟨.ref b,H,I,rfl,q b H (Same.refl H) hb⟩⟩
 ·exact QtA pins s σ H _ _ v u Q I rx ry ⟨a,b,xs,ys,rfl,rfl,SqT.of ha,SqT.of hb,hx,hz,λe=>q a H (Same.refl H) (by rw[e,Jt];exact ha),λ_ p hp=>q p _ (JC hp) JB⟩
def QyZ:TE:=λ_ H Q=>∀p,H p=none->Q (.ref p) (upd H p (.dK []))
theorem Qta{pos:Pos}:PE X (.Dict [] [] pos) QyZ:=λpins s σ H Q I h=>by
 refine wpAny_Dict_empty ⟨.ref s.heap.objs.size,_,I.laid (a:=s.heap.objs.size) (o:=.dK []) (t':=s.toks) (λ_ _ q=>Qd _ q) (Qj _) ?_,rfl,h _ (I.hok.fresh (Qj _))⟩;have hb:sysModules<s.heap.objs.size:=Nat.lt_trans (by decide) (I.mod.glob.keeps I.bk).lt;exact⟨Qu _,beq_eq_false_iff_ne.mpr (Qbm (QF hb)),[],.nil,Heap.DictOf.new s.heap⟩
end
end L2
namespace Rz
open Sem (wp)
section
variable{prog:QC}{w:Ja}{A:Q2}{E:Value->Shared->Prop}{s:Shared}
theorem Qem{it t:Addr}{i:Nat}{items:Array Value}{x:Value}{Q:Value->Shared->Prop}(hit:s.heap.IsTupleIter it t i)(ht:s.heap.IsTuple t items)(hx:items[i]? = some x)
  (hQ:∀h',h'.IsTupleIter it t (i+1)->YJ it s.heap h'->Q x { s with heap:=h' }):wpAny (model prog w) A (JK (.ref it)) Q E s:=by
 obtain⟨o,ho,hc,hd⟩:=id hit;obtain⟨ol,hol,_,nl,hdl⟩:=ht;unfold JK;refine wpAny_bind (Zd (name:=Qal "__next__") hit.typeIs Qab
  (JW Qab hit.typeIs Qh7 ?_ (QhX _)))
 show wpAny _ _ (field (.ref it) 0 >>= _) _ _ s;refine wpAny_bind (ZI ho hd (x:=.ref t) rfl ?_);show wpAny _ _ (if(QQ t == JI)=true then _ else _) _ _ s;rw[if_neg (show ¬((QQ t == JI)=true) from QJ)];show wpAny _ _ (field (.ref it) 1 >>= _) _ _ s;refine wpAny_bind (ZI ho hd (x:=.int i 0) rfl ?_);show wpAny _ _ (seqItems? (.ref t) >>= _) _ _ s;refine wpAny_bind (ZY hol hdl ?_);simp only[ZR,hx];refine wpAny_bind (Qcj ho hd (by simp) (wpAny_pure ⟨x,rfl,wpAny_pure (hQ _ ?_ (Zv ..))⟩));exact⟨_,ZH _ ho (QcO (YB hd _)),(Qe4 ..).trans hc,by
  rw[YB hd];simp[rawInt]⟩
theorem QiB{it t:Addr}{i:Nat}{items:Array Value}{Q:Value->Shared->Prop}(hh:A.handled=none)(hit:s.heap.IsTupleIter it t i)(ht:s.heap.IsTuple t items)(hx:items[i]? = none)
  (hE:∀h' e,Heap.ExtBut it s.heap h'->(∃o,h'.get? e=some o/\o.cls=.type "StopIteration")->E (.ref e) { s with heap:=h' }):wpAny (model prog w) A (JK (.ref it)) Q E s:=by
 obtain⟨o,ho,hc,hd⟩:=id hit;obtain⟨ol,hol,_,nl,hdl⟩:=ht;unfold JK;refine wpAny_bind (Zd (name:=Qal "__next__") hit.typeIs Qab
  (JW Qab hit.typeIs Qh7 ?_ (QhX _)))
 show wpAny _ _ (field (.ref it) 0 >>= _) _ _ s;refine wpAny_bind (ZI ho hd (x:=.ref t) rfl ?_);show wpAny _ _ (if(QQ t == JI)=true then _ else _) _ _ s;rw[if_neg (show ¬((QQ t == JI)=true) from QJ)];show wpAny _ _ (field (.ref it) 1 >>= _) _ _ s;refine wpAny_bind (ZI ho hd (x:=.int i 0) rfl ?_);show wpAny _ _ (seqItems? (.ref t) >>= _) _ _ s;refine wpAny_bind (ZY hol hdl ?_);simp only[ZR,hx];refine wpAny_bind (wpAny_rule (wpAny_bind (Qcj ho hd (by simp) ?_)));show wpAny _ _ (newExc (.type "StopIteration") [] >>= _) _ _ _;refine wpAny_bind ?_
 simp only[newExc,newTuple];refine wpAny_bind (JQ ?_ (by size_fits));refine wpAny_bind (m:=firstArgMember _ _) (wpAny_of_eq (a:=JI) (by first | rfl | (simp only[firstArgMember];rfl)) ?_);refine JQ ?_ (by size_fits)
 simp only[raiseNew];refine wpAny_bind (wpAny_handled ?_)
 first | rw[show A.in1.handled=none from hh] | rw[hh]
 refine wpAny_bind (wpAny_pure (wpAny_throw ?_));exact hE _ _ (((Zv ..).extBut.push _).push _) ⟨_,QD _ rfl,rfl⟩
structure Apart (z TI TO i1 i2 t1 t2:Addr):Prop where
 a1:TI≠z
 a2:TO≠z
 a3:i1≠z
 a4:i2≠z
 a5:TI≠TO
 a6:TI≠i1
 a7:TI≠i2
 a8:TO≠i1
 a9:TO≠i2
 b1:i1≠i2
 b2:t1≠z/\t1≠TO/\t1≠i1/\t1≠i2
 b3:t2≠z/\t2≠TO/\t2≠i1/\t2≠i2
structure QnK (h:Heap) (z TI TO i1 i2 t1 t2:Addr) (f:Value) (k:Nat):Prop where
 zp:Qsl h z TI TO f
 ti:IsPair h TI (.ref i1) (.ref i2)
 to:∃a b,IsPair h TO a b
 i1:h.IsTupleIter i1 t1 k
 i2:h.IsTupleIter i2 t2 k
theorem Qmo{z TI TO i1 i2 t1 t2:Addr}{k:Nat}{xs ys:Array Value}{x y:Value}{Q:Option Value->Shared->Prop}(D:Apart z TI TO i1 i2 t1 t2)(Z:QnK s.heap z TI TO i1 i2 t1 t2 .none k)
  (hl1:s.heap.IsTuple t1 xs)(hl2:s.heap.IsTuple t2 ys)(hx:xs[k]? = some x)(hy:ys[k]? = some y)
  (hQ:∀h',QnK h' z TI TO i1 i2 t1 t2 (rawInt s.heap.objs.size) (k+1)->IsPair h' s.heap.objs.size x y->(∀c o,c≠z->c≠TO->c≠i1->c≠i2->s.heap.get? c=some o->h'.get? c=some o)->Q (some (.ref s.heap.objs.size)) { s with heap:=h' }) :
  wpAny (model prog w) A (pyNext (.ref z)) Q E s:=by
 obtain⟨hz,hTI,⟨a,b,hTO⟩,h1,h2⟩:=Z;have hT:s.TypeIs (.ref z) "zip" := ⟨_,hz,rfl⟩;unfold pyNext;refine wpAny_bind (QaD (Zd (name:=Qal "__next__") hT Qdk (JW Qdk hT Qx9 ?_ (Qvl _))));show wpAny _ _ (field (.ref z) 2 >>= _) _ _ _;refine wpAny_bind (ZI hz rfl (x:=.bool false) rfl ?_);show wpAny _ _ (field (.ref z) 3 >>= _) _ _ _;refine wpAny_bind (ZI hz rfl (x:=.ref TI) rfl (wpAny_bind (ZY hTI rfl ?_)));show wpAny _ _ (ZE (.ref z) >>= _) _ _ _;refine wpAny_bind ?_
 unfold ZE;refine wpAny_bind (ZI hz rfl (x:=.none) rfl (wpAny_pure ?_));simp only[if_true];refine wpAny_bind (wpAny_rule (wpAny_bind (ZI hz rfl (x:=.ref TO) rfl (wpAny_bind (YQ hz (by simp) λg1 z1 s1=>?_)))))
 replace z1:Qsl g1 z TI TO .ellipsis:=z1
 refine wpAny_bind ?_
 simp only[Qfd,QuV,QgG,Qvf];refine wpAny_bind (wpAny_bind (QfD ?_));show wpAny _ _ (JK (.ref i1) >>= _) _ _ _;refine wpAny_bind (Qem (h1.extBut s1.extBut D.a3) (hl1.extBut s1.extBut D.b2.1) hx λg2 p2 s2=>wpAny_pure ?_);have o2:IsPair g2 TO a b:=s2.extBut _ _ D.a8 (s1.extBut _ _ D.a2 hTO);refine wpAny_bind (ZY o2 rfl (wpAny_bind (Qeq o2 λg3 o3 s3=>wpAny_bind (Qu6 (wpAny_pure ?_)))))
 replace o3:IsPair g3 TO x b:=o3
 refine wpAny_bind (wpAny_bind (QfD ?_));show wpAny _ _ (JK (.ref i2) >>= _) _ _ _;refine wpAny_bind (Qem (((h2.extBut s1.extBut D.a4).extBut s2.extBut D.b1.symm).extBut s3.extBut D.a9.symm)
  (((hl2.extBut s1.extBut D.b3.1).extBut s2.extBut D.b3.2.2.1).extBut s3.extBut D.b3.2.1) hy λg4 p4 s4=>wpAny_pure ?_)
 have o4:IsPair g4 TO x b:=s4.extBut _ _ D.a9 o3;refine wpAny_bind (ZY o4 rfl (wpAny_bind (Qeq o4 λg5 o5 s5=>wpAny_bind (Qu6 (wpAny_pure (wpAny_pure ?_))))))
 replace o5:IsPair g5 TO x y:=o5
 refine wpAny_bind (ZY o5 rfl (wpAny_bind (Qk1 ?_)));have sz:g5.objs.size=s.heap.objs.size:=by rw[s5.1,s4.1,s3.1,s2.1,s1.1]
 have kp:∀c o,c≠z->c≠TO->c≠i1->c≠i2->s.heap.get? c=some o->g5.get? c=some o:=λc o c1 c2 c3 c4 e=>
  s5.extBut _ _ c2 (s4.extBut _ _ c4 (s3.extBut _ _ c2 (s2.extBut _ _ c3 (s1.extBut _ _ c1 e))))
 have z5:Qsl g5 z TI TO .ellipsis:=s5.extBut _ _ D.a2.symm (s4.extBut _ _ D.a4.symm (s3.extBut _ _ D.a2.symm (s2.extBut _ _ D.a3.symm z1)));have q1:g5.IsTupleIter i1 t1 (k+1):=((p2.extBut s3.extBut D.a8.symm).extBut s4.extBut D.b1).extBut s5.extBut D.a8.symm;have q2:g5.IsTupleIter i2 t2 (k+1):=p4.extBut s5.extBut D.a9.symm;show wpAny _ _ (Qbi (.ref z) (.ref g5.objs.size) >>= _) _ _ _;refine wpAny_bind ?_
 unfold Qbi;have z6:Qsl (g5.push { cls:=.type "tuple",data:=.seq #[x,y] }) z TI TO .ellipsis:=Qd _ z5;refine wpAny_bind (YQ z6 (by simp) λg7 z7 s7=>?_)
 replace z7:Qsl g7 z TI TO (rawInt g5.objs.size):=z7
 refine YQ z7 (by simp) λg8 z8 s8=>?_
 replace z8:Qsl g8 z TI TO (rawInt g5.objs.size):=z8
 have up:∀c o,c≠z->g5.get? c=some o->g8.get? c=some o:=λc o c1 e=>s8.extBut _ _ c1 (s7.extBut _ _ c1 (Qd _ e))
 have ne:g5.objs.size≠z:=QaJ (Qp z5);have t8:IsPair g8 g5.objs.size x y:=s8.extBut _ _ ne (s7.extBut _ _ ne (QD _ rfl));rw[sz] at z8 t8;refine wpAny_pure ⟨_,rfl,wpAny_pure ?_⟩;show Q (some (.ref g5.objs.size)) _;rw[sz];exact hQ g8 ⟨z8,up _ _ D.a1 (kp _ _ D.a1 D.a5 D.a6 D.a7 hTI),⟨x,y,up _ _ D.a2 o5⟩,q1.at λo e=>up _ o D.a3 e,q2.at λo e=>up _ o D.a4 e⟩ t8 λc o c1 c2 c3 c4 e=>up c o c1 (kp c o c1 c2 c3 c4 e)
theorem Qpl{z TI TO i1 i2 t1 t2:Addr}{k:Nat}{xs ys:Array Value}{Q:Option Value->Shared->Prop}(hh:A.handled=none)(D:Apart z TI TO i1 i2 t1 t2)(Z:QnK s.heap z TI TO i1 i2 t1 t2 .none k)
  (hl1:s.heap.IsTuple t1 xs)(hl2:s.heap.IsTuple t2 ys)(hend:xs[k]? = none∨ys[k]? = none)
  (hQ:∀h',(∀c o,c≠z->c≠TO->c≠i1->c≠i2->s.heap.get? c=some o->h'.get? c=some o)->Q none { s with heap:=h' }):wpAny (model prog w) A (pyNext (.ref z)) Q E s:=by
 obtain⟨hz,hTI,⟨a,b,hTO⟩,h1,h2⟩:=Z;have hT:s.TypeIs (.ref z) "zip" := ⟨_,hz,rfl⟩;have fin:∀(h':Heap)(e:Addr),(∀c o,c≠z->c≠TO->c≠i1->c≠i2->s.heap.get? c=some o->h'.get? c=some o)->(∃o,h'.get? e=some o/\o.cls=.type "StopIteration") ->
   wpAny (model prog w) A (isInstance (.ref e) (.type "StopIteration") >>= λx=>if x=true then pure none else throw (.ref e)) Q E { s with heap:=h' }:=λh' e hk he=>by
  obtain⟨o,ho,hc⟩:=he;refine wpAny_bind (Qh1 (T := "StopIteration") (b:=true) ⟨o,ho,hc⟩ isSubtype_stop ?_);exact wpAny_pure (hQ _ hk)
 unfold pyNext;refine wpAny_bind (QaD (Zd (name:=Qal "__next__") hT Qdk (JW Qdk hT Qx9 ?_ (Qvl _))));show wpAny _ _ (field (.ref z) 2 >>= _) _ _ _;refine wpAny_bind (ZI hz rfl (x:=.bool false) rfl ?_);show wpAny _ _ (field (.ref z) 3 >>= _) _ _ _;refine wpAny_bind (ZI hz rfl (x:=.ref TI) rfl (wpAny_bind (ZY hTI rfl ?_)));show wpAny _ _ (ZE (.ref z) >>= _) _ _ _;refine wpAny_bind ?_
 unfold ZE;refine wpAny_bind (ZI hz rfl (x:=.none) rfl (wpAny_pure ?_));simp only[if_true];refine wpAny_bind (wpAny_rule (wpAny_bind (ZI hz rfl (x:=.ref TO) rfl (wpAny_bind (YQ hz (by simp) λg1 z1 s1=>?_)))))
 replace z1:Qsl g1 z TI TO .ellipsis:=z1
 refine wpAny_bind ?_
 simp only[Qfd,QuV,QgG,Qvf];refine wpAny_bind (wpAny_bind (QfD ?_));show wpAny _ _ (JK (.ref i1) >>= _) _ _ _;cases hx:xs[k]? with
 |none=>
  refine wpAny_bind (QiB hh (h1.extBut s1.extBut D.a3) (hl1.extBut s1.extBut D.b2.1) hx λg2 e s2 he=>?_);obtain⟨oe,hoe,hce⟩:=he;have z2:Qsl g2 z TI TO .ellipsis:=s2 _ _ D.a3.symm z1;have hez:e≠z:=λq=>by subst q;rw[z2] at hoe;cases hoe;simp at hce
  refine YQ z2 (by simp) λg3 _ s3=>?_
  exact fin g3 e (λc o c1 _ c3 _ q=>s3.extBut _ _ c1 (s2 _ _ c3 (s1.extBut _ _ c1 q))) ⟨oe,s3.extBut _ _ hez hoe,hce⟩
 |some x=>
  have hy:ys[k]? = none:=by
   rcases hend with q | q
   ·rw[hx] at q;cases q
   ·exact q
  refine wpAny_bind (Qem (h1.extBut s1.extBut D.a3) (hl1.extBut s1.extBut D.b2.1) hx λg2 p2 s2=>wpAny_pure ?_);have o2:IsPair g2 TO a b:=s2.extBut _ _ D.a8 (s1.extBut _ _ D.a2 hTO);refine wpAny_bind (ZY o2 rfl (wpAny_bind (Qeq o2 λg3 o3 s3=>wpAny_bind (Qu6 (wpAny_pure ?_)))));refine wpAny_bind (wpAny_bind (QfD ?_));show wpAny _ _ (JK (.ref i2) >>= _) _ _ _;refine wpAny_bind (QiB hh (((h2.extBut s1.extBut D.a4).extBut s2.extBut D.b1.symm).extBut s3.extBut D.a9.symm)
   (((hl2.extBut s1.extBut D.b3.1).extBut s2.extBut D.b3.2.2.1).extBut s3.extBut D.b3.2.1) hy λg4 e s4 he=>?_)
  obtain⟨oe,hoe,hce⟩:=he;have z4:Qsl g4 z TI TO .ellipsis:=s4 _ _ D.a4.symm (s3.extBut _ _ D.a2.symm (s2.extBut _ _ D.a3.symm z1));have hez:e≠z:=λq=>by subst q;rw[z4] at hoe;cases hoe;simp at hce
  refine YQ z4 (by simp) λg5 _ s5=>?_
  exact fin g5 e (λc o c1 c2 c3 c4 q=>s5.extBut _ _ c1 (s4 _ _ c4 (s3.extBut _ _ c2 (s2.extBut _ _ c3 (s1.extBut _ _ c1 q))))) ⟨oe,s5.extBut _ _ hez hoe,hce⟩
end
abbrev zh1 (h:Heap) (t1:Addr):Heap:=h.push { cls:=.type "tuple_iterator",data:=.fields #[.ref t1,.int 0 0] }
abbrev zh2 (h:Heap) (t1 t2:Addr):Heap:=(zh1 h t1).push { cls:=.type "tuple_iterator",data:=.fields #[.ref t2,.int 0 0] }
abbrev zh3 (h:Heap) (t1 t2:Addr):Heap:=(zh2 h t1 t2).push { cls:=.type "tuple",data:=.seq #[.ref h.objs.size,.ref (zh1 h t1).objs.size] }
abbrev zh4 (h:Heap) (t1 t2:Addr):Heap:=(zh3 h t1 t2).push { cls:=.type "tuple",data:=.seq #[.none,.none] }
abbrev zh5 (h:Heap) (t1 t2:Addr):Heap:=(zh4 h t1 t2).push { cls:=.type "zip",data:=.fields #[.none,.bool false,.bool false,.ref (zh2 h t1 t2).objs.size,.ref (zh3 h t1 t2).objs.size] }
theorem QA5(t1 t2:Addr)(xs ys:Array Value) :
  Meets (Yn.«zip.__new__» ⟨[.type "zip",.ref t1,.ref t2],[]⟩) (λ_ R s=>s.heap.IsTuple t1 xs/\s.heap.IsTuple t2 ys/\R (.ok (.ret (.ref (zh4 s.heap t1 t2).objs.size))) { s with heap:=zh5 s.heap t1 t2 }):=
 .of_wp λprog w A R s h=>by
  obtain⟨hp,g,d,tk,os⟩:=s;obtain⟨hl1,hl2,h⟩:=h;have hsub:=sub_zip;have k1:QkX (QkS ⟨hp,g,d,tk,os⟩) t1 xs:=hl1;have k2:QkX (QkS ⟨hp.push { cls:=.type "tuple_iterator",data:=.fields #[.ref t1,.int 0 0] },g,d,tk,os⟩) t2 ys:=hl2.at λo e=>Qd _ e
  wp_walk using YR k1,YR k2
  exact⟨_,rfl,h⟩
section
variable{prog:QC}{w:Ja}{A:Q2}{E:Value->Shared->Prop}{s:Shared}
theorem QpP{t1 t2:Addr}{xs ys:Array Value}{Q:Value->Shared->Prop}(hl1:s.heap.IsTuple t1 xs)(hl2:s.heap.IsTuple t2 ys)
  (h:∀h',QnK h' (s.heap.objs.size+4) (s.heap.objs.size+2) (s.heap.objs.size+3) s.heap.objs.size (s.heap.objs.size+1) t1 t2 .none 0->(∀c o,s.heap.get? c=some o->h'.get? c=some o)->Q (.ref (s.heap.objs.size+4)) { s with heap:=h' }) :
  wpAny (model prog w) A (call (.type "zip") [.ref t1,.ref t2]) Q E s:=by
 refine callType_new F.called_zip (by decide) (F.typeCall_zip_2 _ _) (F.newCall_zip_2 _ _) (λobj=>F.args_object_init_3 obj _ _) F.entry_zip_new (QA5 t1 t2 xs ys) ⟨hl1,hl2,?_⟩;have z1:(zh1 s.heap t1).objs.size=s.heap.objs.size+1:=ZN ..;have z2:(zh2 s.heap t1 t2).objs.size=s.heap.objs.size+2:=by rw[ZN,z1]
 have z3:(zh3 s.heap t1 t2).objs.size=s.heap.objs.size+3:=by rw[ZN,z2]
 have z4:(zh4 s.heap t1 t2).objs.size=s.heap.objs.size+4:=by rw[ZN,z3]
 have g5:(zh5 s.heap t1 t2).get? (zh4 s.heap t1 t2).objs.size=some _:=QD _ rfl;have g4:(zh5 s.heap t1 t2).get? (zh3 s.heap t1 t2).objs.size=some _:=Qd _ (QD _ rfl);have g3:(zh5 s.heap t1 t2).get? (zh2 s.heap t1 t2).objs.size=some _:=Qd _ (Qd _ (QD _ rfl));have g2:(zh5 s.heap t1 t2).get? (zh1 s.heap t1).objs.size=some _:=Qd _ (Qd _ (Qd _ (QD _ rfl)));have g1:(zh5 s.heap t1 t2).get? s.heap.objs.size=some _:=Qd _ (Qd _ (Qd _ (Qd _ (QD _ rfl))));show _/\_;rw[z2,z3,z4] at g5;rw[z1,z2] at g3;rw[z3] at g4;rw[z1] at g2;rw[z4];exact⟨⟨_,g5,rfl⟩,h _ ⟨g5,g3,⟨_,_,g4⟩,⟨_,g1,rfl,rfl⟩,⟨_,g2,rfl,rfl⟩⟩ λc o x=>Qd _ (Qd _ (Qd _ (Qd _ (Qd _ x))))⟩
end
end Rz
namespace L2
section
variable{X:Cx}{pins:List (Addr×Obj)}{σ:St}{H:Hp}{s:Shared}{h':Heap}
theorem Inv.turnedNew{t':Nat}{ch:List Addr}{a:Addr}{o:HO}(I:Inv X pins σ H s)(hch:∀b∈ch,FpOk X pins H b)(k:∀b u,b∉ch->s.heap.get? b=some u->h'.get? b=some u)(hp:s.heap.objs.size<=a)
  (new:ObjOk X.prog X.w (upd H a o) h' a o):Inv X pins σ (upd H a o) { s with heap:=h',toks:=t' }:=by
 have hn:H a=none:=I.hok.fresh hp;have nch:∀b u,H b=some u->b∉ch:=λb u e z=>by rw[(hch b z).1] at e;cases e
 refine I.step (g':=s.gens) (d':=s.drawn) (ch:=ch) (λb hb=>?_) (λb u _ _ hc e _=>k b u hc e) (λb u _ _ hc e _=>⟨u.slots,k b u hc e⟩) (λb u hc e n=>?_) (λb u hc e=>⟨u,k b u hc e⟩)
  (λb xs e=>by rw[JG (Zp e hn)];exact e) (λb u v e=>by rw[JG (Zp e hn)];exact e) (λb ps e=>⟨#[],by rw[JG (Zp e hn),e];simp⟩) (λm hm=>?_) (λb u e=>?_) I.bare
 ·obtain⟨f0,f1,f2,f3,f4,f5⟩:=hch b hb;exact⟨f3,f1,f4,f5⟩
 ·rw[JG (QF (QR (Qp e) hp))];exact n
 ·obtain⟨u,es,ep,ho,r⟩:=hm;exact⟨u,es,ep,k _ u (λz=>(hch _ z).2.1 rfl) ho,r⟩
 ·by_cases hb:b=a
  ·subst hb;rw[JB] at e;cases e;exact new
  ·rw[JG hb] at e;refine(I.hok b u e).stay (λc v hc q=>k c v ?_ q) (λc q=>by rw[JG (Zp q hn)];exact q) λc xs q=>by rw[JG (Zp q hn)];exact q
   rcases hc with z | z
   ·rw[z];exact nch b u e
   ·exact nch c _ z
theorem Inv.turnedAll{t':Nat}{ch:List Addr}(I:Inv X pins σ H s)(hch:∀b∈ch,FpOk X pins H b)(k:∀b u,b∉ch->s.heap.get? b=some u->h'.get? b=some u):Inv X pins σ H { s with heap:=h',toks:=t' }:=by
 have nch:∀b u,H b=some u->b∉ch:=λb u e z=>by rw[(hch b z).1] at e;cases e
 refine I.step (g':=s.gens) (d':=s.drawn) (ch:=ch) (λb hb=>?_) (λb u _ _ hc e _=>k b u hc e) (λb u _ _ hc e _=>⟨u.slots,k b u hc e⟩) (λb u hc e n=>n) (λb u hc e=>⟨u,k b u hc e⟩)
  (λb xs e=>e) (λb u v e=>e) (λb ps e=>⟨#[],by rw[e];simp⟩) (λm hm=>?_) (λb u e=>?_) I.bare
 ·obtain⟨f0,f1,f2,f3,f4,f5⟩:=hch b hb;exact⟨f3,f1,f4,f5⟩
 ·obtain⟨u,es,ep,ho,r⟩:=hm;exact⟨u,es,ep,k _ u (λz=>(hch _ z).2.1 rfl) ho,r⟩
 ·refine(I.hok b u e).stay (λc v hc q=>k c v ?_ q) (λc q=>q) λc xs q=>q
  rcases hc with z | z
  ·rw[z];exact nch b u e
  ·exact nch c _ z
end
def Itz(t1 t2:Addr):It:=
 ⟨λi H=>∃xs ys x y,H t1=some (.tup xs)/\H t2=some (.tup ys)/\xs[i]? = some x/\ys[i]? = some y,
  λi H v H'=>∃p x y,H p=none/\(∀xs,H t1=some (.tup xs)->xs[i]? = some x)/\(∀ys,H t2=some (.tup ys)->ys[i]? = some y)/\v=.ref p/\H'=upd H p (.tup [x,y]),
  λi H=>∃xs ys,H t1=some (.tup xs)/\H t2=some (.tup ys)/\(xs.length<=i∨ys.length<=i)⟩
theorem Qn7{P:QC}{w:Ja}{K:PySem.W.Frag}{elts:List Q3}{x1}{tpos:Pos}{z TI TO i1 i2 t1 t2:Addr}(D:Rz.Apart z TI TO i1 i2 t1 t2) :
  Turn P w K (.Tuple elts x1 tpos) (Itz t1 t2) [z,TI,TO,i1,i2] z (λi h=>Rz.QnK h z TI TO i1 i2 t1 t2 .none i) where
 mem:=by simp
 obj:=λi h st b hb=>by
  obtain⟨a1,a2,⟨_,_,a3⟩,⟨o4,a4,_,d4⟩,⟨o5,a5,_,d5⟩⟩:=st;simp only[Qv,Q6,or_false] at hb;rcases hb with rfl | rfl | rfl | rfl | rfl
  ·exact⟨_,a1,λv q=>nomatch q⟩
  ·exact⟨_,a2,λv q=>nomatch q⟩
  ·exact⟨_,a3,λv q=>nomatch q⟩
  ·exact⟨_,a4,λv q=>by rw[d4] at q;cases q⟩
  ·exact⟨_,a5,λv q=>by rw[d5] at q;cases q⟩
 keep:=λi h h' st k=>by
  obtain⟨a1,a2,⟨a,b,a3⟩,a4,a5⟩:=st;exact⟨k z (by simp) _ a1,k TI (by simp) _ a2,⟨a,b,k TO (by simp) _ a3⟩,a4.at λo e=>k i1 (by simp) o e,a5.at λo e=>k i2 (by simp) o e⟩
 item:=by
  intro X hP hw hK hc i pins s σ H E I hf st hg;subst hP hw hK;obtain⟨xs,ys,x,y,h1,h2,hx,hy⟩:=hg;obtain⟨its1,r1,p1,_⟩:=I.tuple (SqT.of h1);obtain⟨its2,r2,p2,_⟩:=I.tuple (SqT.of h2);obtain⟨u1,hu1,ru1⟩:=r1.get hx;obtain⟨u2,hu2,ru2⟩:=r2.get hy;refine Rz.Qmo D st (show s.heap.IsTuple t1 its1.toArray from p1) (show s.heap.IsTuple t2 its2.toArray from p2) (by simpa using hu1) (by simpa using hu2) λh' st' tp kp=>?_
  have hlt:∀b∈[z,TI,TO,i1,i2],b≠s.heap.objs.size:=λb hb=>by
   obtain⟨a1,a2,⟨_,_,a3⟩,⟨o4,a4,_,d4⟩,⟨o5,a5,_,d5⟩⟩:=st;simp only[Qv,Q6,or_false] at hb;rcases hb with rfl | rfl | rfl | rfl | rfl
   ·exact QF (Qp a1)
   ·exact QF (Qp a2)
   ·exact QF (Qp a3)
   ·exact QF (Qp a4)
   ·exact QF (Qp a5)
  have fr:H s.heap.objs.size=none:=I.hok.fresh (Qj _);refine⟨_,rfl,Qk2 st'.zp λh2' z2 s2=>?_⟩;have I1:Inv X pins σ (upd H s.heap.objs.size (.tup [x,y])) { s with heap:=h2',toks:=s.toks }:=by
   refine I.turnedNew (ch:=[z,TI,TO,i1,i2]) hf (λb u hb e=>?_) (Qj _) ⟨by show 2<=sizeLine;decide,[u1,u2],.cons ru1 (.cons ru2 .nil),?_⟩
   ·simp only[Qv,Q6,or_false,not_or] at hb;exact s2.extBut _ _ hb.1 (kp b u hb.1 hb.2.2.1 hb.2.2.2.1 hb.2.2.2.2 e)
   ·exact⟨_,s2.extBut _ _ (hlt z (by simp)).symm tp,rfl,0,rfl⟩
  refine⟨.ref s.heap.objs.size,_,I1,rfl,⟨_,x,y,fr,λxs' e=>?_,λys' e=>?_,rfl,rfl⟩,?_,λb hb=>?_⟩
  ·rw[h1] at e;cases e;exact hx
  ·rw[h2] at e;cases e;exact hy
  ·obtain⟨a1,a2,⟨a,b,a3⟩,a4,a5⟩:=st';exact⟨z2,s2.extBut _ _ D.a1 a2,⟨a,b,s2.extBut _ _ D.a2 a3⟩,a4.extBut s2.extBut D.a3,a5.extBut s2.extBut D.a4⟩
  ·rw[JG (hlt b hb)];exact(hf b hb).1
 done:=by
  intro X hP hw hK hc i pins s σ H E I hf st hg;subst hP hw hK;obtain⟨xs,ys,h1,h2,he⟩:=hg;obtain⟨its1,r1,p1,_⟩:=I.tuple (SqT.of h1);obtain⟨its2,r2,p2,_⟩:=I.tuple (SqT.of h2);have l1:=r1.length;have l2:=r2.length;refine Rz.Qpl (I.ok.hd hc) D st (show s.heap.IsTuple t1 its1.toArray from p1) (show s.heap.IsTuple t2 its2.toArray from p2) ?_ λh' kp=>⟨rfl,I.turnedAll (t':=s.toks) (ch:=[z,TI,TO,i1,i2]) hf λb u hb e=>?_⟩
  ·rcases he with q | q
   ·exact .inl (by simp;omega)
   ·exact .inr (by simp;omega)
  ·simp only[Qv,Q6,or_false,not_or] at hb;exact kp b u hb.1 hb.2.2.1 hb.2.2.2.1 hb.2.2.2.2 e
 self:=λ_ _ _ _ _ st h=>Qc6 st.zp h
section
variable{X:Cx}
theorem apart_new(n t1 t2:Nat)(h1:t1<n)(h2:t2<n):Rz.Apart (n+4) (n+2) (n+3) n (n+1) t1 t2 where
 a1:=by show ¬(n+2=n+4);omega
 a2:=by show ¬(n+3=n+4);omega
 a3:=by show ¬(n=n+4);omega
 a4:=by show ¬(n+1=n+4);omega
 a5:=by show ¬(n+2=n+3);omega
 a6:=by show ¬(n+2=n);omega
 a7:=by show ¬(n+2=n+1);omega
 a8:=by show ¬(n+3=n);omega
 a9:=by show ¬(n+3=n+1);omega
 b1:=by show ¬(n=n+1);omega
 b2:=⟨by show ¬(t1=n+4);omega,by show ¬(t1=n+3);omega,by show ¬(t1=n);omega,by show ¬(t1=n+1);omega⟩
 b3:=⟨by show ¬(t2=n+4);omega,by show ¬(t2=n+3);omega,by show ¬(t2=n);omega,by show ¬(t2=n+1);omega⟩
def QA7(ta:TA):TI:=λσ H R=>ta σ H λvs H1=>∃t1 t2 xs ys,vs=[.ref t1,.ref t2]/\H1 t1=some (.tup xs)/\H1 t2=some (.tup ys)/\R (Itz t1 t2) H1
theorem Qnu:bootBuiltins "zip" = some (.type "zip"):=by decide +kernel
theorem Qwg{a b:Q3}{elts:List Q3}{x1}{tpos:Pos}{ta:TA}{p pos:Pos}(hg:Gl X "zip")(hm:X.mg "zip" = none)(ha:PA X [a,b] ta)(hs:starEach [a,b] X.env=[(false,eval a X.env),(false,eval b X.env)]:=by rfl)(hs2:starEach [b] X.env=[(false,eval b X.env)]:=by rfl) :
  PI X (.Tuple elts x1 tpos) (.Call (.Name "zip" p) [a,b] [] pos) (QA7 ta):=by
 intro pins s σ H R I h;refine Call_ (QdW I hg hm Qnu (Zl (thn (ha pos pins s σ H _ I h) λus s1 ⟨vs,H1,I1,r1,q1⟩=>?_) (by rw[hs,hs2]) (by rw[hs2];rfl)));obtain⟨t1,t2,xs,ys,e,h1,h2,q⟩:=q1;subst e;obtain⟨u,v,rfl,ru,rv⟩:=vals2 r1;cases(show u=QQ t1 from ru);cases(show v=QQ t2 from rv);obtain⟨its1,w1,p1,_⟩:=I1.tuple (SqT.of h1);obtain⟨its2,w2,p2,_⟩:=I1.tuple (SqT.of h2);have n1:t1<s1.heap.objs.size:=I1.hok.lt h1;have n2:t2<s1.heap.objs.size:=I1.hok.lt h2;refine Rz.QpP (show s1.heap.IsTuple t1 its1.toArray from p1) (show s1.heap.IsTuple t2 its2.toArray from p2) λh' st kp=>?_
 refine Qc6 (s:={ s1 with heap:=h' }) st.zp ?_
 have D:=apart_new s1.heap.objs.size t1 t2 n1 n2;refine⟨s1.heap.objs.size+4,_,_,_,H1,rfl,I1.kept (t':=s1.toks) kp,Qn7 D,st,λb hb=>?_,q⟩;have hb':s1.heap.objs.size<=b:=by
  simp only[Qv,Q6,or_false] at hb;rcases hb with rfl | rfl | rfl | rfl | rfl<;>omega
 exact I1.fpOk hb' (I1.hok.fresh hb')
end
end L2
namespace Rk
open L2
def QzV:Option HO->Option (List V)
 |some (.tup xs)=>some xs
 |_=>none
def QfO(H:Hp):V->Option (List V)
 |.ref a=>QzV (H a)
 |_=>none
theorem Qi9(H:Hp)(a:Addr):QfO H (.ref a)=QzV (H a):=rfl
def isT(H:Hp)(x:V):Bool:=(QfO H x).isSome
def Kn(p:Addr)(H:Hp):V->Prop
 |.non=>True
 |.bl _=>True
 |.int _=>True
 |.str _=>True
 |.ref a=>a≠p/\((∃xs,H a=some (.tup xs))∨(∃xs,H a=some (.lst xs))∨∃kvs,H a=some (.dK kvs))
 |_=>False
def KnD(p:Addr):Nat->Hp->V->Prop
 |0,H,x=>Kn p H x
 |n+1,H,x=>Kn p H x/\∀xs,QfO H x=some xs->∀y∈xs,KnD p n H y
def KX(p:Addr)(H H':Hp):Prop:=∀b o,b≠p->H b=some o->H' b=some o
theorem KX.refl(p:Addr)(H:Hp):KX p H H:=λ_ _ _ e=>e
theorem KnD.kn{p:Addr}{H:Hp}{x:V}:∀{n:Nat},KnD p n H x->Kn p H x
 |0,h=>h
 |_+1,h=>h.1
theorem KnD.low{p:Addr}{H:Hp}:∀{n:Nat}{x:V},KnD p (n+1) H x->KnD p n H x
 |0,x,h=>h.1
 |n+1,x,h=>⟨h.1,λxs e y hy=>KnD.low (h.2 xs e y hy)⟩
theorem KnD.tup{p:Addr}{H:Hp}{n:Nat}{a:Addr}{xs:List V}(hp:a≠p)(e:H a=some (.tup xs))(h:∀y∈xs,KnD p n H y):KnD p (n+1) H (.ref a):=
 ⟨⟨hp,.inl ⟨xs,e⟩⟩,λys z y hy=>h y (by
  have z':some xs=some ys:=by rw[<- z,Qi9,e];rfl
  cases z';exact hy)⟩
theorem KnD.int{p:Addr}{H:Hp}(i:Int):∀(n:Nat),KnD p n H (.int i)
 |0=>trivial
 |n+1=>⟨trivial,λ_ e=>nomatch e⟩
theorem QgY{H:Hp}{a:Addr}{xs:List V}(e:H a=some (.tup xs)):QfO H (.ref a)=some xs:=by rw[Qi9,e];rfl
def QrI(H:Hp)(x:V):List Int:=((QfO H x).getD []).map λy=>match y with
 |.int i=>i
 |_=>0
def IntsT(H:Hp)(x:V)(ns:List Int):Prop:=∃a,x=.ref a/\H a=some (.tup (ns.map V.int))
theorem IntsT.eq{H:Hp}{x:V}{ns:List Int}(h:IntsT H x ns):QrI H x=ns:=by
 obtain⟨a,rfl,e⟩:=h;unfold QrI;rw[QgY e];show(ns.map V.int).map _=ns;rw[Jo];exact Qbe _
theorem Qbx:bootBuiltins "isinstance" = some (.builtin "isinstance"):=by decide +kernel
theorem Qr1:bootBuiltins "int" = some (.type "int"):=by decide +kernel
theorem QuK:bootBuiltins "bool" = some (.type "bool"):=by decide +kernel
theorem Qgz:bootBuiltins "tuple" = some (.type "tuple"):=by decide +kernel
theorem QuJ:bootBuiltins "list" = some (.type "list"):=by decide +kernel
theorem Qns:bootBuiltins "all" = some (.builtin "all"):=by decide +kernel
theorem Qb0:bootBuiltins "len" = some (.builtin "len"):=by decide +kernel
theorem Qr0:bootBuiltins "max" = some (.builtin "max"):=by decide +kernel
theorem QrZ:bootBuiltins "min" = some (.builtin "min"):=by decide +kernel
end Rk
namespace L2
theorem Qdy{J:It}{body:V->Hp->(Hp->Prop)->Prop}{Qn:Hp->Prop}{H:Hp}(n:Nat)(Pv:Nat->Hp->Prop)(h0:Pv 0 H)
  (hs:∀i H2,i<n->Pv i H2->J.go i H2/\∀x H3,J.yld i H2 x H3->∀k:Hp->Prop,(∀H6,Pv (i+1) H6->k H6)->body x H3 k)(hd:∀H2,Pv n H2->J.stop n H2/\Qn H2):QgZ J body Qn H:=by
 refine⟨λi m H=>m=n - i/\i<=n/\Pv i H,⟨n,by simp,Qu _,h0⟩,?_⟩;rintro i m H2 ⟨rfl,hi,p⟩;by_cases hlt:i<n
 ·obtain⟨go,st⟩:=hs i H2 hlt p;exact .inr ⟨go,λx H3 y=>st x H3 y _ λH6 p6=>⟨n - (i+1),by omega,rfl,hlt,p6⟩⟩
 ·have e:i=n:=by omega
  subst e;exact .inl (hd H2 p)
end L2
namespace Rk
open L2
theorem range_getD{α:Type}(L:List α)(d:α):(Qq L.length).map (λi=>L.getD i d)=L:=by
 refine QaA λi=>?_
 rw[Qz];by_cases hi:i<L.length
 ·rw[Zn hi];show some (L.getD i d)=L[i]?;rw[Qi,Qf hi];rfl
 ·have h1:(Qq L.length)[i]? = none:=JR (by rw[QN];omega);have h2:L[i]? = none:=JR (by omega);rw[h1,h2];rfl
def QcU(K:PySem.W.Frag):Sp:=λvs H Q _=>∃a ns k,vs=[.ref a,.int k]/\SqL K H a ((ns:List Int).map V.int)/\ns.length<2^20/\0<=k/\∀c,Q (.int c) H
def QvC:Sp:=λvs H Q _=>∃c,vs=[.int c]/\∀p n,H p=none->Q (.ref p) (upd H p (.lst [.int n]))
def Cs(p:Addr)(H:Hp):List V->List (Int×Int)->Prop:=Yu λx ij=>∃d,d≠p/\x=.ref d/\H d=some (.tup [.int ij.1,.int ij.2])
theorem Cs.mem{p:Addr}{H:Hp}:∀{ps:List V}{L:List (Int×Int)},Cs p H ps L->∀x∈ps,∃ij∈L,∃d,d≠p/\x=.ref d/\H d=some (.tup [.int ij.1,.int ij.2])
 |_,_,.nil,x,h=>nomatch h
 |_,_,.cons r t,x,h=>by
  rcases Qv.mp h with e | e
  ·subst e;exact⟨_,JM,r⟩
  ·obtain⟨ij,m,q⟩:=Cs.mem t x e;exact⟨ij,Q7 _ m,q⟩
def QxV(a b:Int×Int):Prop:=a.1<b.1∨(a.1=b.1/\a.2<b.2)
structure Good (h w:Int) (L:List (Int×Int)):Prop where
 asc:L.Pairwise QxV
 ins:∀x∈L,0<=x.1/\x.1<h/\0<=x.2/\x.2<w
 len:L.length<=36
theorem QjM(x:Int){m:Int}(h:0<m):0<=x % m/\x % m<m:=⟨Qvi _ (by omega),Qp8 _ h⟩
def Zh:Q3->Bool
 |.Starred _ _=>false
 |_=>true
theorem YZ{e:Q3}{es:List Q3}{env:Env}(h:Zh e=true):starEach (e::es) env=(false,eval e env)::starEach es env:=by
 cases e<;>first | rfl | cases h
section
variable{X:Cx}
theorem Qel{e:Q3}{es:List Q3}{te:TE}{t:TA}(ha:PE X e te)(hr:PA X es t)(hs:Zh e=true:=by rfl):PA X (e::es) (Qe8 te t):=YG ha hr (YZ hs)
inductive PEs (X:Cx):List Q3->List TE->Prop
 |nil:PEs X [] []
 |cons {e es te ts}:PE X e te->Zh e=true->PEs X es ts->PEs X (e::es) (te::ts)
def QzY:List TE->TA
 |[]=>Qsx
 |t::ts=>Qe8 t (QzY ts)
theorem PEs.pa{es:List Q3}{ts:List TE}(h:PEs X es ts):PA X es (QzY ts):=by
 induction h with
 |nil=>exact ZP
 |cons a s _ ih=>exact Qel a ih s
end
def Sm(H:Hp)(x:V):Prop:=∀ps,QfO H x=some ps->ps.length<sizeLine
def Part(p:Addr)(H:Hp)(x:V):Prop:=KnD p 2 H x/\Sm H x
def Thing(p:Addr)(H:Hp)(x:V):Prop:=KnD p 3 H x/\Sm H x/\∀xs,QfO H x=some xs->∀y∈xs,Sm H y
theorem Qvv{H:Hp}{a:Addr}{xs ys:List V}(e:H a=some (.tup xs))(z:QfO H (.ref a)=some ys):ys=xs:=by
 rw[QgY e] at z;cases z;rfl
theorem Part.tup{p:Addr}{H:Hp}{a:Addr}{xs:List V}(hp:a≠p)(e:H a=some (.tup xs))(hl:xs.length<sizeLine)(h:∀y∈xs,KnD p 1 H y):Part p H (.ref a):=
 ⟨KnD.tup hp e h,λps z=>by rw[Qvv e z];exact hl⟩
theorem Thing.part{p:Addr}{H:Hp}{x:V}(h:Thing p H x):Part p H x:=⟨h.1.low,h.2.1⟩
theorem Qxo{P:V->Prop}:∀y∈([]:List V),P y:=λ_ h=>nomatch h
theorem QmX{P:V->Prop}{a:V}{l:List V}(h:P a)(k:∀y∈l,P y):∀y∈a::l,P y:=λy hy=>by
 rcases Qv.mp hy with e | e
 ·subst e;exact h
 ·exact k y e
theorem Cs.kn{p:Addr}{H:Hp}{ps:List V}{L:List (Int×Int)}(h:Cs p H ps L):∀x∈ps,KnD p 1 H x:=λx hx=>by
 obtain⟨ij,_,d,n,rfl,e⟩:=h.mem x hx;exact KnD.tup n e (QmX (KnD.int _ 0) (QmX (KnD.int _ 0) Qxo))
theorem Cs.part{p:Addr}{H:Hp}{c:Addr}{ps:List V}{L:List (Int×Int)}(n:c≠p)(e:H c=some (.tup ps))(hl:ps.length<sizeLine)(h:Cs p H ps L):Part p H (.ref c):=Part.tup n e hl h.kn
theorem QbU{n:Nat}(h:n<=1000):n<sizeLine:=Z7 h (by decide)
def Fine(p:Addr):Nat->Hp->V->Prop
 |0,H,x=>Kn p H x/\Sm H x
 |n+1,H,x=>Kn p H x/\Sm H x/\∀xs,QfO H x=some xs->∀y∈xs,Fine p n H y
theorem Fine.kn{p:Addr}{H:Hp}{x:V}:∀{n:Nat},Fine p n H x->Kn p H x
 |0,h=>h.1
 |_+1,h=>h.1
theorem Fine.sm{p:Addr}{H:Hp}{x:V}:∀{n:Nat},Fine p n H x->Sm H x
 |0,h=>h.2
 |_+1,h=>h.2.1
theorem Fine.knd{p:Addr}{H:Hp}:∀{n:Nat}{x:V},Fine p n H x->KnD p n H x
 |0,_,h=>h.1
 |_+1,_,h=>⟨h.1,λxs e y hy=>(h.2.2 xs e y hy).knd⟩
theorem Fine.thing{p:Addr}{H:Hp}{x:V}(h:∀n,Fine p n H x):Thing p H x:=⟨(h 3).knd,(h 0).2,λxs e y hy=>((h 1).2.2 xs e y hy).2⟩
section
variable{X:Cx}
theorem Qix{e:List Q3}{t t':TA}(h:PA X e t)(k:∀σ H Q,t' σ H Q->t σ H Q):PA X e t':=λpos pins s σ H Q I q=>h pos pins s σ H Q I (k σ H Q q)
end
def QyT(t:TA):TE:=λσ H Q=>t σ H λxs H1=>xs.length<=1000/\∀a H2,Same H1 H2->H1 a=none->H2 a=some (.tup xs)->Q (.ref a) H2
def QyY(t:TA):TE:=λσ H Q=>t σ H λxs H1=>xs.length<=1000/\∀a H2,Same H1 H2->H1 a=none->H2 a=some (.lst xs)->Q (.ref a) H2
section
variable{X:Cx}
theorem Qs9{es:List Q3}{t:TA}{x1}{pos:Pos}(h:PA X es t):PE X (.Tuple es x1 pos) (QyT t):=by
 intro pins s σ H Q I hq;refine wpAny_Tuple_spliced (thn (h pos pins s σ H _ I hq) λus s1 ⟨xs,H1,I1,r,z,q⟩=>⟨by rw[<- r.length];exact Z8 (QbU z),?_⟩);have hf:H1 s1.heap.objs.size=none:=I1.hok.fresh (Qj _);refine⟨.ref s1.heap.objs.size,upd H1 s1.heap.objs.size (.tup xs),I1.laid (t':=s1.toks) (λb u e=>Qd _ e) (Qj _) ?_,rfl,q _ _ (JC hf) hf JB⟩;exact⟨Z8 (QbU z),us,r,⟨_,QD _ rfl,rfl,_,rfl⟩⟩
theorem Qbt{es:List Q3}{t:TA}{pos:Pos}(h:PA X es t):PE X (.List es pos) (QyY t):=by
 intro pins s σ H Q I hq;refine QxX (thn (h pos pins s σ H _ I hq) λus s1 ⟨xs,H1,I1,r,z,q⟩=>⟨by rw[<- r.length];exact Z8 (QbU z),?_⟩);have hf:H1 s1.heap.objs.size=none:=I1.hok.fresh (Qj _);refine⟨.ref s1.heap.objs.size,upd H1 s1.heap.objs.size (.lst xs),I1.laid (t':=s1.toks) (λb u e=>Qd _ e) (Qj _) ?_,rfl,q _ _ (JC hf) hf JB⟩;exact⟨Z8 (QbU z),us,0,r,QD _ rfl⟩
def Qzc:R2:=λx y H Q=>∃l b xs zs,x=.ref l/\y=.ref b/\H l=some (.lst xs)/\H b=some (.lst zs)/\xs.length+zs.length<=1000/\∀a H2,Same H H2->H a=none->H2 a=some (.lst (xs++zs))->Q (.ref a) H2
theorem QeF:OpR X (binaryOp .Add) Qzc:=λpins s σ H x y v u Q I rx ry ⟨l,b,xs,zs,e1,e2,h1,h2,hl,k⟩=>
 QrA pins s σ H x y v u Q I rx ry ⟨l,b,xs,zs,e1,e2,h1,h2,Z8 (QbU hl),λa ha=>k a _ (JC ha) ha JB⟩
end
def FineA(p:Addr)(H:Hp)(x:V):Prop:=∀n,Fine p n H x
theorem FineA.thing{p:Addr}{H:Hp}{x:V}(h:FineA p H x):Thing p H x:=Fine.thing h
theorem FineA.part{p:Addr}{H:Hp}{x:V}(h:FineA p H x):Part p H x:=(Fine.thing h).part
end Rk
namespace Rx
open PySem.Calls L2 PySem.W Builtin Builtin.ObjectAttr Builtin.Getset_descriptor
def ExAt(a C:Addr)(h:Heap):Prop:=∃o vs,h.get? a=some o/\o.cls=.ref C/\o.data=.fields vs
theorem ExAt.ty{M:Qj6}{h:Heap}{a C:Addr}(x:ExAt a C h):Looks M h (typeOf (.ref a)) (.ref C):=by
 obtain⟨o,vs,e,c,_⟩:=x;exact c ▸ (Looks.ld e).andThen .now
structure ExC (K:PySem.W.Frag) (C:Addr):Prop where
 ga:findIn K (.ref C) "__getattribute__" = some (some (.builtin "BaseException.__getattribute__"))
 hk:findIn K (.ref C) "__getattr__" = some none
 bas:mroIn K C (.type "BaseException")=some true
 cls:(clsIn K C).isSome=true
 att:findIn K (.ref C) "__class__" = some (some (.builtin "object.__class__"))
 spc:specialIn K (.builtin "object.__class__") "__get__" = some (some (.builtin "getset_descriptor.__get__"))
 tks:takesIn K (.builtin "object.__class__")=some true
 mro:mroIn K C (.type "object")=some true
section
variable{prog:QC}{w:Ja}{A:Q2}{E:Value->Shared->Prop}{s:Shared}{K:PySem.W.Frag}{a C:Addr}
theorem Quo{M:Qj6}{h:Heap}(X:K.In h)(c:ExC K C):Looks M h (find (.ref a) (.ref C) "__class__") (.bind (.builtin "getset_descriptor.__get__") (.builtin "object.__class__")):=by
 have l1:=Qr7 (M:=M) X c.att;have l2:=looks_specialIn (M:=M) X c.spc;have l3:=looks_takesIn (M:=M) X c.tks;have l4:Looks M h (dataDescriptor? (some (.builtin "object.__class__")) (some (.builtin "getset_descriptor.__get__"))) (some (.builtin "getset_descriptor.__get__",.builtin "object.__class__")):=l3.andThen .now;exact l1.andThen (l2.andThen (l4.andThen (Looks.tag .now)))
theorem Qxr{R:QnO->Shared->Prop}{tp:Value}(X:K.In s.heap)(I:ExAt a C s.heap)(c:ExC K C)(h:R (.ok (.ret (.ref C))) s) :
  codeAny (model prog w) A (.call (.builtin "getset_descriptor.__get__") ⟨[.builtin "object.__class__",.ref a,tp],[]⟩) R s:=by
 obtain⟨h0,g0,d0,t0,o0⟩:=s;have la:=I.ty (M:=model prog w);have lb:=looks_mroIn (M:=model prog w) X c.mro;refine QuR KF.slot_gs.plain KF.entry_gs (KF.slot_gs.check _ _ _ _ _ _ _ _ KF.type_class (KF.args_gs _ _ _) ?_);unfold Yn.«getset_descriptor.__get__»;unfold descrGet;rw[dga_obj];refine wpAny_bind (wpAny_pure ?_);unfold descrGetter;unfold descrCheckInstance;unfold descrNameAndClass;unfold isInstance;simp only[KF.owner_class]
 repeat lk
 refine⟨Code.quiet_builtin _ (by decide +kernel),Qj1 KF.entry_class ?_⟩;unfold Yn.«object.__class__»;unfold shownTypeOf
 repeat lk
 exact h
theorem QpH{M:Qj6}{nameV:Value}{Q:Unit->Shared->Prop}(X:K.In s.heap)(I:ExAt a C s.heap)(c:ExC K C)(hq:Q () s):wpAny M A (checkBuiltinCall "BaseException.__getattribute__" ⟨[.ref a,nameV],[]⟩) Q E s:=by
 have hk:builtinKind "BaseException.__getattribute__" = some .slot:=by decide +kernel
 have hsplit:splitId "BaseException.__getattribute__" = some ("BaseException", "__getattribute__"):=by decide +kernel
 have ha:=F.args_bexc_ga (.ref a) nameV;have la:=I.ty (M:=M);have lb:=looks_mroIn (M:=M) X c.bas;have li:Looks M s.heap (isInstance (.ref a) (.type "BaseException")) true:=la.andThen lb;simp only[checkBuiltinCall,hk,hsplit];refine wpAny_bind (li.at ?_)
 repeat (first | exact hq | wp_step)
theorem QpG{Q:Option Value->Shared->Prop}(X:K.In s.heap)(I:ExAt a C s.heap)(c:ExC K C)(h:Q (some (.ref C)) { s with toks:=s.toks+1 }):wpAny (model prog w) A (getAttr? (.ref a) "__class__") Q E s:=by
 obtain⟨h0,g0,d0,t0,o0⟩:=s;have la:=I.ty (M:=model prog w);have lb:=Qr7 (M:=model prog w) X c.ga;have lc:=Qr7 (M:=model prog w) X c.hk;have ld:=Quo (M:=model prog w) (a:=a) X c;have f3:=Qp9.ga.bind (.ref a);have hx2:(onTheHeap (QQ C)&&Qd0 "BaseException.__getattribute__" == Qd0 "object.__getattribute__")=false:=by
  have e:(Qd0 "BaseException.__getattribute__" == Qd0 "object.__getattribute__")=false:=by decide +kernel
  rw[e];rfl
 unfold getAttr?;unfold getAttrBy?;unfold getAttrBy;refine wpAny_bind (wpAny_mkText (wpAny_bind (QaD (JL (wpAny_bind (la.at (wpAny_bind (lb.at ?_))))))));simp only[hx2,Zw,if_false];unfold getAttrByItsOwn;refine wpAny_bind (m:=hookBefore (.ref C)) ?_
 show wpAny _ _ (typeLookup (.ref C) "__getattr__") _ _ _;refine lc.at ?_
 refine wpAny_bind (QaD (JL ?_));show wpAny _ _ (boundAndCalled _ _ _) _ _ _;unfold boundAndCalled;rw[f3];refine wpAny_bind (wpAny_pure ?_);refine QgL (QuR Qp9.ga.plain F.entry_bexc_ga (QpH X I c ?_));unfold Yn.«object.__getattribute__»;refine wpAny_bind (wpAny_pure (wpAny_bind (wpAny_pure (wpAny_bind (la.at (wpAny_bind (ld.at ?_)))))));show wpAny _ _ (bindTo (.builtin "getset_descriptor.__get__") (.builtin "object.__class__") (.ref a) (.ref C)) _ _ _;unfold bindTo;refine wpAny_bind (JL (QgL (Qxr (s:=⟨h0,g0,d0,t0+1,o0⟩) X I c ?_)));exact wpAny_pure (handed_on rfl (wpAny_pure h))
theorem Qt8(c:ExC K C):KitX K (.ref a) (.ref C) (ExAt a C) where
 ty:=λ_ _ _ I=>I.ty
 it:=λ_ _ X _=>by
  have q:=c.cls;unfold clsIn at q;split at q
  ·rename_i ho
   intro A' Q' E' s' k z;unfold isType loadHead;exact wpAny_bind (wpAny_loadPart (k _ _ (X _ _ ho)) (wpAny_pure z))
  ·cases q
 ne:=λh tp dd its n sl X htp=>by
  have q:=c.cls;refine Bool.eq_false_iff.mpr λz=>?_
  cases Value.ref.inj (beq_iff_eq.mp z);unfold clsIn at q;split at q
  ·rename_i ho
   cases(X _ _ ho).symm.trans htp
  ·cases q
 ca:=λX I k=>QpG X I c k
end
end Rx
namespace Rx
open PySem.Calls L2
abbrev mroV:List Value:=[.type "ValueError",.type "Exception",.type "BaseException",.type "object"]
def QxT(h:Heap)(C:Addr):Prop:=∃bm N nm q bs hdct sn sub ab col dd k0 k1 k2 k3 k5 mN,
 h.get? C=some (excClassObj nm q C N bs bm hdct sn sub ab col dd k0 k1 k2 k3 k5 "ValueError.__new__")/\h.Ns N mN/\mN "__init__" = none/\OwnTail h mroV bm
theorem QlJ{K:PySem.W.Frag}{h:Heap}{C:Addr}(X:K.In h)(q:PySem.W.excIn K C mroV "ValueError.__new__" = true):QxT h C:=by
 unfold PySem.W.excIn at q;split at q;next dd cd sl ho=>
  split at q;next C' bm k0 k1 k2 k3 n k5 hm hs=>
   obtain⟨q,e6⟩:=Qs.mp q;obtain⟨q,e5⟩:=Qs.mp q;obtain⟨q,e4⟩:=Qs.mp q;obtain⟨q,e3⟩:=Qs.mp q;obtain⟨e1,e2⟩:=Qs.mp q;cases beq_iff_eq.mp e1;cases beq_iff_eq.mp e2;rcases cd with⟨c1,c2,c3,c4,c5,c6,c7,c8,c9,ca,cb⟩
   rcases sl with⟨sl⟩
   have e7:cb=false:=by
    cases cb with
    |false=>rfl
    |true=>cases e3
   have hm:c3=.ref C::bm:=hm;have hs:sl=[k0,k1,k2,k3,some (.builtin "ValueError.__new__"),k5]:=hs;subst hm hs e7;have hn:h.Ns c4 (h.nsMap c4):=.of_isNs (PySem.W.isNs_of_in X e5);exact⟨_,_,_,_,_,_,_,_,_,_,_,_,_,_,_,_,_,X _ _ ho,hn,PySem.W.nsMap_none_of_in X e5 (beq_iff_eq.mp e6),PySem.W.tail_of_in X e4⟩
  next=>cases q
 next=>cases q
theorem obj_there{P:QC}{w:Ja}{H:Hp}{h:Heap}{a:Addr}{o:HO}(x:ObjOk P w H h a o):∃u,h.get? a=some u:=by
 cases o with
 |lst xs=>obtain⟨_,_,_,_,e⟩:=x;exact⟨_,e⟩
 |tup xs=>obtain⟨_,_,_,p⟩:=x;obtain⟨_,e,_⟩:=p;exact⟨_,e⟩
 |dK kvs=>obtain⟨_,_,_,_,o,_,_,e,_⟩:=x;exact⟨_,e⟩
 |dT kvs=>obtain⟨_,_,_,_,o,_,_,e,_⟩:=x;exact⟨_,e⟩
 |set S n=>obtain⟨o,_,_,_,e,_⟩:=x;exact⟨_,e⟩
 |ins C dx fs=>obtain⟨_,_,_,e,_⟩:=x;exact⟨_,e⟩
 |own y=>exact x
 |xd fs=>obtain⟨_,⟨_,_,_,e,_⟩,_⟩:=x;exact⟨_,e⟩
 |rng lo hi=>obtain⟨_,_,_,e⟩:=x;exact⟨_,e⟩
 |frz ob u=>exact⟨_,x.1⟩
 |tbl ps=>exact⟨_,x⟩
 |met f y=>exact⟨_,x⟩
 |ext φ=>exact x.2.1
def Fly(P:QC)(w:Ja)(outer:List Env)(H:Hp)(s:Shared)(C:Addr)(H':Hp)(e:Value)(s':Shared):Prop:=
 ∃(a t:Addr)(B:Heap),e=.ref a/\s'.os=s.os/\Qd3 s'.gens/\QyK B outer a (.ref C) (.ref t) s'.heap/\s.heap.get? a=none/\H' a=none /\
  ∀h2:Heap,B.StaysIn h2->s'.heap.UpToSlots h2->Un (frs outer) [] H H' s.heap h2/\HOk P w H' h2
def CXE(P:QC)(w:Ja):CXT:=λouter H s E e s'=>∃C H',Fly P w outer H s C H' e s'/\E (.ref C) none H'
def Qrf(E:XK)(C:Addr)(te:TE):TS:=λ_ σ H=>te σ H λ_ H1=>E (.ref C) none H1
section
variable{X:Cx}{E:XK}{C:Addr}{x:Str}{e0:Q3}{te:TE}{np cpos pos:Pos}
theorem Qxp{pins:List (Addr×Obj)}{σ:L2.St}{H:Hp}{s:Shared}{h1:Heap}{a:Addr}{vs:List Value}{M:Qj6}{EE:Value->Shared->Prop}(I:Inv X pins σ H s)(hstk:X.stack=X.env::X.outer)(hfr:X.env.frame=some X.env.locals)(hex:X.ex=[])
  (hx:Heap.MadeExcOf s.heap h1 a (.ref C) vs) :
  wpAny M X.A (leaving X.env (.ref a)) (λ_ s2=>Fly X.prog X.w X.outer X.H₀ X.s₀ C H (.ref a) s2) EE { s with heap:=h1 }:=by
 have fr:X.A.frames=some (X.env::X.outer):=by rw[<- hstk];exact I.ok.frames
 have ff:s.heap.FunFrames X.base (X.env::X.outer):=by rw[<- hstk];exact I.stack
 have hin:∀env∈X.env::X.outer,∀b,env.frame=some b->b∈frs (X.env::X.outer):=λenv he b hb=>Zs.mpr ⟨env,he,hb⟩
 refine wpAny_leaves_madeW (base:=PySem.W.hideAll s.heap (frs (X.env::X.outer))) (h:=s.heap) (L:=X.env.locals) fr hfr (λb o q=>PySem.W.of_hideAll _ q) (PySem.W.funFrames_hide ff hin) hx λh' t x1 x2 x3 x4=>?_
 have nex:∀b:Addr,b∉X.ex:=λb=>by rw[hex];simp
 have free0:X.s₀.heap.get? a=none:=by
  cases q:X.s₀.heap.get? a with
  |none=>rfl
  |some o=>
   obtain⟨o',e⟩:=I.base.there a o q (nex a);rw[hx.new] at e;cases e
 have freeH:H a=none:=by
  cases q:H a with
  |none=>rfl
  |some o=>
   obtain⟨u,e⟩:=obj_there (I.hok a o q);rw[hx.new] at e;cases e
 have stf:∀b∈frs (X.env::X.outer),H b=none:=λb hb=>I.stkFree b (by rw[hstk];exact hb)
 refine⟨a,t,_,rfl,I.os,I.bare,x1,free0,freeH,λh2 st up=>?_⟩;have up2:s.heap.UpToSlots h2:=((Qx6 hx.keeps).trans x4).trans up;have kp:∀b o,s.heap.get? b=some o->b∉frs (X.env::X.outer)->h2.get? b=some o:=λb o e n=>st b o (PySem.W.hideAll_get _ e n)
 have own:∀b o,X.s₀.heap.get? b=some o->b≠X.env.locals:=λb o e z=>by
  have h1:=Qp e;have h2:=I.ok.above;rw[z] at h1;exact absurd (QR h1 h2) (Ym _)
 have nfr:∀b o,X.s₀.heap.get? b=some o->b∉frs X.outer->b∉frs (X.env::X.outer):=λb o e n hb=>by
  unfold frs at hb n;rw[ZC,hfr] at hb;rcases Qv.mp hb with z | z
  ·exact own b o e z
  ·exact n z
 have hdat:∀b∈frs X.outer,∀o,s.heap.get? b=some o->∀vs,o.data≠.fields vs:=λb hb o e=>by
  obtain⟨_,o',ho',hd⟩:=I.funs.mem hb;rw[e] at ho';cases ho';exact hd
 refine⟨⟨λb o e n hb _=>kp b o (I.base.keep b o e n hb (nex b)) (nfr b o e hb),λb o e n hb _=>?_,λb o e n _=>I.base.free b o e n (nex b),λb o e _=>?_,I.base.tups,I.base.frzs,I.base.tbls⟩,λb o e=>?_⟩
 ·obtain⟨sl,e1⟩:=I.base.slot b o e n hb (nex b);obtain⟨sl2,e2⟩:=up2 b _ e1 (hdat b hb _ e1);exact⟨sl2,e2⟩
 ·obtain⟨o',e1⟩:=I.base.there b o e (nex b);by_cases hb:b∈frs X.outer
  ·obtain⟨sl2,e2⟩:=up2 b _ e1 (hdat b hb _ e1);exact⟨_,e2⟩
  ·exact⟨o',kp b o' e1 (nfr b o e hb)⟩
 ·refine(I.hok b o e).stay (λc u hc q=>kp c u q λhm=>?_) (λ_ q=>q) λ_ _ q=>q
  have z:=stf c hm;rcases hc with r | r
  ·rw[r,e] at z;cases z
  ·rw[r] at z;cases z
theorem QoA(hxe:∀e s1,wpAny (model X.prog X.w) X.A (leaving X.env e) (λ_ s2=>CXE X.prog X.w X.outer X.H₀ X.s₀ E e s2) (λe' s2=>CXE X.prog X.w X.outer X.H₀ X.s₀ E e' s2) s1->X.xe e s1)
  (hstk:X.stack=X.env::X.outer)(hfr:X.env.frame=some X.env.locals)(hex:X.ex=[])(hc:X.calm=true)(hg:Gl X x)(hm:X.mg x=some (.ref C))(q:PySem.W.excIn X.K C mroV "ValueError.__new__" = true)
  (ha:PE X e0 te)(he:starEach [e0] X.env=[(false,eval e0 X.env)]:=by rfl)(hd:(x == ("__debug__" : Str))=false:=by decide) :
  PS X (.Raise (some (.Call (.Name x np) [e0] [] cpos)) none pos) (Qrf E C te):=by
 intro pins s σ H D I h;obtain⟨bm,N,nm,qn,bs,hdct,sn,sub,ab,col,dd,k0,k1,k2,k3,k5,mN,hC,hN,hni,T⟩:=QlJ I.ok.mod.kin q;refine wpAny_Raise_call_subT (k5:=k5) (k3:=k3) (k2:=k2) (k1:=k1) (k0:=k0) (dd:=dd) (col:=col) (ab:=ab) (sub:=sub) (sn:=sn) (hdct:=hdct) (bs:=bs) (N:=N) (q:=qn) (nm:=nm) (C:=C) PySem.F.excBase_ValueError (T.hasType PySem.F.excBase_ValueError.hasBase) (I.ok.hd hc) (by rw[he];rfl) hni (QeK I hg hm ?_ hd);refine⟨rfl,?_⟩;rw[he];refine QkY (QnQ (thn (ha pins s σ H _ I h) λu s1 ⟨v,H1,I1,r1,q1⟩=>Qn2 ⟨rfl,by show 1<=sizeLine;decide,I1.bk _ _ hC,hN.keeps I1.bk,T.keeps I1.bk,λh' e hx=>?_⟩));exact hxe _ _ (thn (Qxp I1 hstk hfr hex hx) λ_ s2 z=>⟨C,H1,z,q1⟩)
end
def exO(a C:Addr):HO:=.ext (ExAt a C)
structure ByC (K:PySem.W.Frag) (C R:Addr):Prop where
 ty:PySem.W.typeIn K (.ref R)=some (.type "type")
 cls:(PySem.W.clsIn K R).isSome=true
 base:PySem.W.mroIn K R (.type "BaseException")=some true
 sub:PySem.W.mroIn K C (.ref R)=some true
theorem Qkj{K:PySem.W.Frag}{M:Qj6}{h:Heap}{R:Addr}(X:K.In h)(c:(PySem.W.clsIn K R).isSome=true):PySem.W.Looks M h (isType (.ref R)) true:=by
 unfold PySem.W.clsIn at c;split at c
 ·rename_i ho
  intro A' Q' E' s' k z;unfold isType loadHead;exact wpAny_bind (wpAny_loadPart (k _ _ (X _ _ ho)) (wpAny_pure z))
 ·cases c
theorem Qkw{M:Qj6}{A:Q2}{E:Value->Shared->Prop}{K:PySem.W.Frag}{a C R:Addr}{s:Shared}{Q:Bool->Shared->Prop}(X:K.In s.heap)(I:ExAt a C s.heap)(c:ByC K C R)(h:Q true s) :
  wpAny M A (excMatches (.ref a) (.ref R)) Q E s:=by
 obtain⟨h0,g0,d0,t0,o0⟩:=s;have l1:=PySem.W.looks_typeIn (M:=M) X c.ty;have l2:=Qkj (M:=M) X c.cls;have l3:=PySem.W.looks_mroIn (M:=M) X c.base;have l4:=PySem.W.looks_mroIn (M:=M) X c.sub;have l5:=I.ty (M:=M);have l6:PySem.W.Looks M h0 (isSubtype (.type "type") (.type "tuple")) false:=PySem.W.Looks.of_pure tc_notTuple;unfold excMatches isExcClass isInstance
 repeat (first | lk | exact h)
abbrev mkd (X:Cx) (e:Value):Cx:={ X with A:=X.A.mark (some e),calm:=false,xe:=λ_ _=>False }
section
variable{X:Cx}{pins:List (Addr×Obj)}{σ:L2.St}{H:Hp}{s:Shared}
theorem QmG(I:Inv X pins σ H s)(e:Value):Inv (mkd X e) pins σ H s:=
 ⟨⟨I.ok.mod,I.ok.kind,I.ok.glob,I.ok.blt,I.ok.above,I.ok.inj,I.ok.has,I.ok.cab,(λh=>nomatch h),I.ok.frames,I.ok.stk,I.ok.exf,I.ok.bs,I.ok.bsz,I.ok.noex,I.ok.exfs,I.ok.funs,I.ok.frf⟩,I.os,I.bare,I.base,I.loc,I.cell,I.free,I.freeC,I.pin,I.hok,I.len⟩
theorem Qpv{e:Value}(ok:X.Ok)(I:Inv (mkd X e) pins σ H s):Inv X pins σ H s:=⟨ok,I.os,I.bare,I.base,I.loc,I.cell,I.free,I.freeC,I.pin,I.hok,I.len⟩
theorem QmF{a C:Addr}(I:Inv X pins σ H s)(hf:H a=none)(h0:X.s₀.heap.get? a=none)(hp:∀p∈X.pn++pins,p.1≠a)(x:ExAt a C s.heap):Inv X pins σ (upd H a (exO a C)) s:=by
 obtain⟨o,vs,ho,hcl,hd⟩:=id x;have ne:∀b u,H b=some u->b≠a:=λb u e z=>by rw[z,hf] at e;cases e
 refine⟨I.ok,I.os,I.bare,⟨I.base.keep,I.base.slot,λb u e n hx=>?_,I.base.there,λb xs e=>?_,λb u xs e=>?_,λb ps e=>?_⟩,I.loc,I.cell,?_,λy c e=>?_,λp hp'=>?_,λb u e=>?_,I.len⟩
 ·rw[JG (λz=>by rw[z,h0] at e;cases e)];exact I.base.free b u e n hx
 ·have q:=I.base.tups b xs e;rw[JG (ne b _ q)];exact q
 ·have q:=I.base.frzs b u xs e;rw[JG (ne b _ q)];exact q
 ·obtain⟨m,q⟩:=I.base.tbls b ps e;exact⟨m,by rw[JG (ne b _ q)];exact q⟩
 ·obtain⟨m,⟨oL,es,ep,hoL,hdL,_⟩,_⟩:=I.loc;rw[JG (λz=>by rw[z,ho] at hoL;cases hoL;rw[hd] at hdL;cases hdL)];exact I.free
 ·obtain⟨v,oc,hoc,hdc⟩:=I.cell y c e;rw[JG (λz=>by rw[z,ho] at hoc;cases hoc;rw[hd] at hdc;cases hdc)];exact I.freeC y c e
 ·obtain⟨e,n,r⟩:=I.pin p hp';exact⟨e,by rw[JG (hp p hp')];exact n,r⟩
 ·by_cases hb:b=a
  ·subst hb;rw[JB] at e;cases e;exact⟨x,⟨o,ho⟩,λh1 h2 y k=>by
    obtain⟨o',vs',e',c',d'⟩:=y;exact⟨o',vs',k _ e',c',d'⟩⟩
  ·rw[JG hb] at e;exact(I.hok b u e).stay (λ_ _ _ q=>q) (λc q=>by rw[JG (ne c _ q)];exact q) λc xs q=>by rw[JG (ne c _ q)];exact q
theorem Qpw{i:Nat}{n:Str}{m:Str->Option Value}{v:Option Value}{h':Heap}{tk:Nat}(I:Inv X pins σ H s)(hN:X.N.Nodup)(hi:X.N[i]? = some n)
  (hm:∀(j:Nat)(x:Str)(u:V),X.N[j]? = some x->σ[j]? = some (some u)->Vis X.env.scope x->∃y,RelV u y/\Look X.env s.heap m x y)
  (hn:h'.Ns X.env.locals (λx=>if x=n then v else m x))(hs:YJ X.env.locals s.heap h'):Inv X pins (σ.set i none) H { s with heap:=h',toks:=tk }:=by
 have neL:∀b o,X.s₀.heap.get? b=some o->b≠X.env.locals:=λb o e=>QF (QR (Qp e) I.ok.above)
 have cne:=I.cne;refine⟨I.ok,I.os,I.bare,⟨λb o e z hb hx=>(hs.2 b (neL b o e)).trans (I.base.keep b o e z hb hx),λb o e z hb hx=>?_,I.base.free,λb o e hx=>?_,I.base.tups,I.base.frzs,I.base.tbls⟩,⟨_,hn,λj y u e1 e2 e3=>?_⟩,λy c e=>?_,I.free,I.freeC,λp hp=>?_,λb o e=>?_,?_⟩
 ·obtain⟨sl,e1⟩:=I.base.slot b o e z hb hx;exact⟨sl,(hs.2 b (neL b o e)).trans e1⟩
 ·obtain⟨o',e1⟩:=I.base.there b o e hx;exact⟨o',(hs.2 b (neL b o e)).trans e1⟩
 ·by_cases hj:j=i
  ·subst hj;rw[Qp7] at e2;split at e2
   ·split at e2<;>cases e2
   ·exact absurd rfl ‹¬_›
  ·rw[QaY (Qbm hj)] at e2;obtain⟨u',r',q⟩:=hm j y u e1 e2 e3;refine⟨u',r',?_⟩;rcases q with⟨k,e⟩ | ⟨k,c,e,z⟩
   ·have:y≠n:=λe=>hj (Qgf hN e1 (e ▸ hi))
    exact .inl ⟨k,by simp[this,e]⟩
   ·exact .inr ⟨k,c,e,z.sameBut hs (cne y c e)⟩
 ·obtain⟨w',z⟩:=I.cell y c e;exact⟨w',z.sameBut hs (cne y c e)⟩
 ·obtain⟨e,z,ne,nf,d⟩:=I.pin p hp;exact⟨(hs.2 p.1 ne).trans e,z,ne,nf,d⟩
 ·refine(I.hok b o e).stay (λc u hc q=>(hs.2 c ?_).trans q) (λ_ q=>q) λ_ _ q=>q
  rintro rfl;have z:=I.free;rcases hc with r | r
  ·rw[r,e] at z;cases z
  ·rw[r] at z;cases z
 ·rw[Yg];exact I.len
end
def XP(X:Cx)(pins:List (Addr×Obj))(Ex:L2.St->Addr->Hp->Prop)(e:Value)(s1:Shared):Prop:=
 ∃(σ:L2.St)(C:Addr)(H':Hp)(a t:Addr)(B:Heap),e=.ref a/\QyK B X.stack a (.ref C) (.ref t) s1.heap/\H' a=none/\X.s₀.heap.get? a=none/\(∀p∈X.pn++pins,p.1≠a) /\
  (∀(h2:Heap)(tk:Nat),B.StaysIn h2->s1.heap.UpToSlots h2->Inv X pins σ H' { s1 with heap:=h2,toks:=tk })/\Ex σ C H'
abbrev TX:=L2.St->Hp->VK->(Addr->Hp->Prop)->Prop
def PEX(X:Cx)(e:Q3)(t:TX):Prop:=∀(pins:List (Addr×Obj))(s:Shared)(σ:L2.St)(H:Hp)(Q:VK)(Ex:Addr->Hp->Prop),Inv X pins σ H s->t σ H Q Ex ->
 wpAny (model X.prog X.w) X.A (eval e X.env) (EP X pins σ Q) (XP X pins λσ1 C H1=>σ1=σ/\Ex C H1) s
section
variable{X:Cx}{k:Nat}{f:Addr}{fd:QP}{ps:List Str}{sp:Sp}{x:Str}{p pos:Pos}{e:Q3}{es:List Q3}{t:TA}
end
section
variable{X:Cx}{R:Addr}{i:Nat}{n r:Str}{call hx:Q3}{tc:TX}{th:TE}{rp np hp hpos pos:Pos}
end
structure QnL (k:Nat) (A:Q2):Prop where
 dp:A.depth+3*k+5<recursionLimit
 un:A.units+16*k+200<cLine
theorem Room.m{k:Nat}{A:Q2}(r:Room k A)(e:Value):QnL k (A.mark (some e)):=⟨r.dp,r.un⟩
structure FnM (P:QC) (w:Ja) (K:PySem.W.Frag) (mg:Str->Option Value) (base:Heap) (k:Nat) (f:Addr) (fd:QP) (ps:List Str) (sp:Sp):Prop where
 len:∀vs H Q E,sp vs H Q E->vs.length=ps.length
 run:∀(A:Q2)(outer:List Env)(s:Shared)(H:Hp)(args:Args)(us:List Value)(vs:List V)(Q:VK)(E:XK),QnL k A->Env0 P w K mg base A outer s H->Qe7 s fd args (ps.zip us)->Vals vs us->sp vs H Q E ->
  codeAny (model P w) A (.call (.ref f) args) (CR CX0 outer P w H s Q E) s
def cxM(P:QC)(w:Ja)(K:PySem.W.Frag)(mg:Str->Option Value)(base:Heap)(N:List Str)(qual:Str)(scope:YM)(f:Addr)(cd:Value)(A:Q2)(outer:List Env)(s:Shared)(H:Hp)(E:XK):Cx:=
 { cxOf CX0 P w K mg base N qual scope f cd A outer s H E with calm:=false,xe:=λ_ _=>False }
section
variable{P:QC}{w:Ja}{K:PySem.W.Frag}{mg:Str->Option Value}{base:Heap}
theorem QkD{N ps:List Str}{qual:Str}{scope:YM}{f:Addr}{cd:Value}{A:Q2}{outer:List Env}{s s1:Shared}{H:Hp}{E:XK}{us:List Value}{vs:List V}
  (S:JA N ps scope)(e0:Env0 P w K mg base A outer s H)(hl:vs.length=ps.length)(r:Vals vs us)
  (x:InCallC s s.heap.objs.size (bindL (envOfC qual scope s.heap.objs.size f cd).kindOf (ps.zip us) λ_=>none) (cellsFrom (s.heap.objs.size+1) scope.names []) (bindC (envOfC qual scope s.heap.objs.size f cd).kindOf (ps.zip us) λ_=>none) s1) :
  L2.Inv (cxM P w K mg base N qual scope f cd A outer s H E) [] (start N vs) H s1:=by
 have e1:Env0 P w K mg base { A with handled:=none } outer s H:=⟨e0.frames,e0.mod,e0.bs,e0.bsz,e0.funs,e0.frf,e0.hok,e0.bare⟩;have I:=Qhv (CX:=CX0) (E:=E) (A:={ A with handled:=none }) S rfl e1 hl r x;exact⟨⟨I.ok.mod,I.ok.kind,I.ok.glob,I.ok.blt,I.ok.above,I.ok.inj,I.ok.has,I.ok.cab,(λh=>nomatch h),I.ok.frames,I.ok.stk,I.ok.exf,I.ok.bs,I.ok.bsz,I.ok.noex,I.ok.exfs,I.ok.funs,I.ok.frf⟩,I.os,I.bare,I.base,I.loc,I.cell,I.free,I.freeC,I.pin,I.hok,I.len⟩
theorem okM{x qual:Str}{st:Yt}{f:Addr}{fd:QP}{N ps:List Str}{k:Nat}{sp:Sp}(F:Fun K x qual st f fd)(S:JA N ps (Qx st))(len:∀vs H Q E,sp vs H Q E->vs.length=ps.length)
  (hbody:∀(cdv:Value)(A:Q2)(outer:List Env)(s:Shared)(H:Hp)(vs:List V)(Q:VK)(E:XK),QnL k (A.deeper (envOfC qual (Qx st) s.heap.objs.size f cdv))->sp vs H Q E ->
   ∃t,PSs (cxM P w K mg base N qual (Qx st) f cdv A outer s H E) (JO st) t/\t { nx:=λ_ H'=>Q .non H',rt:=Q } (start N vs) H):FnM P w K mg base (k+1) f fd ps sp:=by
 obtain⟨oc,od,kV,doc,pm,an,cdv,ct,osl,rfl,lk,hcd⟩:=F.ex;refine⟨len,λA outer s H args us vs Q E hr e0 hb r hsp=>?_⟩;have hl:=len _ _ _ _ hsp;have KX:K.In s.heap:=e0.mod.kin.keeps λb o e=>(e0.bs b o e).1
 have lim:s.heap.NoLimit:=e0.mod.nolimit.keeps λb o e=>(e0.bs b o e).1
 have hkind:∀y∈ps.zip us,(Qx st).names.lookup y.1=some .local∨((Qx st).names.lookup y.1=some .cell/\((cellsFrom (s.heap.objs.size+1) (Qx st).names []).lookup y.1).isSome=true):=λ⟨n,v⟩ hy=>by
  rcases S.par n (QcI hy).1 with q | q
  ·exact .inl q
  ·exact .inr ⟨q,PySem.W.cellsFrom_some _ _ _ (.inl q)⟩
 have hdp:A.depth<recursionLimit:=by have:=hr.dp;omega
 refine Qsa hdp (KX _ _ lk) rfl S.co S.gen rfl (PySem.W.codeRec_of KX hcd) (hb _ _ _ _ ?_);refine QkP S.kind hkind λenv he s1 x=>?_
 subst he;refine⟨lim.keeps x.toInCall.keep,codeAny_func ?_⟩;have hr2:QnL k (A.deeper (envOfC qual (Qx st) s.heap.objs.size f cdv)):=⟨by have:=hr.dp;show A.depth+1+3*k+5<_;omega,by have:=hr.un;show A.units+3+16*k+200<_;omega⟩;obtain⟨t,ht,hq⟩:=hbody cdv A outer s H vs Q E hr2 hsp;have I:=QkD (E:=E) S e0 hl r x;refine wpAny_mono (ht [] s1 (start N vs) H _ I hq) (λfl s' hs=>?_) λe s' hs=>JE hs
 have fin:∀{σ':L2.St}{H':Hp}{v:V}{u:Value},L2.Inv (cxM P w K mg base N qual (Qx st) f cdv A outer s H E) [] σ' H' s'->RelV v u->Q v H'->CE outer P w H s Q u s':=
  λ{σ' H' v u} J rv q=>⟨v,H',J.os,J.bare,J.base,J.hok,rv,q⟩
 cases fl with
 |ret u=>
  obtain⟨v,σ',H',J,rv,q⟩:=hs;exact fin J rv q
 |next=>
  obtain⟨σ',H',J,q⟩:=hs;exact fin (v:=V.non) (u:=JI) J rfl q
 |brk=>
  obtain⟨_,_,_,q⟩:=hs;exact JE q
 |cont=>
  obtain⟨_,_,_,q⟩:=hs;exact JE q
end
section
variable{X:Cx}{k:Nat}{f:Addr}{fd:QP}{ps:List Str}{sp:Sp}{x:Str}{p pos:Pos}{e:Q3}{es:List Q3}{t:TA}
theorem QoL(F:FnM X.prog X.w X.K X.mg X.base k f fd ps sp)(hr:QnL k X.A)(hg:Gl X x)(hm:X.mg x=some (.ref f))(hk:PySem.W.keepIn X.K (.ref f)=true)(hb:Binds X.K fd ps [])
  (ha:PA X (e::es) t)(hdb:(x == ("__debug__" : Str))=false:=by decide)(he:starEach (e::es) X.env=(false,eval e X.env)::starEach es X.env:=by rfl)(hpl:(backTo pos (starEach es X.env)).any (·.1)=false:=by rfl) :
  PE X (.Call (.Name x p) (e::es) [] pos) (λσ H Q=>t σ H λvs H1=>sp vs H1 Q E0):=by
 intro pins s σ H Q I h;refine Qb3 (QeK I hg hm ?_ hdb);refine PySem.W.callWith_K (h₀:=X.base) I.ok.mod.kin hk (thn (ha pos pins s σ H _ I h) λus s1 ⟨vs,H1,I1,r,q⟩=>⟨I1.kIn,?_⟩) he hpl;have hl:us.length=ps.length:=by rw[<- r.length];exact F.len _ _ _ _ q
 have hbb:Qe7 s1 fd ⟨us,[]⟩ (ps.zip us):=by
  have z:=hb s1 us I1.kIn (by rw[Jt];exact hl);rw[Jt] at z;exact z
 refine QgL (Qa5 (F.run X.A X.stack s1 H1 ⟨us,[]⟩ us vs Q _ hr I1.env0 hbb r q) λr s2 hq=>?_);cases r with
 |error e=>exact JE hq
 |ok fl=>
  cases fl with
  |ret u=>exact I1.after hq
  |next=>exact JE hq
  |brk=>exact JE hq
  |cont=>exact JE hq
end
section
variable{X:Cx}
theorem QhI:CallR X (.builtin "isinstance") (λxs H Q=>∃a C y c b,xs=[.ref a,y]/\H a=some (exO a C)/\ExC X.K C/\(∀u,RelV y u->u=c)/\PySem.W.kitOne X.K (.ref C) c=some b/\Q (.bl b) H):=by
 intro pins s σ H xs us Q I r h;obtain⟨a,C,y,c,b,rfl,ha,hc,hy,e,q⟩:=h;obtain⟨u,v,rfl,ru,rv⟩:=vals2 r;cases(show u=QQ a from ru);cases hy v rv;exact PySem.W.kia_one (Qt8 hc) I.kIn (I.hok a _ ha).1 e (λz=>nomatch z) λtk=>⟨.bl b,H,I.tok tk,rfl,q⟩
theorem bools_eq{bs:List Bool}{us:List Value}(r:Vals (bs.map V.bl) us):us=bs.map Z3:=by
 induction bs generalizing us with
 |nil=>cases r;rfl
 |cons b bs ih=>
  cases r with
  |cons r t=>
   cases(show _=Z3 b from r);rw[ih t];rfl
def QdC:Value->Bool
 |.bool b=>b
 |_=>false
theorem QkG(bs:List Bool):(bs.map Z3).countP QdC=bs.countP id:=by
 rw[List.countP_map];exact List.countP_congr λb _=>Iff.rfl
def QsO:V->List V->Hp->VK->Prop:=λx vs H Q=>∃(l:Addr)(bs:List Bool),x=.ref l/\vs=[.bl true]/\H l=some (.lst (bs.map V.bl))/\Q (.int (bs.countP id:Nat)) H
theorem Qpn:MtR X "list.count" QsO:=by
 intro pins s σ H x vs v us Q I rx rv h;obtain⟨l,bs,rfl,rfl,hH,q⟩:=h;cases rx;obtain⟨u,rfl,ru⟩:=rv.one;cases(show u=Z3 true from ru);obtain⟨z,its,n,r,hl,e⟩:=I.lstM hH;have hi:=bools_eq r;subst hi;refine QaW F.slot_list_count ⟨_,e,rfl⟩ F.entry_list_count (F.args_list_count_2 _ _) (SeqAt.list_countAt l (bs.map Z3).toArray n none #[] (.bool true) QdC) ⟨e,λy hy=>?_,?_⟩
 ·obtain⟨b,_,rfl⟩:=QL.mp (Qcm.mp hy);have:=QgP (A:=X.A.in1) (s:=s) b true;rw[show(b == true)=b by cases b<;>rfl] at this;exact this
 ·have e2:((bs.map Z3).toArray.toList.countP QdC:Nat)=bs.countP id:=QkG bs;rw[e2];exact⟨.int (bs.countP id:Nat),H,I.tok _,⟨_,rfl⟩,q⟩
def QsM:V->List V->Hp->VK->Prop:=λx vs H Q=>∃(l:Addr)(bs:List Bool)(j:Nat),x=.ref l/\vs=[.bl true]/\H l=some (.lst (bs.map V.bl))/\bs[j]? = some true/\(∀m,m<j->bs[m]? = some false)/\Q (.int (j:Nat)) H
theorem Qpm:MtR X "list.index" QsM:=by
 intro pins s σ H x vs v us Q I rx rv h;obtain⟨l,bs,j,rfl,rfl,hH,hj,hm,q⟩:=h;cases rx;obtain⟨u,rfl,ru⟩:=rv.one;cases(show u=Z3 true from ru);obtain⟨z,its,n,r,hl,e⟩:=I.lstM hH;have hi:=bools_eq r;subst hi;have hlt:=(QM.mp hj).1;have hsz:(bs.map Z3).toArray.size=bs.length:=by simp
 rw[Qe] at z;have hbig:bs.length<2^60:=Z7 z (by decide);refine QaW F.slot_list_index ⟨_,e,rfl⟩ F.entry_list_index (F.args_list_index_2 _ _) (SeqAt.list_indexAt l (bs.map Z3).toArray n none #[] (.bool true) QdC j (by rw[hsz];exact hlt) (by omega) ?_ ?_) ⟨e,λy hy=>?_,?_⟩
 ·have:=(QM.mp hj).2;simp[QdC,this]
 ·intro m hm1 hm2;have:=(QM.mp (hm m hm2)).2;simp[QdC,this]
 ·obtain⟨b,_,rfl⟩:=QL.mp (Qcm.mp hy);have:=QgP (A:=X.A.in1) (s:=s) b true;rw[show(b == true)=b by cases b<;>rfl] at this;exact this
 ·exact⟨.int (j:Nat),H,I.tok _,⟨_,rfl⟩,q⟩
end
end Rx
namespace Rd
open L2
mutual
inductive Dat (H:Hp):V->Qb->Prop
 |non:Dat H .non .none
 |bl (b:Bool):Dat H (.bl b) (.bool b)
 |int (i:Int):Dat H (.int i) (.int i)
 |str (x:Str):Qav (.str x)=true->Dat H (.str x) (.str x)
 |tup {a:Addr} {xs:List V} {ds:List Qb}:H a=some (.tup xs)->Dats H xs ds->Dat H (.ref a) (.tuple ds)
 |lst {a:Addr} {xs:List V} {ds:List Qb}:H a=some (.lst xs)->Dats H xs ds->Dat H (.ref a) (.list ds)
inductive Dats (H:Hp):List V->List Qb->Prop
 |nil:Dats H [] []
 |cons {x:V} {xs:List V} {d:Qb} {ds:List Qb}:Dat H x d->Dats H xs ds->Dats H (x::xs) (d::ds)
end
mutual
theorem Qar{P:QC}{w:Ja}{H:Hp}{h:Heap}(ok:HOk P w H h):∀(d:Qb)(x:V)(v:Value),Dat H x d->RelV x v->(∃as,Qbf h v d as)/\d.canLay0=true
 |.none,_,v,.non,r=>by cases r;exact⟨⟨_,.none⟩,rfl⟩
 |.bool b,_,v,.bl _,r=>by cases r;exact⟨⟨_,.bool b⟩,rfl⟩
 |.int i,_,v,.int _,r=>by obtain⟨t,rfl⟩:=r;exact⟨⟨_,.int i t⟩,rfl⟩
 |.str z,_,v,.str _ c,r=>by obtain⟨t,rfl⟩:=r;exact⟨⟨_,.str z t⟩,c⟩
 |.tuple ds,_,v,.tup (a:=a) (xs:=xs) e q,r=>by
  cases r;obtain⟨_,its,rv,o,ho,hc,n,hd⟩:=ok a _ e;obtain⟨⟨as,ra⟩,cl⟩:=QaI ok ds xs its q rv;exact⟨⟨as,.tuple ho hc hd ra⟩,cl⟩
 |.list ds,_,v,.lst (a:=a) (xs:=xs) e q,r=>by
  cases r;obtain⟨_,its,n,rv,ho⟩:=ok a _ e;obtain⟨⟨as,ra⟩,cl⟩:=QaI ok ds xs its q rv;exact⟨⟨a::as,.list ho rfl rfl ra⟩,cl⟩
 |.dict _,_,_,q,_=>nomatch q
theorem QaI{P:QC}{w:Ja}{H:Hp}{h:Heap}(ok:HOk P w H h):∀(ds:List Qb)(xs:List V)(vs:List Value),Dats H xs ds->Vals xs vs->(∃as,YS h vs ds as)/\Jc ds=true
 |[],_,vs,.nil,r=>by cases r;exact⟨⟨_,.nil⟩,rfl⟩
 |d::ds,_,vs,.cons (x:=x) (xs:=xs) q qs,r=>by
  cases r with
  |cons r rs=>
   obtain⟨⟨a1,r1⟩,c1⟩:=Qar ok d x _ q r;obtain⟨⟨a2,r2⟩,c2⟩:=QaI ok ds xs _ qs rs;exact⟨⟨_,.cons r1 r2⟩,by simp[Jc,c1,c2]⟩
end
mutual
theorem QpK{H H':Hp}(s:Same H H'):∀(d:Qb)(x:V),Dat H x d->Dat H' x d
 |.none,_,.non=>.non
 |.bool _,_,.bl _=>.bl _
 |.int _,_,.int _=>.int _
 |.str _,_,.str _ c=>.str _ c
 |.tuple ds,_,.tup (xs:=xs) e q=>.tup (s _ _ e) (Qc1 s ds xs q)
 |.list ds,_,.lst (xs:=xs) e q=>.lst (s _ _ e) (Qc1 s ds xs q)
 |.dict _,_,q=>nomatch q
theorem Qc1{H H':Hp}(s:Same H H'):∀(ds:List Qb)(xs:List V),Dats H xs ds->Dats H' xs ds
 |[],_,.nil=>.nil
 |d::ds,_,.cons (x:=x) (xs:=xs) q qs=>.cons (QpK s d x q) (Qc1 s ds xs qs)
end
theorem Dats.same{H H':Hp}{xs:List V}{ds:List Qb}(q:Dats H xs ds)(s:Same H H'):Dats H' xs ds:=Qc1 s ds xs q
theorem Dats.length{H:Hp}:∀{xs:List V}{ds:List Qb},Dats H xs ds->xs.length=ds.length
 |_,_,.nil=>rfl
 |_,_,.cons _ q=>by rw[Qy,Qy,q.length]
theorem Dats.get{H:Hp}:∀{xs:List V}{ds:List Qb},Dats H xs ds->∀(i:Nat)(x:V),xs[i]? = some x->∃d,ds[i]? = some d/\Dat H x d
 |_,_,.nil,i,x,e=>by simp at e
 |_,_,.cons q qs,0,x,e=>by simp at e;subst e;exact⟨_,rfl,q⟩
 |_,_,.cons q qs,i+1,x,e=>qs.get i x (by simpa using e)
theorem Dats.app{H:Hp}:∀{xs ys:List V}{ds es:List Qb},Dats H xs ds->Dats H ys es->Dats H (xs++ys) (ds++es)
 |_,_,_,_,.nil,q=>q
 |_,_,_,_,.cons a b,q=>.cons a (b.app q)
section
variable{X:Cx}
def QAY(X:Cx):R2:=λx y H Q=>∃dx dy,Dat H x dx/\Dat H y dy/\X.A.units+min dx.depth dy.depth<cLine/\Q (.bl (JD dx dy)) H
theorem QwM:OpR X (compareOp .Eq) (QAY X):=by
 intro pins s σ H x y v u Q I rx ry h;obtain⟨dx,dy,qx,qy,hu,q⟩:=h;obtain⟨⟨as,ra⟩,ca⟩:=Qar I.hok dx x v qx rx;obtain⟨⟨bs,rb⟩,cb⟩:=Qar I.hok dy y u qy ry;exact SeqAt.compareEq_reads ra rb ca cb hu ⟨.bl _,H,I,rfl,q⟩
open Classical in
noncomputable def eqH (h:Heap) (d:Qb) (y:Value):Bool:=decide (∃e as,Qbf h y e as/\e.canLay0=true/\JD e d=true)
open Classical in
theorem QzJ{h:Heap}{d:Qb}{y:Value}(q:∃e as,Qbf h y e as/\e.canLay0=true/\JD e d=true):eqH h d y=true:=by
 unfold eqH;exact decide_eq_true q
open Classical in
theorem QzK{h:Heap}{d:Qb}{y:Value}(q:¬ ∃e as,Qbf h y e as/\e.canLay0=true/\JD e d=true):eqH h d y=false:=by
 unfold eqH;exact decide_eq_false q
theorem QrQ{h:Heap}{d e:Qb}{y:Value}{as:List Addr}(r:Qbf h y e as)(c:e.canLay0=true):eqH h d y=JD e d:=by
 cases q:JD e d with
 |true=>exact QzJ ⟨e,as,r,c,q⟩
 |false=>
  refine QzK λ⟨e',as',r',c',q'⟩=>?_
  rw[<- QaU e e' y as as' c r r',q] at q';cases q'
theorem QiW{h:Heap}{d:Qb}:∀{vs:List Value}{ds:List Qb}{as:List Addr},YS h vs ds as->Jc ds=true->vs.any (eqH h d)=ds.any λe=>JD e d
 |_,_,_,.nil,_=>rfl
 |_,_,_,.cons r rs,c=>by
  simp only[Jc,JS] at c;rw[Qx4,Qx4,QrQ r c.1,QiW rs c.2]
theorem QiH{A:Q2}{s:Shared}{d:Qb}{v:Value}{bs:List Addr}(rv:Qbf s.heap v d bs)(cv:d.canLay0=true):∀{vs:List Value}{ds:List Qb}{as:List Addr},YS s.heap vs ds as->Jc ds=true->A.units+d.depth<cLine ->
  ∀u∈vs,SeqAt.EqAt A s u v (eqH s.heap d u)
 |_,_,_,.nil,_,_=>λu hu=>nomatch hu
 |_,_,_,.cons (d:=e) r rs,c,hu=>λu hm=>by
  simp only[Jc,JS] at c;rcases Qv.mp hm with z | z
  ·subst z;rw[QrQ r c.1];exact Qe1 e d A s _ v _ bs r rv c.1 cv (Z7 (Nat.add_le_add_left (QfI _ _) _) hu)
  ·exact QiH rv cv rs c.2 hu u z
def QAX(X:Cx)(neg:Bool):R2:=λx y H Q=>∃c ps ds d,y=.ref c/\H c=some (.tup ps)/\Dats H ps ds/\Dat H x d/\X.A.in1.units+d.depth<cLine/\Q (.bl (if neg then !(ds.any λe=>JD e d) else ds.any λe=>JD e d)) H
theorem Qmd:OpR X (compareOp .NotIn) (QAX X true):=by
 intro pins s σ H x y v u Q I rx ry h;obtain⟨c,ps,ds,d,rfl,hc,qs,qx,hu,q⟩:=h;cases ry;obtain⟨⟨as,ra⟩,ca⟩:=Qar I.hok d x v qx rx;obtain⟨_,its,rv,tp⟩:=I.hok c _ hc;obtain⟨⟨bs,rb⟩,cb⟩:=QaI I.hok ds ps its qs rv;refine SeqAt.notIn_tupleAt (eqH s.heap d) tp (λw hw=>QiH ra ca rb cb hu w (Qcm.mp hw)) ⟨.bl _,H,I,rfl,?_⟩;rw[show its.toArray.any (eqH s.heap d)=its.any (eqH s.heap d) by simp,QiW rb cb];exact q
end
section
variable{X:Cx}
end
end Rd
namespace L2
def Ite(l:Addr):It:=
 ⟨λi H=>∃xs x,H l=some (.lst xs)/\xs[i]? = some x,
  λi H v H'=>∃p x,H p=none/\(∀xs,H l=some (.lst xs)->xs[i]? = some x)/\v=.ref p/\H'=upd H p (.tup [.int (i:Nat),x]),
  λi H=>∃xs,H l=some (.lst xs)/\xs.length<=i⟩
theorem Qln{P:QC}{w:Ja}{K:PySem.W.Frag}{elts:List Q3}{x1}{tpos:Pos}{e it l:Addr}(hne:e≠it) :
  Turn P w K (.Tuple elts x1 tpos) (Ite l) [e,it] e (λi h=>(∃old,IsEnum h e it (i:Nat) old)/\h.IsListIter it l i) where
 mem:=by simp
 obj:=λi h st b hb=>by
  obtain⟨⟨old,a1⟩,⟨o2,a2,_,d2⟩⟩:=st;simp only[Qv,Q6,or_false] at hb;rcases hb with rfl | rfl
  ·exact⟨_,a1,λv q=>nomatch q⟩
  ·exact⟨_,a2,λv q=>by rw[d2] at q;cases q⟩
 keep:=λi h h' st k=>by
  obtain⟨⟨old,a1⟩,⟨o2,a2,c2⟩⟩:=st;exact⟨⟨old,k e (by simp) _ a1⟩,o2,k it (by simp) _ a2,c2⟩
 item:=by
  intro X hP hw hK hc i pins s σ H E I hf st hg;subst hP hw hK;obtain⟨xs,x,h1,hx⟩:=hg;obtain⟨⟨old,a1⟩,a2⟩:=st;obtain⟨its,r1,p1,_⟩:=I.list (SqL.of h1);obtain⟨u,hu,ru⟩:=r1.get hx;refine wpAny_pyNext_enum_item a1 a2 p1.isList (x:=u) (by simpa using hu) hne λh' o' l' tp sz kp=>?_
  have fr:H s.heap.objs.size=none:=I.hok.fresh (Qj _);have n1:e≠s.heap.objs.size:=QF (Qp a1);have n2:it≠s.heap.objs.size:=by
   obtain⟨o2,a2,_⟩:=a2;exact QF (Qp a2)
  refine⟨_,rfl,QkQ o' λh2 e2 s2=>?_⟩;have I1:Inv X pins σ (upd H s.heap.objs.size (.tup [.int (i:Nat),x])) { s with heap:=h2,toks:=s.toks+1 }:=by
   refine I.turnedNew (ch:=[e,it]) hf (λb v hb q=>?_) (Qj _) ⟨by show 2<=sizeLine;decide,[.int (i:Nat) s.toks,u],.cons ⟨_,rfl⟩ (.cons ru .nil),?_⟩
   ·simp only[Qv,Q6,or_false,not_or] at hb;exact s2.extBut _ _ hb.1 (kp b v hb.1 hb.2 q)
   ·exact⟨_,s2.extBut _ _ n1.symm tp,rfl,0,rfl⟩
  refine⟨.ref s.heap.objs.size,_,I1,rfl,⟨_,x,fr,λxs' q=>?_,rfl,rfl⟩,⟨⟨u,e2⟩,?_⟩,λb hb=>?_⟩
  ·rw[h1] at q;cases q;exact hx
  ·exact l'.extBut s2.extBut hne.symm
  ·simp only[Qv,Q6,or_false] at hb;rcases hb with rfl | rfl
   ·rw[JG n1];exact(hf _ (by simp)).1
   ·rw[JG n2];exact(hf _ (by simp)).1
 done:=by
  intro X hP hw hK hc i pins s σ H E I hf st hg;subst hP hw hK;obtain⟨xs,h1,he⟩:=hg;obtain⟨⟨old,a1⟩,a2⟩:=st;obtain⟨its,r1,p1,_⟩:=I.list (SqL.of h1);have l1:=r1.length;refine wpAny_pyNext_enum_end (I.ok.hd hc) a1 a2 p1.isList (by simp;omega) λh' kp=>⟨rfl,I.turnedAll (t':=s.toks) (ch:=[e,it]) hf λb v hb q=>?_⟩
  simp only[Qv,Q6,or_false,not_or] at hb;exact kp b v hb.2 q
 self:=λ_ _ _ _ _ st h=>by
  obtain⟨⟨old,a1⟩,_⟩:=st;exact Qcv a1 h
def QzG(ta:TA):TI:=λσ H R=>ta σ H λvs H1=>∃l xs,vs=[.ref l]/\H1 l=some (.lst xs)/\R (Ite l) H1
theorem QhJ:bootBuiltins "enumerate" = some (.type "enumerate"):=by decide +kernel
section
variable{X:Cx}
theorem Qs7{a:Q3}{elts:List Q3}{x1}{tpos:Pos}{ta:TA}{p pos:Pos}(hg:Gl X "enumerate")(hm:X.mg "enumerate" = none)(ha:PA X [a] ta)(hs:starEach [a] X.env=[(false,eval a X.env)]:=by rfl) :
  PI X (.Tuple elts x1 tpos) (.Call (.Name "enumerate" p) [a] [] pos) (QzG ta):=by
 intro pins s σ H R I h;refine Call_ (QdW I hg hm QhJ (Zl (thn (ha pos pins s σ H _ I h) λus s1 ⟨vs,H1,I1,r1,q1⟩=>?_) hs rfl));obtain⟨l,xs,e,h1,q⟩:=q1;subst e;obtain⟨u,rfl,ru⟩:=vals1 r1;cases(show u=QQ l from ru);obtain⟨its,w1,p1,_⟩:=I1.list (SqL.of h1);refine call_enumerate_list p1.isList λh' e1 i1 sz kp=>?_
 refine Qcv (s:={ s1 with heap:=h' }) e1 ?_
 refine⟨s1.heap.objs.size+1,_,_,_,H1,rfl,I1.kept (t':=s1.toks) kp,Qln (by show ¬(s1.heap.objs.size+1=s1.heap.objs.size);omega),⟨⟨_,e1⟩,i1⟩,λb hb=>?_,q⟩;have hb':s1.heap.objs.size<=b:=by
  simp only[Qv,Q6,or_false] at hb;rcases hb with rfl | rfl<;>omega
 exact I1.fpOk hb' (I1.hok.fresh hb')
end
section
variable{prog:QC}{w:Ja}{A:Q2}{R:QnO->Shared->Prop}{s:Shared}
theorem Qg2{elt tg iter:Q3}{ifs:List Q3}{g0:QcR}{scope:YM}{pos:Pos}{it acc:Value}{env:Env}
  (h0:codeAny (model prog w) A (.compLoop (.ListComp elt [g0,⟨tg,iter,ifs,0⟩] scope pos) 1 it acc env) R s)
  (h:wpAny (model prog w) A (pyIter it) (λit' s'=>codeAny (model prog w) A (.compLoop (.ListComp elt [g0,⟨tg,iter,ifs,0⟩] scope pos) 1 it' acc env) R s') (notedBy (model prog w) A env λx s'=>R (.error x) s') s) :
  codeAny (model prog w) A (.compStart (.ListComp elt [g0,⟨tg,iter,ifs,0⟩] scope pos) 1 it acc env) R s:=by
 refine codeAny_of_tree ?_
 show wpAny _ _ ((compStart (.ListComp elt [g0,⟨tg,iter,ifs,0⟩] scope pos) 1 it acc env).onRaise (λx=>do noteFrame x env;standAt theWindowsPlace)) _ _ s;refine wpAny_notedAt ?_
 unfold compStart;show wpAny _ _ (ask >>= _) _ _ s;refine wpAny_bind (Yc (wpAny_ite ?_));split
 ·first
   |exact wpAny_bind (wpAny_pure (wpAny_pure ⟨rfl,h0⟩))
   |exact wpAny_pure ⟨rfl,h0⟩
 ·first
   |exact wpAny_bind (wpAny_rule (wpAny_bind (wpAny_standAt (wpAny_bind (wpAny_mono h (λit' s' h'=>wpAny_pure ⟨rfl,h'⟩) λ_ _ x=>x)))))
   |exact wpAny_bind (wpAny_rule (wpAny_bind (wpAny_standAt (wpAny_bind (wpAny_mono h (λit' s' h'=>wpAny_pure (wpAny_pure ⟨rfl,h'⟩)) λ_ _ x=>x)))))
end
theorem Qll{Y:Cx}{elt tg iter:Q3}{ifs:List Q3}{g0:QcR}{scope:YM}{cpos:Pos}{it D:Addr}(Q:PySem.Fin->Shared->Prop)(E:Value->Shared->Prop)(s:Shared)
  (h:wpAny (model Y.prog Y.w) Y.A (pyNext (.ref it)) (λr s1=>match r with
   |none=>Q (.done .next) s1
   |some v=>wpAny (model Y.prog Y.w) Y.A (letOwnedTupleGo tg (.ref it) v) (λ_ s2=>QnG Y tg ifs (QnJ Y elt D) v (λs3=>Q (.again (.compLoop (.ListComp elt [g0,⟨tg,iter,ifs,0⟩] scope cpos) 1 (.ref it) (.ref D) Y.env)) s3) s2) E s1) E s) :
  wpAny (model Y.prog Y.w) Y.A (compTurn (.ListComp elt [g0,⟨tg,iter,ifs,0⟩] scope cpos) 1 (.ref it) (.ref D) Y.env) Q E s:=by
 have e:compTurn (.ListComp elt [g0,⟨tg,iter,ifs,0⟩] scope cpos) 1 (.ref it) (.ref D) Y.env=(do
   standAt iter.pos
   match <- pyNext (.ref it) with
   |none=>pure (.done .next)
   |some v=>
    letOwnedTupleGo tg (.ref it) v
    assign tg Y.env v
    let mut ok:=true
    for c in ifs do
     if ok then ok <- isTrue c Y.env (eval c Y.env)
    if ok then
     (do let _ <- call (.builtin "list.append") [.ref D,<- eval elt Y.env])
    again (.compLoop (.ListComp elt [g0,⟨tg,iter,ifs,0⟩] scope cpos) 1 (.ref it) (.ref D) Y.env)):=by rfl
 rw[e];refine wpAny_bind (wpAny_standAt (wpAny_bind (thn h λr s1 h1=>?_)));cases r with
 |none=>exact wpAny_pure h1
 |some v=>
  refine wpAny_bind (thn h1 λ_ s2 h2=>?_);refine wpAny_bind (wpAny_mono h2 (λ_ s4 h4=>wpAny_bind (wpAny_mono h4 (λok s5 h5=>?_) λ_ _ f=>f.elim)) λ_ _ f=>f.elim);cases ok with
  |false=>exact wpAny_pure h5
  |true=>exact wpAny_bind (wpAny_bind (wpAny_mono h5 (λx s6 h6=>wpAny_bind (wpAny_mono h6 (λ_ s7 h7=>wpAny_pure (wpAny_pure h7)) λ_ _ f=>f.elim)) λ_ _ f=>f.elim))
def QnH(Y:Cx)(e:Q3)(iter:Q3)(D:Addr):Act:=λQ s=>wpAny (model Y.prog Y.w) Y.A (eval iter Y.env) (λx s1=>wpAny (model Y.prog Y.w) Y.A (pyIter x)
 (λitv s2=>codeAny (model Y.prog Y.w) Y.A (.compStart e 1 itv (.ref D) Y.env) (λr s3=>match r with | .ok _=>Q s3 | .error _=>False) s2) (λ_ _=>False) s1) (λ_ _=>False) s
def QxN(wi:TI)(g:TG)(tc:TT)(p:Addr)(te:TE):St->Hp->(Hp->Prop)->Prop:=λσ H k=>wi σ H λJ H1=>QgZ J (bOf σ g tc (Qu2 p te)) k H1
theorem Qnw{Y:Cx}{σ:St}{elt tg iter:Q3}{ifs:List Q3}{g0:QcR}{scope:YM}{cpos:Pos}{D:Addr}{wi:TI}{g:TG}{tc:TT}{te:TE}(hx:Y.xe=λ_ _=>False)(hc:Y.calm=true)
  (hi:PI Y tg iter wi)(hg:PG Y tg g)(ht:PTs Y ifs tc)(he:PE Y elt te):BodyOk Y σ (QnH Y (.ListComp elt [g0,⟨tg,iter,ifs,0⟩] scope cpos) iter D) (QxN wi g tc D te σ):=by
 intro pins s H k Q I h hQ;have hx':∀(v:Value)(s':Shared),Y.xe v s'->False:=λv s' z=>by rw[hx] at z;exact z
 refine wpAny_mono (hi pins s σ H _ I h) (λv s1 h1=>wpAny_mono h1 (λitv s2 h2=>?_) hx') hx';obtain⟨it,fp,tn,J,H2,e,I2,T,st2,f2,hW⟩:=h2;subst e;have loop:codeAny (model Y.prog Y.w) Y.A (.compLoop (.ListComp elt [g0,⟨tg,iter,ifs,0⟩] scope cpos) 1 (.ref it) (.ref D) Y.env) (λr s3=>match r with | .ok _=>Q s3 | .error _=>False) s2:=
  Qc2 (Y:=Y) (gens:=[g0,⟨tg,iter,ifs,0⟩]) (d:=1) hc T st2 f2 (λQ E s h=>Qll Q E s h) (λx u r=>QeW hx hg ht (λσ4=>QgA hx he) x u r) I2 hW λs' H' I' q=>hQ s' H' I' q
 exact Qg2 loop (T.self _ 0 _ _ _ st2 loop)
theorem Qkc{Y:Cx}{elt tg iter tg2 iter2:Q3}{ifs ifs2:List Q3}{scope:YM}{cpos:Pos}{it D:Addr}(hs:∀x,foldedSetIterable iter2 Y.env x=pure x)(Q:PySem.Fin->Shared->Prop)(E:Value->Shared->Prop)(s:Shared)
  (h:wpAny (model Y.prog Y.w) Y.A (pyNext (.ref it)) (λr s1=>match r with
   |none=>Q (.done .next) s1
   |some v=>wpAny (model Y.prog Y.w) Y.A (letOwnedTupleGo tg (.ref it) v) (λ_ s2=>QnG Y tg ifs (QnH Y (.ListComp elt [⟨tg,iter,ifs,0⟩,⟨tg2,iter2,ifs2,0⟩] scope cpos) iter2 D) v (λs3=>Q (.again (.compLoop (.ListComp elt [⟨tg,iter,ifs,0⟩,⟨tg2,iter2,ifs2,0⟩] scope cpos) 0 (.ref it) (.ref D) Y.env)) s3) s2) E s1) E s) :
  wpAny (model Y.prog Y.w) Y.A (compTurn (.ListComp elt [⟨tg,iter,ifs,0⟩,⟨tg2,iter2,ifs2,0⟩] scope cpos) 0 (.ref it) (.ref D) Y.env) Q E s:=by
 have e:compTurn (.ListComp elt [⟨tg,iter,ifs,0⟩,⟨tg2,iter2,ifs2,0⟩] scope cpos) 0 (.ref it) (.ref D) Y.env=(do
   standAt iter.pos
   match <- pyNext (.ref it) with
   |none=>pure (.done .next)
   |some v=>
    letOwnedTupleGo tg (.ref it) v
    assign tg Y.env v
    let mut ok:=true
    for c in ifs do
     if ok then ok <- isTrue c Y.env (eval c Y.env)
    if ok then
     let x <- eval iter2 Y.env
     standAt iter2.pos
     let x <- foldedSetIterable iter2 Y.env x
     let _ <- runOwn (.compStart (.ListComp elt [⟨tg,iter,ifs,0⟩,⟨tg2,iter2,ifs2,0⟩] scope cpos) 1 (<- holding [x] (pyIter x)) (.ref D) Y.env) Y.env
    again (.compLoop (.ListComp elt [⟨tg,iter,ifs,0⟩,⟨tg2,iter2,ifs2,0⟩] scope cpos) 0 (.ref it) (.ref D) Y.env)):=by rfl
 rw[e];refine wpAny_bind (wpAny_standAt (wpAny_bind (thn h λr s1 h1=>?_)));cases r with
 |none=>exact wpAny_pure h1
 |some v=>
  refine wpAny_bind (thn h1 λ_ s2 h2=>?_);refine wpAny_bind (wpAny_mono h2 (λ_ s4 h4=>wpAny_bind (wpAny_mono h4 (λok s5 h5=>?_) λ_ _ f=>f.elim)) λ_ _ f=>f.elim);cases ok with
  |false=>exact wpAny_pure h5
  |true=>
   refine wpAny_bind (wpAny_mono h5 (λx s6 h6=>wpAny_bind (wpAny_standAt ?_)) λ_ _ f=>f.elim);rw[hs x];refine wpAny_bind (wpAny_pure (wpAny_bind (JL (wpAny_mono h6 (λitv s7 h7=>?_) λ_ _ f=>f.elim))));refine wpAny_bind (wpAny_runOwn (h:=none) (Qa5 h7 λr s8 h8=>?_));cases r with
   |error z=>exact h8.elim
   |ok fl=>exact wpAny_pure h8
def Qrg(cap:List (Option Nat))(wi:TI)(g:TG)(tc:TT)(wi2:TI)(g2:TG)(tc2:TT)(te:TE):TE:=λσ H Q=>wi σ H λJ H1=>∀p,H1 p=none->QgZ J (bOf (Qdg cap σ) g tc (QxN wi2 g2 tc2 p te)) (Q (.ref p)) (upd H1 p (.lst []))
end L2
namespace Rk
open L2 Rd
def pairD(ij:Int×Int):Qb:=.tuple [.int ij.1,.int ij.2]
end Rk
namespace Rr
section
variable{prog:QC}{w:Ja}{A:Q2}{E:Value->Shared->Prop}{s:Shared}
end
end Rr
namespace L2
section
variable{X:Cx}
end
end L2
namespace Rs
open PySem.W
def sp{α:Type}(n:Nat)(c:Nat->Nat->Bool):KasT α->(α->Prop)->Prop
 |.ret a,Q=>Q a
 |.ask i j f,Q=>i<n/\j<n/\sp n c (f (c i j)) Q
theorem QaM{α:Type}{n:Nat}{c:Nat->Nat->Bool}{Q Q':α->Prop}(h:∀a,Q a->Q' a):∀{t:KasT α},sp n c t Q->sp n c t Q'
 |.ret a,q=>h a q
 |.ask i j f,q=>⟨q.1,q.2.1,QaM h (t:=f (c i j)) q.2.2⟩
theorem Qdp{α β:Type}{n:Nat}{c:Nat->Nat->Bool}{f:α->KasT β}{Q:β->Prop}:∀{t:KasT α},sp n c t (λa=>sp n c (f a) Q)->sp n c (t.bind f) Q
 |.ret a,q=>q
 |.ask i j g,q=>⟨q.1,q.2.1,Qdp (t:=g (c i j)) q.2.2⟩
theorem Qi5{α:Type}{n:Nat}{c:Nat->Nat->Bool}{cmp:Nat->Nat->(Bool->Shared->Prop)->Shared->Prop}{s:Shared}{Q:α->Shared->Prop}(hc:∀i j (C:Bool->Shared->Prop),i<n->j<n->C (c i j) s->cmp i j C s) :
  ∀{t:KasT α},sp n c t (λa=>Q a s)->t.kasWp cmp Q s
 |.ret a,q=>q
 |.ask i j f,q=>hc i j _ q.1 q.2.1 (Qi5 hc (t:=f (c i j)) q.2.2)
section
variable{n:Nat}{K:Nat->Int}
abbrev cK (K:Nat->Int) (i j:Nat):Bool:=decide (K i<K j)
structure Good (n:Nat) (p:Array Nat):Prop where
 perm:p.toList.Perm (Qq n)
theorem Good.size{p:Array Nat}(g:Good n p):p.size=n:=by
 have:=g.perm.length_eq;rw[QN,Qc] at this;exact this
def at_(p:Array Nat)(i:Nat):Nat:=p.getD i 0
theorem QnA{p:Array Nat}{i:Nat}(h:i<p.size):p[i]? = some (at_ p i):=by
 unfold at_;rw[YE,Qbs h];rfl
theorem QpT{p q:Array Nat}{i j:Nat}(h:p[i]? = q[j]?):at_ p i=at_ q j:=by
 unfold at_;rw[YE,YE,h]
theorem Good.lt{p:Array Nat}(g:Good n p)(h0:0<n)(i:Nat):at_ p i<n:=by
 by_cases h:i<p.size
 ·have e:=QnA h;have m:at_ p i∈p.toList:=by
   have:=YD e;exact ZK.mpr this
  exact QV.mp (g.perm.mem_iff.mp m)
 ·unfold at_;rw[YE,ZV (by omega)];exact h0
theorem Good.inj{p:Array Nat}(g:Good n p){i j:Nat}(hi:i<n)(hj:j<n)(e:at_ p i=at_ p j):i=j:=by
 have nd:p.toList.Nodup:=g.perm.nodup_iff.mpr Qcl;have hs:=g.size;have hi':i<p.toList.length:=by rw[Qc];omega
 have hj':j<p.toList.length:=by rw[Qc];omega
 have ei:p.toList[i]=at_ p i:=by
  have:=QnA (p:=p) (i:=i) (by omega);rw[Qbs (by omega)] at this;rw[Za];exact QB this
 have ej:p.toList[j]=at_ p j:=by
  have:=QnA (p:=p) (i:=j) (by omega);rw[Qbs (by omega)] at this;rw[Za];exact QB this
 have pw:=Jx.mp nd;rcases YX i j with h | h | h
 ·exact absurd (ei.trans (e.trans ej.symm)) (pw i j hi' hj' h)
 ·exact h
 ·exact absurd (ej.trans (e.symm.trans ei.symm)) (pw j i hj' hi' h)
def kk(K:Nat->Int)(p:Array Nat)(i:Nat):Int:=K (at_ p i)
def Adj(K:Nat->Int)(p:Array Nat)(m:Nat):Prop:=∀i,i+1<m->kk K p i<=kk K p (i+1)
def Dsc(K:Nat->Int)(p:Array Nat)(m:Nat):Prop:=∀i,i+1<m->kk K p (i+1)<kk K p i
theorem Adj.le{p:Array Nat}{m:Nat}(h:Adj K p m){i:Nat}:∀{j:Nat},i<=j->j<m->kk K p i<=kk K p j
 |0,hij,_=>by cases Nat.le_zero.mp hij;exact Int.le_refl _
 |j+1,hij,hj=>by
  by_cases e:i=j+1
  ·rw[e];exact Int.le_refl _
  ·exact QcQ (h.le (i:=i) (j:=j) (by omega) (by omega)) (h j hj)
theorem Qoq{p:Array Nat}(g:Good n p)(i j:Nat):Good n (kas_rev p i j):=⟨(ZA.mp (mirror_perm p i j _)).trans g.perm⟩
theorem Qrp{p:Array Nat}{m k:Nat}(hm:m<=p.size)(hk:k<m):at_ (kas_rev p 0 m) k=at_ p (m - 1 - k):=by
 refine QpT ?_
 have:=Qu8 (xs:=p) (i:=0) (j:=m) hm k;rw[if_pos ⟨Qu _,hk⟩,JU] at this;exact this
theorem QsL{p:Array Nat}{m:Nat}(hm:m<=p.size)(d:Dsc K p m):Adj K (kas_rev p 0 m) m:=by
 intro i hi;unfold kk;rw[Qrp hm (by omega),Qrp hm hi];have:=d (m - 1 - (i+1)) (by omega);have e:m - 1 - (i+1)+1=m - 1 - i:=by omega
 rw[e] at this;exact Int.le_of_lt this
theorem Qlv{p:Array Nat}(g:Good n p)(h0:0<n):∀(f a:Nat),1<=a->Adj K p a ->
  sp n (cK K) (kas_asc p f a) (λm=>a<=m/\m<=a+f/\Adj K p m/\(m=a+f∨kk K p m<kk K p (m - 1)))
 |0,a,_,h=>⟨Qj _,Qj _,h,.inl rfl⟩
 |f+1,a,ha,h=>by
  refine⟨g.lt h0 a,g.lt h0 (a - 1),?_⟩;show sp n (cK K) (if decide (kk K p a<kk K p (a - 1))=true then .ret a else kas_asc p f (a+1)) _;by_cases e:kk K p a<kk K p (a - 1)
  ·rw[decide_eq_true e,if_pos rfl];exact⟨Qj _,QuU _ _,h,.inr e⟩
  ·rw[decide_eq_false e,if_neg (by simp)];refine QaM ?_ (Qlv g h0 f (a+1) (by omega) ?_)
   ·rintro m ⟨h1,h2,h3,h4⟩;exact⟨by omega,by omega,h3,h4.imp (λq=>by omega) id⟩
   ·intro i hi;by_cases q:i+1<a
    ·exact h i q
    ·have e1:i=a - 1:=by omega
     have e2:i+1=a:=by omega
     rw[e2,e1];exact Int.not_lt.mp e
theorem Qw9(inj:∀i j,i<n->j<n->K i=K j->i=j){p:Array Nat}(g:Good n p){i j:Nat}(hi:i<n)(hj:j<n)(h:i≠j):kk K p i≠kk K p j:=
 λe=>h (g.inj hi hj (inj _ _ (g.lt (by omega) i) (g.lt (by omega) j) e))
theorem Qlu(inj:∀i j,i<n->j<n->K i=K j->i=j){p:Array Nat}(g:Good n p)(h0:0<n):∀(f a:Nat),1<=a->a+f<=n->Dsc K p a ->
  sp n (cK K) (kas_desc f p a 0) (λr=>r.1=p/\r.2.2=0/\a<=r.2.1/\r.2.1<=a+f/\Dsc K p r.2.1)
 |0,a,_,_,h=>⟨rfl,rfl,Qj _,Qj _,h⟩
 |f+1,a,ha,haf,h=>by
  refine⟨g.lt h0 a,g.lt h0 (a - 1),?_⟩;show sp n (cK K) (if decide (kk K p a<kk K p (a - 1))=true then(if 0 > 0 then kas_desc f (kas_rev p (a - (0+1)) a) (a+1) 0 else kas_desc f p (a+1) 0) else _) _;by_cases e:kk K p a<kk K p (a - 1)
  ·rw[decide_eq_true e,if_pos rfl,if_neg (by omega)];refine QaM ?_ (Qlu inj g h0 f (a+1) (by omega) (by omega) ?_)
   ·rintro r ⟨h1,h2,h3,h4,h5⟩;exact⟨h1,h2,by omega,by omega,h5⟩
   ·intro i hi;by_cases q:i+1<a
    ·exact h i q
    ·have e1:i=a - 1:=by omega
     have e2:i+1=a:=by omega
     rw[e2,e1];exact e
  ·rw[decide_eq_false e,if_neg (by simp)];refine⟨g.lt h0 (a - 1),g.lt h0 a,?_⟩;show sp n (cK K) (if decide (kk K p (a - 1)<kk K p a)=true then .ret (p,a,0) else _) _;have ne:=Qw9 (K:=K) inj g (i:=a - 1) (j:=a) (by omega) (by omega) (by omega);rw[decide_eq_true (by omega),if_pos rfl];exact⟨rfl,rfl,Qj _,QuU _ _,h⟩
def Run(K:Nat->Int)(n:Nat)(r:Nat×Array Nat):Prop:=Good n r.2/\1<=r.1/\r.1<=n/\Adj K r.2 r.1
theorem Qob{p:Array Nat}(g:Good n p){m:Nat}(h1:1<=m)(hm:m<=n)(d:Dsc K p m):sp n (cK K) (kas_tail3 m n p) (Run K n):=by
 refine Qdp ?_
 have hs:=g.size;have g':=Qoq g 0 m;refine QaM ?_ (Qlv g' (by omega) (n - m) m h1 (QsL (by omega) d))
 rintro k ⟨a,b,c,_⟩;exact⟨g',by omega,by omega,c⟩
theorem Qik(inj:∀i j,i<n->j<n->K i=K j->i=j){p:Array Nat}(g:Good n p){m:Nat}(hm:m+1<=n)(d:Dsc K p (m+1)):sp n (cK K) (kas_descPart m n p) (Run K n):=by
 refine Qdp ?_
 refine QaM ?_ (Qlu inj g (by omega) (n - (m+1)) (m+1) (by omega) (by omega) d)
 rintro⟨p',k,q⟩ ⟨e1,e2,h3,h4,h5⟩;have e1:p'=p:=e1;have e2:q=0:=e2;subst e1 e2;show sp n (cK K) (if 0 > 0 then _ else kas_tail3 k n p') _;rw[if_neg (by omega)];have h3:m+1<=k:=h3;have h4:k<=m+1+(n - (m+1)):=h4;exact Qob g (by omega) (by omega) h5
theorem Qoc(inj:∀i j,i<n->j<n->K i=K j->i=j){p:Array Nat}(g:Good n p)(h0:0<n):sp n (cK K) (kas_count n p) (Run K n):=by
 refine Qdp ?_
 refine QaM ?_ (Qlv g h0 (n - 1) 1 (Qj _) (λi hi=>by omega))
 rintro m ⟨h1,h2,h3,h4⟩;show sp n (cK K) (if(m == n)=true then .ret (m,p) else if m > 1 then _ else kas_descPart m n p) _;by_cases e:m=n
 ·rw[if_pos (beq_iff_eq.mpr e)];exact⟨g,h1,by omega,h3⟩
 ·rw[if_neg (λq=>e (beq_iff_eq.mp q))];by_cases e2:m > 1
  ·rw[if_pos e2];refine⟨g.lt h0 0,g.lt h0 (m - 1),?_⟩;show sp n (cK K) (if decide (kk K p 0<kk K p (m - 1))=true then .ret (m,p) else _) _;have le:=h3.le (i:=0) (j:=m - 1) (by omega) (by omega);have ne:=Qw9 (K:=K) inj g (i:=0) (j:=m - 1) (by omega) (by omega) (by omega);rw[decide_eq_true (by omega),if_pos rfl];exact⟨g,h1,by omega,h3⟩
  ·rw[if_neg e2];have em:m=1:=by omega
   subst em;refine Qik inj g (by omega) λi hi=>?_
   have ei:i=0:=by omega
   subst ei;rcases h4 with q | q
   ·omega
   ·exact q
theorem QfS{p:Array Nat}(g:Good n p)(h0:0<n){k:Nat}(A:Adj K p k):∀(f l r:Nat),l<=r->r<=k->r - l<=f->(∀i,i<l->kk K p i<=kk K p k)->(∀i,r<=i->i<k->kk K p k<kk K p i) ->
  sp n (cK K) (kas_place p k f l r) (λm=>m<=k/\(∀i,i<m->kk K p i<=kk K p k)/\∀i,m<=i->i<k->kk K p k<kk K p i)
 |0,l,r,h1,h2,h3,a,b=>⟨by omega,a,λi hi hk=>b i (by omega) hk⟩
 |f+1,l,r,h1,h2,h3,a,b=>by
  show sp n (cK K) (if l≥r then .ret l else _) _;by_cases e:l≥r
  ·rw[if_pos e];exact⟨by omega,a,λi hi hk=>b i (by omega) hk⟩
  ·rw[if_neg e];refine⟨g.lt h0 k,g.lt h0 ((l+r) / 2),?_⟩;show sp n (cK K) (if decide (kk K p k<kk K p ((l+r) / 2))=true then kas_place p k f l ((l+r) / 2) else kas_place p k f ((l+r) / 2+1) r) _;by_cases q:kk K p k<kk K p ((l+r) / 2)
   ·rw[decide_eq_true q,if_pos rfl];refine QfS g h0 A f l ((l+r) / 2) (by omega) (by omega) (by omega) a λi hi hk=>?_
    exact Int.lt_of_lt_of_le q (A.le hi hk)
   ·rw[decide_eq_false q,if_neg (by simp)];refine QfS g h0 A f ((l+r) / 2+1) r (by omega) h2 (by omega) (λi hi=>?_) b;exact QcQ (A.le (i:=i) (j:=(l+r) / 2) (by omega) (by omega)) (Int.not_lt.mp q)
theorem Qrj(h0:0<n):∀(f k:Nat){p:Array Nat},Good n p->k+f<=n->Adj K p k->sp n (cK K) (kas_bin f p k) (λp'=>Good n p'/\Adj K p' (k+f))
 |0,k,p,g,_,A=>⟨g,A⟩
 |f+1,k,p,g,hk,A=>by
  refine Qdp ?_
  refine QaM ?_ (QfS g h0 A k 0 k (Qu _) (Qj _) (by omega) (λi hi=>by omega) (λi hi hk=>by omega))
  rintro l ⟨hl,lo,hi⟩;have hs:=g.size;have bb:∀j,at_ (bubble p k (k - l)) j=if j=l then at_ p k else if l<j/\j<=k then at_ p (j - 1) else at_ p j:=by
   intro j;have:=getElem?_bubble (xs:=p) (src:=k) (by omega) (k - l) (by omega) j
   have e:k - (k - l)=l:=by omega
   rw[e] at this;split
   ·rename_i q;rw[if_pos q] at this;exact QpT this
   ·rename_i q
    rw[if_neg q] at this;split
    ·rename_i q2;rw[if_pos q2] at this;exact QpT this
    ·rename_i q2;rw[if_neg q2] at this;exact QpT this
  refine QaM ?_ (Qrj h0 f (k+1) (p:=bubble p k (k - l)) ⟨(ZA.mp (bubble_perm p k (k - l))).trans g.perm⟩ (by omega) ?_)
  ·rintro p' ⟨a,b⟩;exact⟨a,by rw[show k+(f+1)=k+1+f by omega];exact b⟩
  ·intro i hik;unfold kk;rw[bb,bb];by_cases c1:i+1<l
   ·rw[if_neg (by omega),if_neg (by omega),if_neg (by omega),if_neg (by omega)];exact A i (by omega)
   ·by_cases c2:i+1=l
    ·rw[if_neg (by omega),if_neg (by omega),if_pos c2];exact lo i (by omega)
    ·by_cases c3:i=l
     ·rw[if_pos c3,if_neg (by omega),if_pos ⟨by omega,by omega⟩];exact Int.le_of_lt (hi (i+1 - 1) (by omega) (by omega))
     ·rw[if_neg c3,if_pos ⟨by omega,by omega⟩,if_neg (by omega),if_pos ⟨by omega,by omega⟩];have:=A (i - 1) (by omega);rw[show i - 1+1=i+1 - 1 by omega] at this;exact this
theorem QsA(inj:∀i j,i<n->j<n->K i=K j->i=j)(h0:0<n):sp n (cK K) (kas_sort n) (λp=>Good n p/\Adj K p n):=by
 have g:Good n (Z5 (Qq n)):=⟨Z0 _⟩;refine Qdp ?_
 refine QaM ?_ (Qoc inj g h0)
 rintro⟨m,p⟩ ⟨g',h1,h2,A⟩;show sp n (cK K) (if m<n then kas_bin (n - max m 1) p (max m 1) else .ret p) _;have e:max m 1=m:=by have:1<=m:=h1;omega
 rw[e];by_cases q:m<n
 ·rw[if_pos q];refine QaM ?_ (Qrj h0 (n - m) m g' (by omega) A)
  rintro p' ⟨a,b⟩;exact⟨a,by rw[show m+(n - m)=n by omega] at b;exact b⟩
 ·rw[if_neg q];have h2:m<=n:=h2;have e2:m=n:=by omega
  subst e2;exact⟨g',A⟩
end
end Rs
namespace Rs
open PySem.W PySem.Calls
section
variable{prog:QC}{w:Ja}{A:Q2}{E:Value->Shared->Prop}{s:Shared}
def Kept(a:Addr)(h h':Heap):Prop:=∀b x,b≠a->h.get? b=some x->h'.get? b=some x
theorem Qb7{h:Heap}{a:Addr}(f:Obj->Obj):Kept a h (h.update a f):=λb x hb e=>(Heap.get?_update_ne _ _ _ _ hb).trans e
theorem QcW{h:Heap}{a:Addr}(o:Obj):Kept a h (h.push o):=λb x _ e=>Qd _ e
theorem Kept.trans{a:Addr}{h h1 h2:Heap}(k:Kept a h h1)(k':Kept a h1 h2):Kept a h h2:=λb x hb e=>k' b x hb (k b x hb e)
theorem QlI(vs:List Value):(Qq vs.length).map (λi=>vs.getD i JI)=vs:=by
 apply QaA
 intro i;rw[Qz];by_cases h:i<vs.length
 ·rw[Zn h,Qf h];show some (vs.getD i JI)=_;rw[Qi,Qf h];rfl
 ·rw[JR (by simpa using h),JR (by omega)];rfl
theorem QnT{a:Addr}{vs:List Value}{n:Nat}{P:PySem.Fin->Shared->Prop}(ho:s.heap.get? a=some (seqObj "list" vs.toArray n))(h64:vs.length<64)(K:Nat->Int)(κ:Yd)
  (inj:∀i j,i<vs.length->j<vs.length->K i=K j->i=j)
  (hkind:2<=vs.length->∀h':Heap,Kept a s.heap h'->∀(Q':Yd->Shared->Prop)(E':Value->Shared->Prop),Q' κ { s with heap:=h' }->wpAny (model prog w) A (keyKind' vs.toArray) Q' E' { s with heap:=h' })
  (hcmp:∀h':Heap,Kept a s.heap h'->∀(i j:Nat)(C:Bool->Shared->Prop),i<vs.length->j<vs.length->C (decide (K i<K j)) { s with heap:=h' }->wpAny (model prog w) A (keyLt' κ (vs.getD i JI) (vs.getD j JI)) C (λ_ _=>False) { s with heap:=h' })
  (h:∀p:Array Nat,Good vs.length p->Adj K p vs.length->∀(h':Heap)(e:Nat),Kept a s.heap h'->h'.get? a=some (seqObj "list" (Z5 (p.toList.map λi=>vs.getD i JI)) e)->P (.done (.ret .none)) { s with heap:=h' }) :
  wpAny (model prog w) A (Yn.«list.sort» ⟨[.ref a],[]⟩) P E s:=by
 have ha:a<s.heap.objs.size:=Qp ho;obtain⟨e1,ho1⟩:∃e1,(s.heap.update a (J4 λ_=>(#[]:Array Value))).get? a=some (seqObj "list" #[] e1):=⟨_,QbH ho λ_=>#[]⟩
 have K3:Kept a s.heap (((s.heap.update a (J4 λ_=>(#[]:Array Value))).push (seqObj "tuple" vs.toArray 0)).push (seqObj "list" #[] 0)):=(Qb7 _).trans ((QcW _).trans (QcW _));have ho6:(((s.heap.update a (J4 λ_=>(#[]:Array Value))).push (seqObj "tuple" vs.toArray 0)).push (seqObj "list" #[] 0)).get? a=some (seqObj "list" #[] e1):=Qd _ (Qd _ ho1);rw[list_sort_plain];refine wpAny_bind (Qr8 ho rfl ?_);refine wpAny_bind (Qbo ho rfl ?_ (by rw[Qr,Yh];omega) (Qu _));refine wpAny_bind (QcM ho1 rfl ?_);refine wpAny_bind (Qk1 ?_ (by show vs.length<=_;rw[Yh];omega));refine wpAny_bind (QfE ?_ (Qu _));refine JL ?_
 show wpAny (model prog w) A _ P E { s with heap:=((s.heap.update a (J4 λ_=>(#[]:Array Value))).push (seqObj "tuple" vs.toArray 0)).push (seqObj "list" #[] 0) }
 dsimp only
 generalize (((s.heap.update a (J4 λ_=>(#[]:Array Value))).push (seqObj "tuple" vs.toArray 0)).push (seqObj "list" #[] 0))=h3 at K3 ho6 ⊢;have fin:∀p:Array Nat,Good vs.length p->Adj K p vs.length->∀st':JX,(arrOf st').map (·.2)=Z5 (p.toList.map λi=>vs.getD i JI)->failedOf st'=none ->
   ∃e2,(h3.update a (J4 λ_=>Z5 (p.toList.map λi=>vs.getD i JI))).get? a=some (seqObj "list" (Z5 (p.toList.map λi=>vs.getD i JI)) e2):=λp _ _ _ _ _=>⟨_,QbH ho6 λ_=>_⟩
 by_cases h2:vs.toArray.size<2
 ·rw[if_pos h2,if_pos h2];refine wpAny_bind (wpAny_pure ?_);rw[Qp0];refine wpAny_bind (wpAny_pure ?_)
  dsimp only
  have gg:Good vs.length (Z5 (Qq vs.length)):=⟨Z0 _⟩;have aa:Adj K (Z5 (Qq vs.length)) vs.length:=λi hi=>by rw[Qr] at h2;omega
  have out:(arrOf (QnN general' (vs.toArray.zip vs.toArray) #[] 7 none)).map (·.2)=Z5 ((Z5 (Qq vs.length)).toList.map λi=>vs.getD i JI):=by
   show(vs.toArray.zip vs.toArray).map (·.2)=_;rw[ZS,QlI];apply Qb6.mp
   rw[Qrb,Qra];show(vs.zip vs).map (·.2)=vs;exact Qsi (Qj _)
  obtain⟨e2,he2⟩:=fin _ gg aa _ out rfl;rw[out];refine wpAny_bind (QcM ho6 rfl ?_);refine wpAny_bind (Qbo ho6 rfl ?_ (Qu _) (by rw[Qr,Qe,ZS,QN,Yh];omega));simp only[bne_self_eq_false,Zw,if_false];exact wpAny_pure (h _ gg aa _ e2 (K3.trans (Qb7 _)) he2)
 ·rw[if_neg h2,if_neg h2];have h2':2<=vs.length:=by rw[Qr] at h2;omega
  refine wpAny_bind (hkind h2' h3 K3 _ _ ?_);refine wpAny_bind (wpAny_mono (kat_run (Q:=λst' s'=>∃p:Array Nat,Good vs.length p/\Adj K p vs.length/\arrOf st'=p.map (kas_item (vs.toArray.zip vs.toArray))/\failedOf st'=none/\s'={ s with heap:=h3 })
   (G:=λp s'=>Good vs.length p/\Adj K p vs.length/\s'={ s with heap:=h3 }) rfl h2' h64 (λp' st' s' a1 a2 a3 a4=>⟨p',a4.1,a4.2.1,a2,a3,a4.2.2⟩)
   (Qi5 (c:=cK K) (λi j C hi hj hC=>hcmp h3 K3 i j C hi hj hC) (QaM (λp q=>⟨q.1,q.2,rfl⟩) (QsA inj (by omega))))) ?_ λ_ _ e=>e)
  rintro⟨⟨⟩,st'⟩ s' ⟨p,gg,aa,har,hf,rfl⟩
  dsimp only
  have out:=kat_snds (ks:=vs) rfl har;obtain⟨e2,he2⟩:=fin p gg aa st' out hf;rw[out];refine wpAny_bind (QcM ho6 rfl ?_);refine wpAny_bind (Qbo ho6 rfl ?_ (Qu _) (by rw[Qr,Qe,Qc,gg.size,Yh];omega));rw[hf];simp only[bne_self_eq_false,Zw,if_false];exact wpAny_pure (h p gg aa _ e2 (K3.trans (Qb7 _)) he2)
theorem QdQ{Q:Value->Shared->Prop}{l:Addr}{T:String}{o:Obj}{vs:List Value}{n:Nat}(hT:T = "list" ∨ T = "tuple")(ho:s.heap.get? l=some o)(hc:o.cls=.type T)(hd:o.data=.seq vs.toArray n)(h64:vs.length<64)
  (h:∀h':Heap,(∀b x,s.heap.get? b=some x->h'.get? b=some x)->∀(P:PySem.Fin->Shared->Prop)(E':Value->Shared->Prop),(∀s2,Q (.ref h'.objs.size) s2->P (.done (.ret .none)) s2) ->
   wpAny (model prog w) A.in1.in1 (Yn.«list.sort» ⟨[.ref h'.objs.size],[]⟩) P E' { s with heap:=h'.push (seqObj "list" vs.toArray 0) }) :
  wpAny (model prog w) A (call (.builtin "sorted") [.ref l]) Q E s:=by
 refine QgV kind_sorted plain_sorted entry_sorted (args_sorted1 _) ?_
 unfold Yn.«sorted»;refine wpAny_bind (m:=checkCount "sorted" 1 1 _) (wpAny_pure ?_);refine wpAny_bind (wpAny_collect_seq (items:=vs.toArray) l hT ho hc hd (λh' kp=>?_) (by rw[Qr,Yh];omega));refine wpAny_bind (QfE ?_ (by rw[ZS,Yh];omega));have hoL:(h'.push (seqObj "list" vs.toArray 0)).get? h'.objs.size=some (seqObj "list" vs.toArray 0):=QD _ rfl;show wpAny _ _ _ _ _ { s with heap:=h'.push (seqObj "list" vs.toArray 0) };refine wpAny_bind (JL (JW slot_list_sort ⟨_,hoL,rfl⟩ entry_list_sort ?body (args_list_sort _)));exact h h' kp _ _ λs2 hq=>⟨_,rfl,wpAny_pure ⟨_,rfl,hq⟩⟩
end
section
variable{prog:QC}{w:Ja}{A:Q2}{E:Value->Shared->Prop}{s:Shared}
end
end Rs
namespace L2
open _root_.Rd _root_.Rk _root_.Rs
theorem boot_sorted:bootBuiltins "sorted" = some (.builtin "sorted"):=by decide +kernel
section
variable{X:Cx}
theorem Qgn:∀{ns:List Int}{vs:List Value},Vals (ns.map V.int) vs->IntsAre vs ns
 |[],_,.nil=>.nil
 |i::ns,_,.cons ⟨t,e⟩ r=>by subst e;exact .cons _ _ (Qgn r)
theorem QgB:∀{ns:List Int}{vs:List Value},IntsAre vs ns->Vals (ns.map V.int) vs
 |_,_,.nil=>.nil
 |_,_,.cons n t r=>.cons ⟨t,rfl⟩ (QgB r)
def Qrq(K:PySem.W.Frag):List V->Hp->VK->Prop:=λxs H Q=>∃l ns,xs=[.ref l]/\SqT K H l ((ns:List Int).map V.int)/\ns.length<64 /\
 ∀t ms H2,Same H H2->H t=none->H2 t=some (.lst ((ms:List Int).map V.int))->ms.Perm ns->ms.Pairwise (·<=·)->Q (.ref t) H2
theorem QkI:CallR X (.builtin "sorted") (Qrq X.K):=by
 intro pins s σ H xs us Q I r h;obtain⟨l,ns,rfl,hl,h64,q⟩:=h;obtain⟨u,rfl,ru⟩:=vals1 r;cases ru;obtain⟨its,rv,tp,hz⟩:=I.tuple hl;obtain⟨o,ho,hc,n,hd⟩:=tp;have li:=rv.length;rw[Qe] at li;refine QdQ (.inr rfl) ho hc hd (by omega) λh' kp P E' hP=>?_
 have hn:(h'.push (seqObj "list" its.toArray 0)).get? h'.objs.size=some (seqObj "list" its.toArray 0):=QD _ rfl;refine list_sort_tree (s:={ s with heap:=h'.push (seqObj "list" its.toArray 0) }) hn (Qgn rv) (by omega) λout ns' ia pm pw=>hP _ ?_
 have I1:Inv X pins σ H { s with heap:=h' }:=I.kept (t':=s.toks) kp;have hf:H h'.objs.size=none:=I1.hok.fresh (Qj _);obtain⟨e,he⟩:∃e,(sortedHeap (h'.push (seqObj "list" its.toArray 0)) h'.objs.size its out).get? h'.objs.size=some (seqObj "list" out e):=sortedHeap_at hn
 have rv':=QgB ia;have lp:=pm.length_eq;have I2:Inv X pins σ (upd H h'.objs.size (.lst (ns'.map V.int))) { s with heap:=sortedHeap (h'.push (seqObj "list" its.toArray 0)) h'.objs.size its out }:=
  I1.laid (t':=s.toks) (λb x e'=>(sortedHeap_old (QF (Qp e')) (QR (Qp e') (by rw[size_push'];exact Nat.le_succ _))).trans (Qd _ e')) (Qj _) (show ObjOk X.prog X.w _ _ _ (.lst _) from⟨by rw[Qe];exact Z8 (Rk.QbU (by omega)),out.toList,e,rv',by rw[he]⟩)
 exact⟨.ref h'.objs.size,_,I2,rfl,q _ ns' _ (JC hf) hf JB pm pw⟩
end
end L2
namespace Re
open AutoSeq1 (wpAny_loadPart')
theorem QrS{prog:QC}{w:Ja}{A:Q2}{it t:Addr}{items:Array Value}(hh:A.handled=none)(hti:t≠it) :
  Draws prog w A it [it,t] items.size (λi x=>items[i]? = some x) (λi h=>h.IsTupleIter it t i/\h.IsTuple t items) where
 live:=λi h st=>by
  obtain⟨⟨o,ho,_⟩,_⟩:=st;exact⟨o,ho⟩
 frame:=λi h h' st k=>by
  obtain⟨⟨o,ho,c⟩,⟨o2,h2,c2⟩⟩:=st;exact⟨⟨o,k it (by simp) _ ho,c⟩,⟨o2,k t (by simp) _ h2,c2⟩⟩
 item:=λi s Q E hi st hQ=>by
  refine Rz.Qem st.1 st.2 (x:=items[i]) (by simp[hi]) λh' hit' hs'=>?_
  refine hQ _ h' s.toks (by simp[hi]) ⟨hit',?_⟩ hs';obtain⟨o2,h2,c2⟩:=st.2;exact⟨o2,(hs'.2 t hti).trans h2,c2⟩
 done:=λs Q E st hE=>Rz.QiB hh st.1 st.2 (by simp) hE
theorem Qkv(l:Addr)(items:Array Value)(n:Nat)(dct:Option Addr)(sl:Array (Option Value)) :
  Meets (Yn.«enumerate.__new__» ⟨[.type "enumerate",.ref l],[]⟩) (λ_ R s=>s.heap.get? l=some { cls:=.type "tuple",dict:=dct,data:=.seq items n,slots:=sl } /\
   R (.ok (.ret (.ref (s.heap.push { cls:=.type "tuple_iterator",data:=.fields #[.ref l,.int 0 0] }).objs.size)))
    { s with heap:=(s.heap.push { cls:=.type "tuple_iterator",data:=.fields #[.ref l,.int 0 0] }).push { cls:=.type "enumerate",data:=.fields #[.none,.bool false,.ref s.heap.objs.size,rawInt 0,.none,.none] } }):=
 .of_wp λprog w A R s h=>by
  obtain⟨hp,g,d,tk,os⟩:=s;obtain⟨hl,h⟩:=h;have hsub:=sub_enumerate;have hL:QkX (QkS ⟨hp,g,d,tk,os⟩) l items:=⟨_,hl,rfl,n,rfl⟩
  wp_walk using Z4 hl
  refine wpAny_stack_any λst=>wpAny_pure ?_
  split
  ·rename_i c _ _ _ _ _
   cases(c == Z2 "enumerate")
   ·wp_walk using Z4 hl,YR hL
    exact⟨_,rfl,h⟩
   ·wp_walk using Z4 hl,YR hL
    exact⟨_,rfl,h⟩
  ·wp_walk using Z4 hl,YR hL
   exact⟨_,rfl,h⟩
theorem QkK{prog:QC}{w:Ja}{A:Q2}{E:Value->Shared->Prop}{s:Shared}{l:Addr}{items:Array Value}{Q:Value->Shared->Prop}(hL:s.heap.IsTuple l items)
  (h:∀h',IsEnum h' (s.heap.objs.size+1) s.heap.objs.size 0 .none->h'.IsTupleIter s.heap.objs.size l 0->(∀b o,s.heap.get? b=some o->h'.get? b=some o)->Q (.ref (s.heap.objs.size+1)) { s with heap:=h' }) :
  wpAny (model prog w) A (call (.type "enumerate") [.ref l]) Q E s:=by
 obtain⟨⟨c,dct,dt,sl⟩,hl,hc,n,hd⟩:=hL
 replace hc:c=.type "tuple" := hc
 replace hd:dt=.seq items n:=hd
 subst hc hd;refine callType_new F.called_enumerate (by decide) (F.typeCall_enumerate_1 _) (F.newCall_enumerate_1 _) (λobj=>F.args_object_init_2 obj _) F.entry_enumerate_new (Qkv l items n dct sl) ⟨hl,?_⟩;have hz:(s.heap.push { cls:=.type "tuple_iterator",data:=.fields #[.ref l,.int 0 0] }).objs.size=s.heap.objs.size+1:=ZN ..;show _/\_;rw[hz];have he:=QD (s.heap.push { cls:=.type "tuple_iterator",data:=.fields #[.ref l,.int 0 0] }) (o:={ cls:=.type "enumerate",data:=.fields #[.none,.bool false,.ref s.heap.objs.size,rawInt 0,.none,.none] }) rfl;rw[hz] at he;exact⟨⟨_,he,rfl⟩,h _ he ⟨_,Qd _ (QD _ rfl),rfl,rfl⟩ λb o x=>Qd _ (Qd _ x)⟩
end Re
namespace L2
def Iet(l:Addr):It:=
 ⟨λi H=>∃xs x,H l=some (.tup xs)/\xs[i]? = some x,
  λi H v H'=>∃p x,H p=none/\(∀xs,H l=some (.tup xs)->xs[i]? = some x)/\v=.ref p/\H'=upd H p (.tup [.int (i:Nat),x]),
  λi H=>∃xs,H l=some (.tup xs)/\xs.length=i⟩
theorem Qkd{P:QC}{w:Ja}{K:PySem.W.Frag}{elts:List Q3}{x1}{tpos:Pos}{e it l:Addr}(hne:e≠it) :
  Turn P w K (.Tuple elts x1 tpos) (Iet l) [e,it] e (λi h=>(∃old,IsEnum h e it (i:Nat) old)/\h.IsTupleIter it l i) where
 mem:=by simp
 obj:=λi h st b hb=>by
  obtain⟨⟨old,a1⟩,⟨o2,a2,_,d2⟩⟩:=st;simp only[Qv,Q6,or_false] at hb;rcases hb with rfl | rfl
  ·exact⟨_,a1,λv q=>nomatch q⟩
  ·exact⟨_,a2,λv q=>by rw[d2] at q;cases q⟩
 keep:=λi h h' st k=>by
  obtain⟨⟨old,a1⟩,⟨o2,a2,c2⟩⟩:=st;exact⟨⟨old,k e (by simp) _ a1⟩,o2,k it (by simp) _ a2,c2⟩
 item:=by
  intro X hP hw hK hc i pins s σ H E I hf st hg;subst hP hw hK;obtain⟨xs,x,h1,hx⟩:=hg;obtain⟨⟨old,a1⟩,a2⟩:=st;obtain⟨its,r1,p1,_⟩:=I.tuple (SqT.of h1);obtain⟨u,hu,ru⟩:=r1.get hx;have nel:e≠l:=λz=>by have q:=(hf e (by simp)).1;rw[z,h1] at q;cases q
  have nil:l≠it:=λz=>by have q:=(hf it (by simp)).1;rw[<- z,h1] at q;cases q
  have hi:i<its.toArray.size:=by
   have:=(QM.mp hu).1
   simpa using this
  refine wpAny_pyNext_enum_itemD (Re.QrS (A:=X.A.in1) (t:=l) (I.ok.hd hc) nil) a1 ⟨a2,p1⟩ hi hne (by simp[hne,nel]) λy h' tk hy o' l' tp sz kp=>?_
  have ey:y=u:=by
   have e1:its.toArray[i]? = some u:=by simpa using hu
   rw[e1] at hy;exact(QB hy).symm
  subst ey;obtain⟨l',tq⟩:=l';have fr:H s.heap.objs.size=none:=I.hok.fresh (Qj _);have n1:e≠s.heap.objs.size:=QF (Qp a1);have n2:it≠s.heap.objs.size:=by
   obtain⟨o2,a2,_⟩:=a2;exact QF (Qp a2)
  refine⟨_,rfl,QkQ o' λh2 e2 s2=>?_⟩;have I1:Inv X pins σ (upd H s.heap.objs.size (.tup [.int (i:Nat),x])) { s with heap:=h2,toks:=tk+1 }:=by
   refine I.turnedNew (ch:=[e,it]) hf (λb v hb q=>?_) (Qj _) ⟨by show 2<=sizeLine;decide,[.int (i:Nat) tk,y],.cons ⟨_,rfl⟩ (.cons ru .nil),?_⟩
   ·simp only[Qv,Q6,or_false,not_or] at hb;exact s2.extBut _ _ hb.1 (kp b v hb.1 hb.2 q)
   ·exact⟨_,s2.extBut _ _ n1.symm tp,rfl,0,rfl⟩
  refine⟨.ref s.heap.objs.size,_,I1,rfl,⟨_,x,fr,λxs' q=>?_,rfl,rfl⟩,⟨⟨y,e2⟩,?_⟩,λb hb=>?_⟩
  ·rw[h1] at q;cases q;exact hx
  ·exact l'.extBut s2.extBut hne.symm
  ·simp only[Qv,Q6,or_false] at hb;rcases hb with rfl | rfl
   ·rw[JG n1];exact(hf _ (by simp)).1
   ·rw[JG n2];exact(hf _ (by simp)).1
 done:=by
  intro X hP hw hK hc i pins s σ H E I hf st hg;subst hP hw hK;obtain⟨xs,h1,he⟩:=hg;obtain⟨⟨old,a1⟩,a2⟩:=st;obtain⟨its,r1,p1,_⟩:=I.tuple (SqT.of h1);have l1:=r1.length;have nel:e≠l:=λz=>by have q:=(hf e (by simp)).1;rw[z,h1] at q;cases q
  have nil:l≠it:=λz=>by have q:=(hf it (by simp)).1;rw[<- z,h1] at q;cases q
  have e0:its.toArray.size=i:=by rw[Qr];omega
  have D:=Re.QrS (prog:=X.prog) (w:=X.w) (A:=X.A.in1) (t:=l) (items:=its.toArray) (I.ok.hd hc) nil;rw[e0] at D;refine wpAny_pyNext_enum_endD D a1 ⟨a2,p1⟩ λh' kp=>⟨rfl,I.turnedAll (t':=s.toks) (ch:=[e,it]) hf λb v hb q=>?_⟩
  simp only[Qv,Q6,or_false,not_or] at hb;exact kp b v hb.2 q
 self:=λ_ _ _ _ _ st h=>by
  obtain⟨⟨old,a1⟩,_⟩:=st;exact Qcv a1 h
def Qxl(ta:TA):TI:=λσ H R=>ta σ H λvs H1=>∃l xs,vs=[.ref l]/\H1 l=some (.tup xs)/\R (Iet l) H1
section
variable{X:Cx}
theorem QoG{a:Q3}{elts:List Q3}{x1}{tpos:Pos}{ta:TA}{p pos:Pos}(hg:Gl X "enumerate")(hm:X.mg "enumerate" = none)(ha:PA X [a] ta)(hs:starEach [a] X.env=[(false,eval a X.env)]:=by rfl) :
  PI X (.Tuple elts x1 tpos) (.Call (.Name "enumerate" p) [a] [] pos) (Qxl ta):=by
 intro pins s σ H R I h;refine Call_ (QdW I hg hm QhJ (Zl (thn (ha pos pins s σ H _ I h) λus s1 ⟨vs,H1,I1,r1,q1⟩=>?_) hs rfl));obtain⟨l,xs,e,h1,q⟩:=q1;subst e;obtain⟨u,rfl,ru⟩:=vals1 r1;cases(show u=QQ l from ru);obtain⟨its,w1,p1,_⟩:=I1.tuple (SqT.of h1);refine Re.QkK p1 λh' e1 i1 kp=>?_
 refine Qcv (s:={ s1 with heap:=h' }) e1 ?_
 refine⟨s1.heap.objs.size+1,_,_,_,H1,rfl,I1.kept (t':=s1.toks) kp,Qkd (by show ¬(s1.heap.objs.size+1=s1.heap.objs.size);omega),⟨⟨_,e1⟩,i1⟩,λb hb=>?_,q⟩;have hb':s1.heap.objs.size<=b:=by
  simp only[Qv,Q6,or_false] at hb;rcases hb with rfl | rfl<;>omega
 exact I1.fpOk hb' (I1.hok.fresh hb')
end
end L2
namespace Rk
open L2
end Rk
namespace L2
section
variable{X:Cx}{pins:List (Addr×Obj)}{σ:St}{H:Hp}
theorem Qa9{M:List Str}{scope:YM}{fp:List Addr}{σ':St}{H3:Hp}{s3 s':Shared}{D:Addr}{i:Nat}{y:Str}{py:Pos}{Mo:Qj6}{A:Q2}{E:Value->Shared->Prop}{Q:Value->Shared->Prop}
  (I3:Inv X pins σ H3 s3)(f3:∀b∈fp,FpOk X pins H3 b)(J:Inv (blk X M scope (QbE X.env scope.names []) fp s3 H3 s3.heap.objs.size) [] σ' H s')
  (hN:X.N.Nodup)(hi:X.N[i]? = some y)(hl:X.env.scope.names.lookup y=some .local)(hq:∀s2,Inv X pins (σ.set i (some (.ref D))) H s2->Q .none s2) :
  wpAny Mo A (assign (.Name y py) X.env (.ref D)) (λ_ s2=>∃m,s2.heap.Ns s3.heap.objs.size m/\∀h',YJ s3.heap.objs.size s2.heap h'->Q .none { s2 with heap:=h' }) E s':=by
 have J0:Inv X pins σ H s':=Qny I3 f3 J (Heap.SameBut.refl ..);obtain⟨m,hn,_⟩:=J.loc;have hC:H s3.heap.objs.size=none:=J.free;have lt:X.env.locals<s3.heap.objs.size:=I3.lt;refine Qyt (Qg1 J0 hN hi (Jp hl) (show RelV (.ref D) (.ref D) from rfl) (λs2 J2 ⟨a,sb,ha⟩=>?_) (.inr hl));have ea:a=X.env.locals∨X.env.cells.lookup y=some a:=ha;have na:s3.heap.objs.size≠a:=by
  rcases ea with z | z
  ·rw[z];exact QaJ lt
  ·obtain⟨v,o,ho,_⟩:=I3.cell y a z;exact QaJ (Qp ho)
 refine⟨m,hn.sameBut sb na,λh' hs=>hq _ ?_⟩;refine J2.turned (t':=s2.toks) (it:=s3.heap.objs.size) (λb o hb e=>hs.extBut b o hb e) hC (QaJ lt) (.inr I3.sz) (λx c e z=>?_) λp hp z=>?_
 ·obtain⟨v,o,ho,_⟩:=I3.cell x c e;exact absurd (z ▸ Qp ho) (Ym _)
 ·have e:=(I3.pin p hp).1;exact absurd (z ▸ Qp e) (Ym _)
end
theorem QoB{X:Cx}{M:List Str}{cap:List (Option Nat)}{elt tg iter:Q3}{ifs:List Q3}{scope:YM}{pos:Pos}{wi:TI}{g:TG}{tc:TT}{te:TE}{i:Nat}{y:Str}{py spos:Pos}(hN:X.N.Nodup)(hiy:X.N[i]? = some y)(hly:X.env.scope.names.lookup y=some .local)(hc:X.calm=true)(ok:QeV X.N X.env.scope M scope cap=true)
  (hi:PI X tg iter wi)(hb:∀cl ex s3 H3 C,PG (blk X M scope cl ex s3 H3 C) tg g/\PTs (blk X M scope cl ex s3 H3 C) ifs tc/\PE (blk X M scope cl ex s3 H3 C) elt te)
  (hs:∀x,foldedSetIterable iter X.env x=pure x:=by intro _;rfl)(hsw:swapsWith (.ListComp elt [⟨tg,iter,ifs,0⟩] scope pos) (some (.Name y py)) spos.line X.env=pure true:=by rfl):PS X (.Assign [.Name y py] (.ListComp elt [⟨tg,iter,ifs,0⟩] scope pos) spos) (Qrh (tComp cap wi g tc te) (Qd9 i)):=by
 intro pins s σ H D I h;have c:=CapOk.of ok;rw[QdY _ _ _ _ hsw];refine wpAny_bind (wpAny_standAt (wpAny_bind ?_));show wpAny _ X.A (do let _ <- comprehension (.ListComp elt [⟨tg,iter,ifs,0⟩] scope pos) scope X.env _ (newList []) false (eval iter X.env) (some (assign (.Name y py) X.env))) _ _ s;refine wpAny_bind (wpAny_mono (Qau (use:=some (assign (.Name y py) X.env)) (Q:=λ_ s'=>SP X pins D .next s') rfl hs (Qgt (I.ok.cells c)) c.kind c.loc ?_) (λ_ s' hq=>wpAny_pure (wpAny_pure hq)) λ_ _ e=>e);refine thn (hi pins s σ H _ I h) λv s1 h1=>thn h1 λitv s2 h2=>?_
 obtain⟨it,fp,tn,J,H2,e,I2,T,st2,f2,hW⟩:=h2;subst e;refine JQ (Qbk c.cell (by intro y hy;simp at hy) (λh₁ hns₁ hsb₁=>?_) c.kind);have I3:Inv X pins σ (upd H2 s2.heap.objs.size (.lst [])) { s2 with heap:=s2.heap.push { cls:=.type "list",data:=.seq ([]:List Value).toArray } }:=I2.lnew (t':=s2.toks) (ys:=[]) .nil (Qu _);have lt2:∀b∈fp,b<s2.heap.objs.size:=λb hb=>by obtain⟨o,e,_⟩:=T.obj _ _ st2 b hb;exact Qp e
 have f3:∀b∈fp,FpOk X pins (upd H2 s2.heap.objs.size (.lst [])) b:=λb hb=>(f2 b hb).upd (QF (lt2 b hb))
 generalize hs3:({ s2 with heap:=s2.heap.push { cls:=.type "list",data:=.seq ([]:List Value).toArray } }:Shared)=s3 at I3;have e3:s3.heap=s2.heap.push { cls:=.type "list",data:=.seq ([]:List Value).toArray }:=by rw[<- hs3]
 have z3:s3.heap.objs.size=s2.heap.objs.size+1:=by rw[e3,ZN]
 have hk:∀b o,s3.heap.get? b=some o->h₁.get? b=some o:=λb o e=>hsb₁.extBut b o (by
  have:=Qp e;rw[e3] at this;exact QF this) (Qd _ (e3 ▸ e))
 have hn₁:h₁.Ns s3.heap.objs.size λ_=>none:=by rw[e3];exact hns₁
 have B:=Qc4 (t4:=s3.toks+([]:List (Str×Value)).length) (fp:=fp) I3 c f3 (λb hb=>by rw[z3];exact YY (lt2 b hb)) hn₁ hk;have st4:tn 0 h₁:=T.keep _ _ _ st2 λb hb o e=>hk b o (by rw[e3];exact Qd _ e)
 have fp4:∀b∈fp,FpOk (blk X M scope (QbE X.env scope.names []) fp s3 (upd H2 s2.heap.objs.size (.lst [])) s3.heap.objs.size) [] (upd H2 s2.heap.objs.size (.lst [])) b:=λb hb=>by
  refine⟨(f3 b hb).1,(B.ok.exf b hb).1,B.ok.exfs b hb,.inl hb,(B.ok.exf b hb).2,λp hp=>(nomatch hp)⟩
 obtain⟨hg,ht,he⟩:=hb (QbE X.env scope.names []) fp s3 (upd H2 s2.heap.objs.size (.lst [])) s3.heap.objs.size;have loop:codeAny (model X.prog X.w) X.A (.compLoop (.ListComp elt [⟨tg,iter,ifs,0⟩] scope pos) 0 (.ref it) (.ref s2.heap.objs.size) (compEnvC scope (QbE X.env scope.names []) s3.heap.objs.size X.env))
   (compPost (model X.prog X.w) X.A X.xe (some (assign (.Name y py) X.env)) (λ_ s'=>SP X pins D .next s') (.ref s2.heap.objs.size) s3.heap.objs.size) { s3 with heap:=h₁,toks:=s3.toks+([]:List (Str×Value)).length }:=by
  refine Qc2 (Y:=blk X M scope (QbE X.env scope.names []) fp s3 (upd H2 s2.heap.objs.size (.lst [])) s3.heap.objs.size) (gens:=[⟨tg,iter,ifs,0⟩]) (d:=0) hc T st4 fp4
   (λQ E s h=>Qi8 Q E s h) (λx u r=>QeW rfl hg ht (λσ4=>QgA rfl he) x u r) B (hW _ (I2.hok.fresh (Qj _))) λs' H' I' q=>?_
  exact Qa9 (Q:=λ_ s'=>SP X pins D .next s') I3 f3 I' hN hiy hly λs2' J2=>⟨_,H',J2,q⟩
 exact Qdh loop (T.self _ 0 _ _ _ st4 loop)
theorem Qhc{X:Cx}{M:List Str}{cap:List (Option Nat)}{elt tg iter tg2 iter2:Q3}{ifs ifs2:List Q3}{scope:YM}{pos:Pos}{wi wi2:TI}{g g2:TG}{tc tc2:TT}{te:TE}{i:Nat}{y:Str}{py spos:Pos}(hN:X.N.Nodup)(hiy:X.N[i]? = some y)(hly:X.env.scope.names.lookup y=some .local)(hc:X.calm=true)(ok:QeV X.N X.env.scope M scope cap=true)
  (hi:PI X tg iter wi)(hb:∀cl ex s3 H3 C,PG (blk X M scope cl ex s3 H3 C) tg g/\PTs (blk X M scope cl ex s3 H3 C) ifs tc/\PI (blk X M scope cl ex s3 H3 C) tg2 iter2 wi2/\PG (blk X M scope cl ex s3 H3 C) tg2 g2/\PTs (blk X M scope cl ex s3 H3 C) ifs2 tc2/\PE (blk X M scope cl ex s3 H3 C) elt te)
  (hs:∀x,foldedSetIterable iter X.env x=pure x:=by intro _;rfl)(hs2:∀env x,foldedSetIterable iter2 env x=pure x:=by intro _ _;rfl)(hsw:swapsWith (.ListComp elt [⟨tg,iter,ifs,0⟩,⟨tg2,iter2,ifs2,0⟩] scope pos) (some (.Name y py)) spos.line X.env=pure true:=by rfl):PS X (.Assign [.Name y py] (.ListComp elt [⟨tg,iter,ifs,0⟩,⟨tg2,iter2,ifs2,0⟩] scope pos) spos) (Qrh (Qrg cap wi g tc wi2 g2 tc2 te) (Qd9 i)):=by
 intro pins s σ H D I h;have c:=CapOk.of ok;rw[QdY _ _ _ _ hsw];refine wpAny_bind (wpAny_standAt (wpAny_bind ?_));show wpAny _ X.A (do let _ <- comprehension (.ListComp elt [⟨tg,iter,ifs,0⟩,⟨tg2,iter2,ifs2,0⟩] scope pos) scope X.env _ (newList []) false (eval iter X.env) (some (assign (.Name y py) X.env))) _ _ s;refine wpAny_bind (wpAny_mono (Qau (use:=some (assign (.Name y py) X.env)) (Q:=λ_ s'=>SP X pins D .next s') rfl hs (Qgt (I.ok.cells c)) c.kind c.loc ?_) (λ_ s' hq=>wpAny_pure (wpAny_pure hq)) λ_ _ e=>e);refine thn (hi pins s σ H _ I h) λv s1 h1=>thn h1 λitv s2 h2=>?_
 obtain⟨it,fp,tn,J,H2,e,I2,T,st2,f2,hW⟩:=h2;subst e;refine JQ (Qbk c.cell (by intro y hy;simp at hy) (λh₁ hns₁ hsb₁=>?_) c.kind);have I3:Inv X pins σ (upd H2 s2.heap.objs.size (.lst [])) { s2 with heap:=s2.heap.push { cls:=.type "list",data:=.seq ([]:List Value).toArray } }:=I2.lnew (t':=s2.toks) (ys:=[]) .nil (Qu _);have lt2:∀b∈fp,b<s2.heap.objs.size:=λb hb=>by obtain⟨o,e,_⟩:=T.obj _ _ st2 b hb;exact Qp e
 have f3:∀b∈fp,FpOk X pins (upd H2 s2.heap.objs.size (.lst [])) b:=λb hb=>(f2 b hb).upd (QF (lt2 b hb))
 generalize hs3:({ s2 with heap:=s2.heap.push { cls:=.type "list",data:=.seq ([]:List Value).toArray } }:Shared)=s3 at I3;have e3:s3.heap=s2.heap.push { cls:=.type "list",data:=.seq ([]:List Value).toArray }:=by rw[<- hs3]
 have z3:s3.heap.objs.size=s2.heap.objs.size+1:=by rw[e3,ZN]
 have hk:∀b o,s3.heap.get? b=some o->h₁.get? b=some o:=λb o e=>hsb₁.extBut b o (by
  have:=Qp e;rw[e3] at this;exact QF this) (Qd _ (e3 ▸ e))
 have hn₁:h₁.Ns s3.heap.objs.size λ_=>none:=by rw[e3];exact hns₁
 have B:=Qc4 (t4:=s3.toks+([]:List (Str×Value)).length) (fp:=fp) I3 c f3 (λb hb=>by rw[z3];exact YY (lt2 b hb)) hn₁ hk;have st4:tn 0 h₁:=T.keep _ _ _ st2 λb hb o e=>hk b o (by rw[e3];exact Qd _ e)
 have fp4:∀b∈fp,FpOk (blk X M scope (QbE X.env scope.names []) fp s3 (upd H2 s2.heap.objs.size (.lst [])) s3.heap.objs.size) [] (upd H2 s2.heap.objs.size (.lst [])) b:=λb hb=>by
  refine⟨(f3 b hb).1,(B.ok.exf b hb).1,B.ok.exfs b hb,.inl hb,(B.ok.exf b hb).2,λp hp=>(nomatch hp)⟩
 obtain⟨hg,ht,hi2,hg2,ht2,he⟩:=hb (QbE X.env scope.names []) fp s3 (upd H2 s2.heap.objs.size (.lst [])) s3.heap.objs.size;have loop:codeAny (model X.prog X.w) X.A (.compLoop (.ListComp elt [⟨tg,iter,ifs,0⟩,⟨tg2,iter2,ifs2,0⟩] scope pos) 0 (.ref it) (.ref s2.heap.objs.size) (compEnvC scope (QbE X.env scope.names []) s3.heap.objs.size X.env))
   (compPost (model X.prog X.w) X.A X.xe (some (assign (.Name y py) X.env)) (λ_ s'=>SP X pins D .next s') (.ref s2.heap.objs.size) s3.heap.objs.size) { s3 with heap:=h₁,toks:=s3.toks+([]:List (Str×Value)).length }:=by
  refine Qc2 (Y:=blk X M scope (QbE X.env scope.names []) fp s3 (upd H2 s2.heap.objs.size (.lst [])) s3.heap.objs.size) (gens:=[⟨tg,iter,ifs,0⟩,⟨tg2,iter2,ifs2,0⟩]) (d:=0) hc T st4 fp4
   (λQ E s h=>Qkc (hs2 _) Q E s h) (λx u r=>QeW rfl hg ht (λσ4=>Qnw rfl hc hi2 hg2 ht2 he) x u r) B (hW _ (I2.hok.fresh (Qj _))) λs' H' I' q=>?_
  exact Qa9 (Q:=λ_ s'=>SP X pins D .next s') I3 f3 I' hN hiy hly λs2' J2=>⟨_,H',J2,q⟩
 exact Qdh loop (T.self _ 0 _ _ _ st4 loop)
end L2
namespace Rk
open L2 _root_.Rd
section
variable{X:Cx}
def QAW(X:Cx):R2:=λx y H Q=>∃dx dy,Dat H x dx/\Dat H y dy/\X.A.units+min dx.depth dy.depth<cLine/\Q (.bl (!JD dx dy)) H
theorem QwI:OpR X (compareOp .NotEq) (QAW X):=by
 intro pins s σ H x y v u Q I rx ry h;obtain⟨dx,dy,qx,qy,hu,q⟩:=h;obtain⟨⟨as,ra⟩,ca⟩:=Qar I.hok dx x v qx rx;obtain⟨⟨bs,rb⟩,cb⟩:=Qar I.hok dy y u qy ry;exact SeqAt.compareNe_reads ra rb ca cb hu ⟨.bl _,H,I,rfl,q⟩
end
theorem Cs.re{p p':Addr}{H:Hp}{zs:List V}(e:H p'=some (.lst zs)):∀{ps:List V}{L:List (Int×Int)},Cs p H ps L->Cs p' H ps L
 |_,_,.nil=>.nil
 |_,_,.cons ⟨d,_,ev,h⟩ t=>.cons ⟨d,(λz=>by rw[z,e] at h;cases h),ev,h⟩ (Cs.re e t)
theorem Qea{α:Type}(M:List α)(d:α)(P:α->Bool):(Qq M.length).filterMap (λi=>if P (M.getD i d)=true then some (M.getD i d) else none)=M.filter P:=by
 conv=>rhs;rw[<- range_getD M d]
 rw[List.filter_map,<- List.filterMap_eq_filter,Qbq];refine congrArg (λg=>Qvg g (Qq M.length)) (funext λi=>?_);show _=Option.map _ (Qvb _ i);unfold Qvb;by_cases q:P (M.getD i d)=true
 ·rw[if_pos q,if_pos (by simpa using q)];rfl
 ·rw[if_neg q,if_neg (by simpa using q)];rfl
end Rk
namespace Rk
open L2
theorem QzO:bootBuiltins "ValueError" = some (.type "ValueError"):=by decide +kernel
def Qlt:List Q3->Option (List Str)
 |[]=>some []
 |.Constant (.str x) _ _::es=>(Qlt es).map (x::·)
 |_::_=>none
theorem Ql8{X:Cx}:∀{es:List Q3}{ws:List Str},Qlt es=some ws->PA X es (λ_ H Q=>Q (ws.map V.str) H)
 |[],ws,h=>by cases h;exact ZP
 |e::es,ws,h=>by
  unfold Qlt at h;split at h
  ·rename_i e2;cases e2
  ·rename_i e2
   cases e2;obtain⟨vs,hv,rfl⟩:=Zz.mp h;exact Qix (Qel Qjm (Ql8 hv)) λσ H Q q=>q
  ·cases h
def Qub(x:Str):List Q3->Option (List Str)
 |[]=>some []
 |.Call (.Name f _) [.Name y _,.Name n _] [] _::es=>if f = "isinstance" /\ y=x then(Qub x es).map (n::·) else none
 |_::_=>none
def QAR(K:PySem.W.Frag)(cs:List Addr):TA:=λσ H Q=>∃(a C:Addr)(bs:List Bool),σ[0]? = some (some (.ref a))/\H a=some (Rx.exO a C)/\Rx.ExC K C/\Yu (λc b=>PySem.W.kitOne K (.ref C) (.ref c)=some b) cs bs/\Q (bs.map V.bl) H
theorem Qfq{X:Cx}{x:Str}(hN:X.N[0]? = some x)(hv:Vis X.env.scope x)(hd:(x == ("__debug__" : Str))=false)(hcd:(x == ("__classdict__" : Str))=false)(hg:Gl X "isinstance")(hm:X.mg "isinstance" = none) :
  ∀{es:List Q3}{ns:List Str}{cs:List Addr},Qub x es=some ns->(ns.all λn=>(X.env.kindOf n == some .globalImplicit) && !(n == ("__debug__" : Str)))=true->Yu (λn c=>X.mg n=some (.ref c)) ns cs->PA X es (QAR X.K cs)
 |[],ns,cs,h,_,p=>by
  cases h;cases p;exact Qix ZP λσ H Q ⟨a,C,bs,_,_,_,pb,q⟩=>by cases pb;exact q
 |e::es,ns,cs,h,g,p=>by
  unfold Qub at h;split at h
  ·rename_i e2;cases e2
  ·rename_i f pf y py n pn pc es' e2
   cases e2;split at h
   ·rename_i hc
    obtain⟨rfl,rfl⟩:=hc;obtain⟨ns',hns,rfl⟩:=Zz.mp h;cases p with
    |@cons _ c _ cs' p1 p2=>
    rw[Qx5,JS,JS] at g;have g1:Gl X n:=beq_iff_eq.mp g.1.1;have g2:(n == ("__debug__" : Str))=false:=by
     have:=g.1.2;cases q:(n == ("__debug__" : Str)) with
     |false=>rfl
     |true=>rw[q] at this;cases this
    have one:PE X (.Call (.Name "isinstance" pf) [.Name y py,.Name n pn] [] pc) _:=Qa2 Rx.QhI hg hm Qbx (Qel (Qrx hN hv hd hcd) (Qel (Qiv (v:=.ref c) g1 p1 rfl g2) ZP rfl) rfl);refine Qix (Qel one (Qfq hN hv hd hcd hg hm hns g.2 p2) rfl) λσ H Q ⟨a,C,bs,h0,ha,hc,pb,q⟩=>?_
    cases pb with
    |@cons _ b _ bs' q1 q2=>exact⟨_,h0,a,C,.ref c,.ref c,b,rfl,ha,hc,(λu r=>r),q1,a,C,bs',h0,ha,hc,q2,q⟩
   ·cases h
  ·cases h
theorem JN{α β:Type}{F:α->β->Prop}{a:α}{l:List α}{bs:List β}(h:Yu F (a::l) bs):∃b bs',bs=b::bs'/\F a b/\Yu F l bs':=by
 cases h with
 |cons r t=>exact⟨_,_,rfl,r,t⟩
theorem Qkm{α β:Type}{F:α->β->Prop}{bs:List β}(h:Yu F [] bs):bs=[]:=by
 cases h;rfl
end Rk
namespace Rx
open PySem.Calls L2
section
variable{X:Cx}{E:XK}
theorem Qhg(hxe:∀e s1,wpAny (model X.prog X.w) X.A (leaving X.env e) (λ_ s2=>CXE X.prog X.w X.outer X.H₀ X.s₀ E e s2) (λe' s2=>CXE X.prog X.w X.outer X.H₀ X.s₀ E e' s2) s1->X.xe e s1)
  (hstk:X.stack=X.env::X.outer)(hfr:X.env.frame=some X.env.locals)(hex:X.ex=[]):Qb1 (CXE X.prog X.w) X E:=by
 intro pins σ H s e s' I h;obtain⟨C,H',⟨a,t,B,rfl,os,bare,fl,fa,fH,land⟩,q⟩:=h;refine hxe _ _ ?_
 have fl2:=fl;rw[hstk] at fl2;have fr:X.A.frames=some (X.env::X.outer):=by rw[<- hstk];exact I.ok.frames
 refine wpAny_leaves_onW fr hfr fl2 λh' fl' up=>⟨C,H',⟨a,t,B,rfl,os.trans I.os,bare,fl',?_,fH,λh2 st up2=>?_⟩,q⟩
 ·cases z:X.s₀.heap.get? a with
  |none=>rfl
  |some o=>
   obtain⟨o',e'⟩:=I.base.there a o z (by rw[hex];simp);rw[fa] at e';cases e'
 ·obtain⟨un,hok⟩:=land h2 st (up.trans up2);have J:=I.call' (s':={ s' with heap:=h2 }) (ch:=[]) os un hok bare (λb z=>absurd z (by simp));have hb:=J.base;rw[hex] at hb;exact⟨hb,hok⟩
end
def QAH(X:Cx)(f:Addr)(sp:Sp):Prop:=∃k fd ps,FnOk X.prog X.w X.K X.mg X.base (CXE X.prog X.w) k f fd ps sp/\Room k X.A/\PySem.W.keepIn X.K (.ref f)=true/\Binds X.K fd ps []
def Qsy(M:Addr->Sp->Prop)(tf:TE)(t:TA):TX:=λσ H Q Ex=>tf σ H λv H0=>∃f sp,v=.ref f/\M f sp/\t σ H0 λvs H1=>sp vs H1 Q λcv _ H2=>∃C,cv=.ref C/\Ex C H2
section
variable{X:Cx}{tf:TE}{fe:Q3}{pos:Pos}{e:Q3}{es:List Q3}{t:TA}{M:Addr->Sp->Prop}
theorem QlX(hM:∀f sp,M f sp->QAH X f sp)(hf:PE X.nox fe tf)(hex:X.ex=[])
  (ha:PA X.nox (e::es) t)(hfe:eval (.Call fe (e::es) [] pos) X.env=(do callWith pos (<- eval fe X.env) [] (backTo pos (starEach (e::es) X.env)) (backToKw pos (keywordEach [] X.env))):=by rfl)
  (he:starEach (e::es) X.env=(false,eval e X.env)::starEach es X.env:=by rfl)(hpl:(backTo pos (starEach es X.env)).any (·.1)=false:=by rfl) :
  PEX X (.Call fe (e::es) [] pos) (Qsy M tf t):=by
 intro pins s σ H Q Ex I h;rw[hfe];refine wpAny_bind (wpAny_mono (hf pins s σ H _ (I.wish _) h) (λv s0 ⟨x,H0,J0,r0,q0⟩=>?_) λ_ _ z=>JE z);obtain⟨f,sp,rfl,mf,q0⟩:=q0;obtain⟨k,fd,ps,F,hr,hk,hb⟩:=hM f sp mf;cases(show v=QQ f from r0);have I0:Inv X pins σ H0 s0:=J0.unwish;refine PySem.W.callWith_K (h₀:=X.base) I.ok.mod.kin hk (wpAny_mono (ha pos pins s0 σ H0 _ (I0.wish _) q0) (λus s1 ⟨vs,H1,J1,r,q⟩=>?_) λ_ _ z=>JE z) he hpl;have I1:Inv X pins σ H1 s1:=J1.unwish;refine⟨I1.kIn,?_⟩;have hl:us.length=ps.length:=by rw[<- r.length];exact F.len _ _ _ _ q
 have hbb:Qe7 s1 fd ⟨us,[]⟩ (ps.zip us):=by
  have z:=hb s1 us I1.kIn (by rw[Jt];exact hl);rw[Jt] at z;exact z
 refine QgL (Qa5 (F.run X.A X.stack s1 H1 ⟨us,[]⟩ us vs Q _ hr I1.env0 hbb r q) λr s2 hq=>?_);cases r with
 |error e=>
  obtain⟨C0,H2,⟨a,t',B,rfl,os,bare,fl,fa,fH,land⟩,C,eC,ex⟩:=hq;cases eC;refine⟨σ,C0,H2,a,t',B,rfl,fl,fH,?_,λp hp z=>?_,λh2 tk st up=>?_,rfl,ex⟩
  ·cases z:X.s₀.heap.get? a with
   |none=>rfl
   |some o=>
    obtain⟨o',e'⟩:=I1.base.there a o z (by rw[hex];simp);rw[fa] at e';cases e'
  ·have e':=(I1.pin p hp).1;rw[z,fa] at e';cases e'
  ·obtain⟨un,hok⟩:=land h2 st up;exact I1.call' (s':={ s2 with heap:=h2,toks:=tk }) (ch:=[]) os un hok bare (λb z=>absurd z (by simp))
 |ok fl=>
  cases fl with
  |ret u=>exact I1.after hq
  |next=>exact JE hq
  |brk=>exact JE hq
  |cont=>exact JE hq
end
end Rx
namespace Rk
open L2 _root_.Rd
structure GlbA (mg:Str->Option Value):Prop where
 isinstance:mg "isinstance" = none
 int:mg "int" = none
 bool:mg "bool" = none
 str:mg "str" = none
 tuple:mg "tuple" = none
 list:mg "list" = none
 all:mg "all" = none
 len:mg "len" = none
 zip:mg "zip" = none
 enumerate:mg "enumerate" = none
 range:mg "range" = none
 max:mg "max" = none
 min:mg "min" = none
 sorted:mg "sorted" = none
 sum:mg "sum" = none
 set:mg "set" = none
 any:mg "any" = none
 reversed:mg "reversed" = none
 divmod:mg "divmod" = none
def QAa(u:Nat)(neg:Bool):R2:=λx y H Q=>∃c ps ds d,y=.ref c/\H c=some (.tup ps)/\Dats H ps ds/\Dat H x d/\u+d.depth<cLine/\Q (.bl (if neg then !(ds.any λe=>JD e d) else ds.any λe=>JD e d)) H
end Rk
namespace Rx
open PySem.Calls L2
section
variable{P:QC}{w:Ja}{K:PySem.W.Frag}{mg:Str->Option Value}{base:Heap}
theorem okE{x qual:Str}{st:Yt}{f:Addr}{fd:QP}{N ps:List Str}{k:Nat}{sp:Sp}(F:Fun K x qual st f fd)(S:JA N ps (Qx st))(len:∀vs H Q E,sp vs H Q E->vs.length=ps.length)
  (hbody:∀(cdv:Value)(A:Q2)(outer:List Env)(s:Shared)(H:Hp)(vs:List V)(Q:VK)(E:XK),Room k (A.deeper (envOfC qual (Qx st) s.heap.objs.size f cdv))->sp vs H Q E ->
   ∃t,PSs (cxOf (CXE P w) P w K mg base N qual (Qx st) f cdv A outer s H E) (JO st) t/\t { nx:=λ_ H'=>Q .non H',rt:=Q } (start N vs) H):FnOk P w K mg base (CXE P w) (k+1) f fd ps sp:=by
 obtain⟨oc,od,kV,doc,pm,an,cdv,ct,osl,rfl,lk,hcd⟩:=F.ex;exact Qxn lk hcd S len λA outer s H vs Q E hr hsp=>hbody cdv A outer s H vs Q E hr hsp
end
end Rx
namespace Rk
open L2 _root_.Rd
section
variable{X:Cx}{is js:List Nat}
end
end Rk
namespace L2
theorem Y6{h:Heap}{a:Addr}{its:Array Value}(p:PlainL h a its):h.IsList a its:=by
 obtain⟨o,n,h1,h2,_,h3⟩:=p;exact⟨o,h1,h2,n,h3⟩
structure QhR (h:Heap) (z TI TO i1 i2 t1 t2:Addr) (f:Value) (k:Nat):Prop where
 zp:Qsl h z TI TO f
 ti:IsPair h TI (.ref i1) (.ref i2)
 to:∃a b,IsPair h TO a b
 i1:h.IsListIter i1 t1 k
 i2:h.IsListIter i2 t2 k
section
variable{prog:QC}{w:Ja}{A:Q2}{E:Value->Shared->Prop}{s:Shared}
theorem Qlc{z TI TO i1 i2 t1 t2:Addr}{k:Nat}{xs ys:Array Value}{x y:Value}{Q:Option Value->Shared->Prop}(D:QxZ z TI TO i1 i2 t1 t2)(Z:QhR s.heap z TI TO i1 i2 t1 t2 .none k)
  (hl1:s.heap.IsList t1 xs)(hl2:s.heap.IsList t2 ys)(hx:xs[k]? = some x)(hy:ys[k]? = some y)
  (hQ:∀h',QhR h' z TI TO i1 i2 t1 t2 (rawInt s.heap.objs.size) (k+1)->IsPair h' s.heap.objs.size x y->(∀c o,c≠z->c≠TO->c≠i1->c≠i2->s.heap.get? c=some o->h'.get? c=some o)->Q (some (.ref s.heap.objs.size)) { s with heap:=h' }) :
  wpAny (model prog w) A (pyNext (.ref z)) Q E s:=by
 obtain⟨hz,hTI,⟨a,b,hTO⟩,h1,h2⟩:=Z;exact wpAny_pyNext_zip_item D hz hTI hTO h1 h2 hl1 hl2 hx hy λh' a1 a2 a3 a4 a5 a6 a7=>hQ h' ⟨a1,a7 _ _ D.TIz D.TITO D.TIi1 D.TIi2 hTI,⟨x,y,a2⟩,a3,a4⟩ a5 a7
theorem Qn3{z TI TO i1 i2 t1 t2:Addr}{k:Nat}{xs ys:Array Value}{Q:Option Value->Shared->Prop}(hh:A.handled=none)(D:QxZ z TI TO i1 i2 t1 t2)(Z:QhR s.heap z TI TO i1 i2 t1 t2 .none k)
  (hl1:s.heap.IsList t1 xs)(hl2:s.heap.IsList t2 ys)(hend:xs[k]? = none∨ys[k]? = none)
  (hQ:∀h',(∀c o,c≠z->c≠TO->c≠i1->c≠i2->s.heap.get? c=some o->h'.get? c=some o)->Q none { s with heap:=h' }):wpAny (model prog w) A (pyNext (.ref z)) Q E s:=by
 obtain⟨hz,hTI,⟨a,b,hTO⟩,h1,h2⟩:=Z;exact wpAny_pyNext_zip_end hh D hz hTI hTO h1 h2 hl1 hl2 hend hQ
theorem Qld{t1 t2:Addr}{xs ys:Array Value}{Q:Value->Shared->Prop}(hl1:s.heap.IsList t1 xs)(hl2:s.heap.IsList t2 ys)
  (h:∀h',QhR h' (s.heap.objs.size+4) (s.heap.objs.size+2) (s.heap.objs.size+3) s.heap.objs.size (s.heap.objs.size+1) t1 t2 .none 0->(∀c o,s.heap.get? c=some o->h'.get? c=some o)->Q (.ref (s.heap.objs.size+4)) { s with heap:=h' }) :
  wpAny (model prog w) A (call (.type "zip") [.ref t1,.ref t2]) Q E s:=
 call_zip_2 hl1 hl2 λh' a1 a2 a3 a4 a5 a6 a7=>h h' ⟨a1,a2,⟨_,_,a3⟩,a4,a5⟩ a7
end
def QAJ(t1 t2:Addr):It:=
 ⟨λi H=>∃xs ys x y,H t1=some (.lst xs)/\H t2=some (.lst ys)/\xs[i]? = some x/\ys[i]? = some y,
  λi H v H'=>∃p x y,H p=none/\(∀xs,H t1=some (.lst xs)->xs[i]? = some x)/\(∀ys,H t2=some (.lst ys)->ys[i]? = some y)/\v=.ref p/\H'=upd H p (.tup [x,y]),
  λi H=>∃xs ys,H t1=some (.lst xs)/\H t2=some (.lst ys)/\(xs.length<=i∨ys.length<=i)⟩
theorem Qlj{P:QC}{w:Ja}{K:PySem.W.Frag}{elts:List Q3}{x1}{tpos:Pos}{z TI TO i1 i2 t1 t2:Addr}(D:QxZ z TI TO i1 i2 t1 t2) :
  Turn P w K (.Tuple elts x1 tpos) (QAJ t1 t2) [z,TI,TO,i1,i2] z (λi h=>QhR h z TI TO i1 i2 t1 t2 .none i) where
 mem:=by simp
 obj:=λi h st b hb=>by
  obtain⟨a1,a2,⟨_,_,a3⟩,⟨o4,a4,_,d4⟩,⟨o5,a5,_,d5⟩⟩:=st;simp only[Qv,Q6,or_false] at hb;rcases hb with rfl | rfl | rfl | rfl | rfl
  ·exact⟨_,a1,λv q=>nomatch q⟩
  ·exact⟨_,a2,λv q=>nomatch q⟩
  ·exact⟨_,a3,λv q=>nomatch q⟩
  ·exact⟨_,a4,λv q=>by rw[d4] at q;cases q⟩
  ·exact⟨_,a5,λv q=>by rw[d5] at q;cases q⟩
 keep:=λi h h' st k=>by
  obtain⟨a1,a2,⟨a,b,a3⟩,a4,a5⟩:=st;exact⟨k z (by simp) _ a1,k TI (by simp) _ a2,⟨a,b,k TO (by simp) _ a3⟩,a4.at λo e=>k i1 (by simp) o e,a5.at λo e=>k i2 (by simp) o e⟩
 item:=by
  intro X hP hw hK hc i pins s σ H E I hf st hg;subst hP hw hK;obtain⟨xs,ys,x,y,h1,h2,hx,hy⟩:=hg;obtain⟨its1,r1,p1,_⟩:=I.list (SqL.of h1);obtain⟨its2,r2,p2,_⟩:=I.list (SqL.of h2);obtain⟨u1,hu1,ru1⟩:=r1.get hx;obtain⟨u2,hu2,ru2⟩:=r2.get hy;refine Qlc D st (Y6 p1) (Y6 p2) (by simpa using hu1) (by simpa using hu2) λh' st' tp kp=>?_
  have hlt:∀b∈[z,TI,TO,i1,i2],b≠s.heap.objs.size:=λb hb=>by
   obtain⟨a1,a2,⟨_,_,a3⟩,⟨o4,a4,_,d4⟩,⟨o5,a5,_,d5⟩⟩:=st;simp only[Qv,Q6,or_false] at hb;rcases hb with rfl | rfl | rfl | rfl | rfl
   ·exact QF (Qp a1)
   ·exact QF (Qp a2)
   ·exact QF (Qp a3)
   ·exact QF (Qp a4)
   ·exact QF (Qp a5)
  have fr:H s.heap.objs.size=none:=I.hok.fresh (Qj _);refine⟨_,rfl,Qk2 st'.zp λh2' z2 s2=>?_⟩;have I1:Inv X pins σ (upd H s.heap.objs.size (.tup [x,y])) { s with heap:=h2',toks:=s.toks }:=by
   refine I.turnedNew (ch:=[z,TI,TO,i1,i2]) hf (λb u hb e=>?_) (Qj _) ⟨by show 2<=sizeLine;decide,[u1,u2],.cons ru1 (.cons ru2 .nil),?_⟩
   ·simp only[Qv,Q6,or_false,not_or] at hb;exact s2.extBut _ _ hb.1 (kp b u hb.1 hb.2.2.1 hb.2.2.2.1 hb.2.2.2.2 e)
   ·exact⟨_,s2.extBut _ _ (hlt z (by simp)).symm tp,rfl,0,rfl⟩
  refine⟨.ref s.heap.objs.size,_,I1,rfl,⟨_,x,y,fr,λxs' e=>?_,λys' e=>?_,rfl,rfl⟩,?_,λb hb=>?_⟩
  ·rw[h1] at e;cases e;exact hx
  ·rw[h2] at e;cases e;exact hy
  ·obtain⟨a1,a2,⟨a,b,a3⟩,a4,a5⟩:=st';exact⟨z2,s2.extBut _ _ D.TIz a2,⟨a,b,s2.extBut _ _ D.TOz a3⟩,a4.extBut s2.extBut D.i1z,a5.extBut s2.extBut D.i2z⟩
  ·rw[JG (hlt b hb)];exact(hf b hb).1
 done:=by
  intro X hP hw hK hc i pins s σ H E I hf st hg;subst hP hw hK;obtain⟨xs,ys,h1,h2,he⟩:=hg;obtain⟨its1,r1,p1,_⟩:=I.list (SqL.of h1);obtain⟨its2,r2,p2,_⟩:=I.list (SqL.of h2);have l1:=r1.length;have l2:=r2.length;refine Qn3 (I.ok.hd hc) D st (Y6 p1) (Y6 p2) ?_ λh' kp=>⟨rfl,I.turnedAll (t':=s.toks) (ch:=[z,TI,TO,i1,i2]) hf λb u hb e=>?_⟩
  ·rcases he with q | q
   ·exact .inl (by simp;omega)
   ·exact .inr (by simp;omega)
  ·simp only[Qv,Q6,or_false,not_or] at hb;exact kp b u hb.1 hb.2.2.1 hb.2.2.2.1 hb.2.2.2.2 e
 self:=λ_ _ _ _ _ st h=>Qc6 st.zp h
section
variable{X:Cx}
theorem QkN(n t1 t2:Nat)(h1:t1<n)(h2:t2<n):QxZ (n+4) (n+2) (n+3) n (n+1) t1 t2 where
 TIz:=by show ¬(n+2=n+4);omega
 TOz:=by show ¬(n+3=n+4);omega
 i1z:=by show ¬(n=n+4);omega
 i2z:=by show ¬(n+1=n+4);omega
 TITO:=by show ¬(n+2=n+3);omega
 TIi1:=by show ¬(n+2=n);omega
 TIi2:=by show ¬(n+2=n+1);omega
 TOi1:=by show ¬(n+3=n);omega
 TOi2:=by show ¬(n+3=n+1);omega
 i12:=by show ¬(n=n+1);omega
 l1z:=by show ¬(t1=n+4);omega
 l1TO:=by show ¬(t1=n+3);omega
 l1i1:=by show ¬(t1=n);omega
 l1i2:=by show ¬(t1=n+1);omega
 l2z:=by show ¬(t2=n+4);omega
 l2TO:=by show ¬(t2=n+3);omega
 l2i1:=by show ¬(t2=n);omega
 l2i2:=by show ¬(t2=n+1);omega
def QzD(ta:TA):TI:=λσ H R=>ta σ H λvs H1=>∃t1 t2 xs ys,vs=[.ref t1,.ref t2]/\H1 t1=some (.lst xs)/\H1 t2=some (.lst ys)/\R (QAJ t1 t2) H1
theorem Qnt:bootBuiltins "zip" = some (.type "zip"):=by decide +kernel
theorem Qs6{a b:Q3}{elts:List Q3}{x1}{tpos:Pos}{ta:TA}{p pos:Pos}(hg:Gl X "zip")(hm:X.mg "zip" = none)(ha:PA X [a,b] ta)(hs:starEach [a,b] X.env=[(false,eval a X.env),(false,eval b X.env)]:=by rfl)(hs2:starEach [b] X.env=[(false,eval b X.env)]:=by rfl) :
  PI X (.Tuple elts x1 tpos) (.Call (.Name "zip" p) [a,b] [] pos) (QzD ta):=by
 intro pins s σ H R I h;refine Call_ (QdW I hg hm Qnt (Zl (thn (ha pos pins s σ H _ I h) λus s1 ⟨vs,H1,I1,r1,q1⟩=>?_) (by rw[hs,hs2]) (by rw[hs2];rfl)));obtain⟨t1,t2,xs,ys,e,h1,h2,q⟩:=q1;subst e;obtain⟨u,v,rfl,ru,rv⟩:=vals2 r1;cases(show u=QQ t1 from ru);cases(show v=QQ t2 from rv);obtain⟨its1,w1,p1,_⟩:=I1.list (SqL.of h1);obtain⟨its2,w2,p2,_⟩:=I1.list (SqL.of h2);have n1:t1<s1.heap.objs.size:=I1.hok.lt h1;have n2:t2<s1.heap.objs.size:=I1.hok.lt h2;refine Qld (Y6 p1) (Y6 p2) λh' st kp=>?_
 refine Qc6 (s:={ s1 with heap:=h' }) st.zp ?_
 have D:=QkN s1.heap.objs.size t1 t2 n1 n2;refine⟨s1.heap.objs.size+4,_,_,_,H1,rfl,I1.kept (t':=s1.toks) kp,Qlj D,st,λb hb=>?_,q⟩;have hb':s1.heap.objs.size<=b:=by
  simp only[Qv,Q6,or_false] at hb;rcases hb with rfl | rfl | rfl | rfl | rfl<;>omega
 exact I1.fpOk hb' (I1.hok.fresh hb')
end
def Qv2(K:PySem.W.Frag):List V->Hp->VK->Prop:=λxs H Q=>∃p ys,xs=[.ref p]/\(SqL K H p ys∨SqT K H p ys)/\Q (.int ys.length) H
def Qzb:List V->Hp->VK->Prop:=λxs H Q=>(∃i,xs=[.int i]/\Q (.int i) H)∨∃k,xs=[.bl k]/\Q (.int (if k then 1 else 0)) H
theorem Qnr:bootBuiltins "sorted" = some (.builtin "sorted"):=by decide +kernel
def CMulB(i j:Int):Prop:=∃k:Nat,k<=1000000/\i.natAbs<2^k/\j.natAbs<2^k
theorem Qnz{i:Int}{k:Nat}(h:i.natAbs<2^k):Zx i<=k:=by
 unfold Zx;split
 ·exact Qu _
 ·rename_i z
  have hz:i.natAbs≠0:=by
   intro q;apply z
   have:i=0:=by omega
   subst this;rfl
  have:=(Nat.log2_lt hz).mpr h;omega
theorem CMulB.ok{i j:Int}(h:CMulB i j):IntMulOk i j:=by
 obtain⟨k,hk,h1,h2⟩:=h;have a:=Qnz h1;have b:=Qnz h2;unfold IntMulOk;have c:QfL (Zx i+Zx j:Nat)=false:=by
  unfold QfL;rw[decide_eq_false];have:bitsLine=134217728:=by decide +kernel
  rw[this];omega
 intro z;rw[JS] at z;have z2:=z.2;have e:((Zx i+Zx j:Nat):Int)=(Zx i:Int)+(Zx j:Int):=by omega
 rw[e] at c;rw[c] at z2;cases z2
section
variable{X:Cx}
theorem Qtz:OpR X (binaryOp .Mult) (rI CMulB λi j=>.int (i*j)):=opI λ_ _ _ _ _ _ _ hc q=>mul_int q hc.ok
end
end L2
namespace Rk
open L2 _root_.Rd
def Qz6(u:Nat):R2:=λx y H Q=>∃dx dy,Dat H x dx/\Dat H y dy/\u+min dx.depth dy.depth<cLine/\Q (.bl (!JD dx dy)) H
theorem QwH{X:Cx}:OpR X (compareOp .NotEq) (Qz6 X.A.units):=QwI
def QAc(u:Nat):R2:=λx y H Q=>∃dx dy,Dat H x dx/\Dat H y dy/\u+min dx.depth dy.depth<cLine/\Q (.bl (JD dx dy)) H
theorem QwL{X:Cx}:OpR X (compareOp .Eq) (QAc X.A.units):=QwM
theorem Qmc{X:Cx}:OpR X (compareOp .NotIn) (QAa X.A.in1.units true):=Qmd
mutual
def noL:Qb->Bool
 |.tuple ds=>Qpj ds
 |.list _=>false
 |.dict _=>false
 |_=>true
def Qpj:List Qb->Bool
 |[]=>true
 |d::ds=>noL d&&Qpj ds
end
theorem Qjv:∀{ds:List Qb},(∀d∈ds,noL d=true)->Qpj ds=true
 |[],_=>rfl
 |d::ds,h=>by
  show(noL d&&Qpj ds)=true;rw[h d (by simp),Qjv λe he=>h e (by simp[he])];rfl
mutual
theorem QjN{H:Hp}{pl:Addr}{ys:List V}{o:HO}(e:H pl=some (.lst ys)):∀(d:Qb)(x:V),noL d=true->Dat H x d->Dat (upd H pl o) x d
 |.none,_,_,.non=>.non
 |.bool b,_,_,.bl _=>.bl b
 |.int i,_,_,.int _=>.int i
 |.str z,_,_,.str _ c=>.str z c
 |.tuple ds,_,n,.tup (a:=a) (xs:=xs) ea q=>.tup (by rw[JG (λz=>by rw[z,e] at ea;cases ea)];exact ea) (QeQ e ds xs n q)
 |.list ds,_,n,_=>by cases n
theorem QeQ{H:Hp}{pl:Addr}{ys:List V}{o:HO}(e:H pl=some (.lst ys)):∀(ds:List Qb)(xs:List V),Qpj ds=true->Dats H xs ds->Dats (upd H pl o) xs ds
 |[],_,_,.nil=>.nil
 |d::ds,_,n,.cons q r=>by
  have n':=Qs.mp (show(noL d&&Qpj ds)=true from n);exact .cons (QjN e d _ n'.1 q) (QeQ e ds _ n'.2 r)
end
theorem Qm8{H:Hp}{xs:List V}{ds:List Qb}{x:V}{d:Qb}(h:Dats H xs ds)(q:Dat H x d):Dats H (xs++[x]) (ds++[d]):=h.app (.cons q .nil)
theorem Qgo{α:Type}{F:α->Option Qb}{l:List α}(h:∀i∈l,∀d,F i=some d->noL d=true):Qpj (l.filterMap F)=true:=by
 refine Qjv λd hd=>?_
 obtain⟨i,hi,e⟩:=Zs.mp hd;exact h i hi d e
theorem QpM{J:It}{σ:L2.St}{g:TG}{tc:TT}{te:TE}{pl:Addr}{H1:Hp}{Qn:Hp->Prop}(n:Nat)(hn:n<sizeLine)(F:Nat->Option Qb)(hF:∀i,i<n->∀d,F i=some d->noL d=true)(hp:H1 pl=none)
  (hs:∀i H2,i<n->Same H1 H2->(∃ys,H2 pl=some (.lst ys))->J.go i H2/\∀x H3,J.yld i H2 x H3->∀(kn:Hp->Prop)(kv:VK),(F i=none->∀H6,Same H2 H6->kn H6) ->
   (∀d v H6,F i=some d->Same H2 H6->Dat H6 v d->kv v H6) ->
   g x σ H3 λσ4 H4=>Wk σ σ4/\tc σ4 H4 λb H5=>if b=true then te σ4 H5 kv else kn H5)
  (hst:∀H2,Same H1 H2->J.stop n H2) (hq:∀H2 ys,Same H1 H2->H2 pl=some (.lst ys)->Dats H2 ys ((Qq n).filterMap F)->Qn H2) :
  QgZ J (bOf σ g tc (Qu2 pl te)) Qn (upd H1 pl (.lst [])):=by
 refine Qdy n (λi H2=>i<=n/\Same H1 H2/\∃ys,H2 pl=some (.lst ys)/\Dats H2 ys ((Qq i).filterMap F)) ⟨Qu _,JC hp,[],JB,.nil⟩ (λi H2 hi ⟨_,s2,ys,e2,c2⟩=>?_) λH2 ⟨_,s2,ys,e2,c2⟩=>⟨hst H2 s2,hq H2 ys s2 e2 c2⟩
 obtain⟨go,st⟩:=hs i H2 hi s2 ⟨ys,e2⟩;refine⟨go,λx H3 y k hk=>?_⟩;have er:(Qq (i+1)).filterMap F=(Qq i).filterMap F++(F i).toList:=by
  rw[Qap,ZG];cases e:F i<;>simp[e]
 refine st x H3 y k (λv H6=>∃ys,H6 pl=some (.lst ys)/\ys.length<sizeLine/\k (upd H6 pl (.lst (ys++[v])))) (λe H6 s6=>?_) λd v H6 e s6 dv=>?_
 ·refine hk _ ⟨hi,s2.trans s6,ys,s6 _ _ e2,?_⟩;rw[er,e]
  simpa using c2.same s6
 ·have e6:=s6 _ _ e2;refine⟨_,e6,?_,hk _ ⟨hi,λb o q=>?_,ys++[v],JB,?_⟩⟩
  ·have l1:=c2.length;have:((Qq i).filterMap F).length<=i:=by
    have:=Qh4 F (Qq i)
    rwa [QN] at this
   omega
  ·rw[JG (Zp q hp)];exact s6 b o (s2 b o q)
  ·rw[er,e];exact Qm8 (QeQ e6 _ _ (Qgo λj hj=>hF j (by have:=QV.mp hj;omega)) (c2.same s6)) (QjN e6 _ _ (hF i hi d e) dv)
theorem QtP{σ:L2.St}{H:Hp}{A B:Hp->Prop}(h:A H):Qif σ H λb H5=>if b=true then A H5 else B H5:=by
 show(if true=true then A H else B H);exact QrH h
def Qhx(ns:List Int):Qb:=.tuple (ns.map Qh)
theorem QeR{H:Hp}:∀(ns:List Int),Dats H (ns.map V.int) (ns.map Qh)
 |[]=>.nil
 |n::ns=>.cons (.int n) (QeR ns)
theorem Qhw{H:Hp}:∀{ns:List Int}{xs:List V},Dats H xs (ns.map Qh)->xs=ns.map V.int
 |[],_,.nil=>rfl
 |n::ns,_,.cons (.int _) r=>by rw[Qhw r];rfl
theorem QhB{H:Hp}{v:V}{ns:List Int}(h:Dat H v (Qhx ns)):∃t,v=.ref t/\H t=some (.tup (ns.map V.int)):=by
 unfold Qhx at h;cases h with
 |@tup a xs _ e q=>exact⟨a,rfl,by rw[e,Qhw q]⟩
theorem QmH{H:Hp}{t:Addr}{ns:List Int}(e:H t=some (.tup (ns.map V.int))):Dat H (.ref t) (Qhx ns):=.tup e (QeR ns)
theorem Qhl:∀ns:List Int,Qpj (ns.map Qh)=true
 |[]=>rfl
 |n::ns=>by show(true&&Qpj (ns.map Qh))=true;rw[Qhl ns];rfl
theorem Qmn(ns:List Int):noL (Qhx ns)=true:=Qhl ns
end Rk
namespace Rx
open PySem.Calls L2
end Rx
namespace Rk
open L2 _root_.Rd
theorem Qt2{n:Nat}(h:n<=1000000):n<sizeLine:=Z7 h (by decide)
end Rk
namespace HT
section
open PySem.SeqAt
open PySem.AutoSeq1 (wpAny_loadPart')
open PySem.MeetsSeq PySem.MeetsSeq2 PySem.MeetsSeq3
end
section
variable{prog:QC}{w:Ja}{A:Q2}{E:Value->Shared->Prop}{s:Shared}
end
end HT
namespace L2
def QvY(K:PySem.W.Frag):V->Option Int->Option Int->Hp->VK->Prop:=λx lo hi H Q=>∃a xs,x=.ref a/\SqL K H a xs/\∀p H',Same H H'->H p=none->H' p=some (.lst (QkZ xs lo hi))->Q (.ref p) H'
theorem Qod{X:Cx}:SlR X (QvY X.K):=by
 intro pins s σ H x v vl vu lo hi sl Q I rx hs pl pu h;obtain⟨a,xs,e,hx,q⟩:=h;exact QsC pins s σ H x v vl vu lo hi sl Q I rx hs pl pu ⟨a,xs,e,hx,λp hp=>q p _ (JC hp) hp JB⟩
end L2
namespace Rk
open L2 _root_.Rd
theorem Qha{α β:Type}(l:List α)(d:α)(P:α->Bool)(f:α->β):(Qq l.length).filterMap (λi=>if P (l.getD i d)=true then some (f (l.getD i d)) else none)=(l.filter P).map f:=by
 have h:=Qea l d P;rw[<- h,Qbq];refine congrArg (λg=>Qvg g (Qq l.length)) (funext λi=>?_);by_cases hm:P (l.getD i d)=true
 ·rw[if_pos hm,if_pos hm];rfl
 ·rw[if_neg hm,if_neg hm];rfl
theorem Qpu{H:Hp}{ys:List V}{os:List (List Int)}{i:Nat}{x:V}(h:Dats H ys (os.map Qhx))(e:ys[i]? = some x):i<os.length/\∃t,x=.ref t/\H t=some (.tup ((os.getD i []).map V.int)):=by
 obtain⟨d,hd,qd⟩:=h.get i x e;have hi:i<os.length:=by
  have:=(QM.mp hd).1
  rwa [Qe] at this
 refine⟨hi,?_⟩;have ed:d=Qhx (os.getD i []):=by
  rw[Qz,Qf hi] at hd;cases hd;rw[Qi,Qf hi];rfl
 subst ed;exact QhB qd
end Rk
namespace L2
section
variable{X:Cx}
def QlK(K:PySem.W.Frag):List V->Hp->VK->Prop:=λxs H Q=>∃p ys,xs=[.ref p]/\((SqL K H p ys/\∀l H',Same H H'->H l=none->H' l=some (.tup ys)->Q (.ref l) H')∨(SqT K H p ys/\Q (.ref p) H))
theorem Qct:CallR X (.type "tuple") (QlK X.K):=by
 intro pins s σ H xs us Q I r h;obtain⟨p,ys,e,h⟩:=h;refine Qgw pins s σ H xs us Q I r ⟨p,ys,e,?_⟩;rcases h with⟨h1,h2⟩ | h
 ·exact .inl ⟨h1,λl hl=>h2 l _ (JC hl) hl JB⟩
 ·exact .inr h
def QlM(K:PySem.W.Frag):List V->Hp->VK->Prop:=λxs H Q=>∃p ys,xs=[.ref p]/\(SqL K H p ys∨SqT K H p ys)/\∀l H',Same H H'->H l=none->H' l=some (.lst ys)->Q (.ref l) H'
theorem Qgx:CallR X (.type "list") (QlM X.K):=by
 intro pins s σ H xs us Q I r h;obtain⟨p,ys,e,h1,h2⟩:=h;exact QhH pins s σ H xs us Q I r ⟨p,ys,e,h1,λl hl=>h2 l _ (JC hl) hl JB⟩
def Qy9:R2:=λx y H Q=>∃l k xs,x=.ref l/\y=.int k/\H l=some (.lst xs) /\ -(2^63)<=k/\k<2^63/\xs.length*k.toNat<=1000000/\∀p H',Same H H'->H p=none->H' p=some (.lst (Q1 k.toNat xs).flatten)->Q (.ref p) H'
theorem Qtx:OpR X (binaryOp .Mult) Qy9:=by
 intro pins s σ H x y v u Q I rx ry h;obtain⟨l,k,xs,e1,e2,h1,h2,h3,h4,q⟩:=h;exact Qrz pins s σ H x y v u Q I rx ry ⟨l,k,xs,e1,e2,h1,h2,h3,Jb h4 (by decide),λp hp=>q p _ (JC hp) hp JB⟩
end
end L2
namespace Rk
open L2 _root_.Rd
end Rk
namespace L2
section
variable{X:Cx}
theorem QzC{op:Qed}{r:R2}(h:OpR X (inplaceOp op) r):PIp X op r:=λpins s σ H x y v u Q I rx ry q=>h pins s σ H x y v u Q I rx ry q
end
section
variable{X:Cx}
end
end L2
namespace Rk
open L2 _root_.Rd
end Rk
namespace Rx
open PySem.Calls L2
abbrev TSX:=L2.Ends->L2.St->Hp->(Addr->Hp->Prop)->Prop
def PSX(X:Cx)(st:Yt)(t:TSX):Prop:=∀(pins:List (Addr×Obj))(s:Shared)(σ:L2.St)(H:Hp)(D:L2.Ends)(Ex:Addr->Hp->Prop),Inv X pins σ H s->t D σ H Ex ->
 wpAny (model X.prog X.w) X.A (exec st X.env) (SP X pins D) (XP X pins λσ1 C H1=>σ1=σ/\Ex C H1) s
def QxU(X:Cx)(sts:List Yt)(t:TSX):Prop:=∀(pins:List (Addr×Obj))(s:Shared)(σ:L2.St)(H:Hp)(D:L2.Ends)(Ex:Addr->Hp->Prop),Inv X pins σ H s->t D σ H Ex ->
 wpAny (model X.prog X.w) X.A (execs sts X.env) (SP X pins D) (XP X pins λσ1 C H1=>σ1=σ/\Ex C H1) s
section
variable{X:Cx}{e:Q3}{st:Yt}{pos:Pos}{te:TX}{t u:TSX}{tc:TT}{c:Q3}{a b:List Yt}
theorem Qoy(he:PEX X e te)(hs:swapsWith e none pos.line X.env=pure false:=by rfl):PSX X (.Expr e pos) (λD σ H Ex=>te σ H (λ_ H1=>D.nx σ H1) Ex):=by
 intro pins s σ H D Ex I h;exact wpAny_Expr_any (thn (he pins s σ H _ _ I h) λv s1 ⟨x,H1,I1,r1,q1⟩=>⟨σ,H1,I1,q1⟩) I.quiet hs
theorem Qwc(hc:PT X.nox c tc)(ha:QxU X a t)(hb:QxU X b u):PSX X (.If c a b pos) (λD σ H Ex=>tc σ H λd H1=>if d=true then t D σ H1 Ex else u D σ H1 Ex):=by
 intro pins s σ H D Ex I h;refine wpAny_If (wpAny_mono (hc pins s σ H _ (I.wish _) h) (λd s1 ⟨H1,J1,q1⟩=>?_) λ_ _ z=>JE z);have I1:Inv X pins σ H1 s1:=J1.unwish;cases d with
 |true=>exact ha pins s1 σ H1 D Ex I1 q1
 |false=>exact hb pins s1 σ H1 D Ex I1 q1
theorem Qox(h1:PSX X st t):QxU X [st] t:=by
 intro pins s σ H D Ex I h;refine Qc8 (thn (h1 pins s σ H D Ex I h) λf s1 q=>?_);cases f with
 |next=>exact QbG q
 |ret v=>exact q
 |brk=>exact q
 |cont=>exact q
end
def QyU(K:PySem.W.Frag)(R:Addr)(i:Nat)(tb:TSX)(th:TE):TS:=λD σ H=>tb D σ H λC H1=>ByC K C R/\∀a,H1 a=none->th (σ.set i (some (.ref a))) (upd H1 a (exO a C)) D.rt
section
variable{X:Cx}{R:Addr}{i:Nat}{n r:Str}{body:List Yt}{hx:Q3}{tb:TSX}{th:TE}{np hp hpos pos:Pos}
theorem QsZ(hstk:X.stack=X.env::X.outer)(hfr:X.env.frame=some X.env.locals)(hc:QxU X body tb)(hN:X.N.Nodup)(hi:X.N[i]? = some n)(hl:X.env.scope.names.lookup n=some .local)
  (hg:Gl X r)(hm:X.mg r=some (.ref R))(hh:∀e,PE (mkd X e) hx th)(hd:(r == ("__debug__" : Str))=false:=by decide) :
  PS X (.Try body [.ExceptHandler (some (.Name r np)) (some n) [.Return (some hx) hp] hpos] [] [] pos) (QyU X.K R i tb th):=by
 intro pins s σ H D I h;refine wpAny_Try_except (wpAny_mono (hc pins s σ H D _ I h) (λf s1 q=>?_) λe s1 z=>?_)
 ·cases f with
  |next=>exact QbG q
  |ret v=>exact q
  |brk=>exact q
  |cont=>exact q
 obtain⟨σ1,C,H1,a,t,B,rfl,fl,fH,f0,fp,land,eσ,bc,q⟩:=z;subst eσ;rw[hstk] at fl;have fr:X.A.frames=some (X.env::X.outer):=by rw[<- hstk];exact I.ok.frames
 refine wpAny_looks_onW fr hfr fl λh4 held4 up4=>?_
 refine wpAny_landsW held4 λh5 fl5 up5=>?_
 have I5:L2.Inv X pins σ1 H1 { s1 with heap:=h5 }:=land h5 s1.toks fl5.1 (up4.trans up5);have x5:ExAt a C h5:=by
  obtain⟨oe,vs,e1,e2,e3,_⟩:=fl5.first
  exact⟨oe,vs,e1,e2,e3⟩
 refine wpAny_handleBy_cons (codeAny_handlers_test (QeK (X:=mkd X (.ref a)) (QmG I5 _) hg hm ?_ hd)) (by intro q;cases q);refine Qkw (s:={ s1 with heap:=h5 }) I5.kIn x5 bc ?_
 refine codeAny_handlers_suite_as ?_
 refine lands_againW fl5 λh6 fl6 up6=>?_
 have I6:L2.Inv X pins σ1 H1 { s1 with heap:=h6 }:=land h6 s1.toks fl6.1 ((up4.trans up5).trans up6);have x6:ExAt a C h6:=by
  obtain⟨oe,vs,e1,e2,e3,_⟩:=fl6.first
  exact⟨oe,vs,e1,e2,e3⟩
 have I7:=QmF I6 fH f0 fp x6;refine Qei I7 hN hi (Jp hl) (show RelV (.ref a) (.ref a) from rfl) (λs8 I8=>?_) (.inr hl);refine Qc8 (Qyu (wpAny_mono (hh (.ref a) pins s8 _ _ _ (QmG I8 _) (q a fH)) (λv s9 ⟨x,H9,I9,r9,q9⟩=>?_) λ_ _ z=>z.elim));have J9:L2.Inv X pins _ H9 s9:=Qpv I.ok I9;obtain⟨m,hn,hmm⟩:=id J9.loc;refine wpAny_nameGoes_keeps hl hn (by rw[I.ok.kind];rfl) λh' v' hn' hs'=>?_
 exact⟨x,_,H9,Qpw J9 hN hi hmm hn' hs',r9,q9⟩
end
end Rx
namespace L2
theorem FnOk.or{P:QC}{w:Ja}{K:PySem.W.Frag}{mg:Str->Option Value}{base:Heap}{CX:CXT}{k:Nat}{f:Addr}{fd:QP}{ps:List Str}{sp sp':Sp}(F:FnOk P w K mg base CX k f fd ps sp)(G:FnOk P w K mg base CX k f fd ps sp') :
  FnOk P w K mg base CX k f fd ps (λvs H Q E=>sp vs H Q E∨sp' vs H Q E):=
 ⟨λvs H Q E q=>q.elim (F.len vs H Q E) (G.len vs H Q E),λA outer s H args us vs Q E hr he hb hv hs=>hs.elim (λz=>F.run A outer s H args us vs Q E hr he hb hv z) λz=>G.run A outer s H args us vs Q E hr he hb hv z⟩
theorem FnOk.ex{P:QC}{w:Ja}{K:PySem.W.Frag}{mg:Str->Option Value}{base:Heap}{CX:CXT}{k:Nat}{f:Addr}{fd:QP}{ps:List Str}{sp:Sp}(F:FnOk P w K mg base CX0 k f fd ps sp) :
  FnOk P w K mg base CX k f fd ps sp:=
 ⟨F.len,λA outer s H args us vs Q E hr he hb hv hs=>Qa5 (F.run A outer s H args us vs Q E hr he hb hv hs) λr s' z=>by
  cases r with
  |error e=>exact JE z
  |ok fl=>cases fl<;>exact z⟩
section
variable{X:Cx}
end
end L2
namespace Rk
open L2 _root_.Rd
def Qlg:List Str:=["order", "size", "many", "number", "stand", "square", "counts", "hits", "stairs", "alike"]
def Qic:List Str:=Qlg++Q1 9 ("no" : Str)
def QfT(K:PySem.W.Frag)(cs:List Addr):Sp:=λvs H Q _=>∃(a C:Addr)(bs:List Bool)(j:Nat)(wd:Str),vs=[.ref a]/\H a=some (Rx.exO a C)/\Rx.ExC K C/\Yu (λc b=>PySem.W.kitOne K (.ref C) (.ref c)=some b) cs bs/\PySem.W.kitOne K (.ref C) (.type "ValueError")=some true /\
 bs.countP id=1/\bs[j]? = some true/\(∀m,m<j->bs[m]? = some false)/\Qic[j]? = some wd/\∀H',Same H H'->Q (.str wd) H'
structure KOk2 (K:PySem.W.Frag) (cs:List Addr) (R C:Addr) (wd:Str):Prop where
 by_:Rx.ByC K C R
 ex:∃(bs:List Bool)(j:Nat),Rx.ExC K C/\Yu (λc b=>PySem.W.kitOne K (.ref C) (.ref c)=some b) cs bs/\PySem.W.kitOne K (.ref C) (.type "ValueError")=some true/\bs.countP id=1/\bs[j]? = some true/\(∀m,m<j->bs[m]? = some false)/\Qic[j]? = some wd
theorem QpA{K:PySem.W.Frag}{cs:List Addr}{R C:Addr}{wd:Str}(o:KOk2 K cs R C wd){H1:Hp}{Q:VK}{σ:L2.St}{i:Nat}(hi:i < σ.length)(k:∀H',Same H1 H'->Q (.str wd) H') :
  Rx.ByC K C R/\∀a,H1 a=none->(Qe8 (QhZ i) Qsx) (σ.set i (some (.ref a))) (upd H1 a (Rx.exO a C)) λvs H2=>QfT K cs vs H2 Q E0:=by
 refine⟨o.by_,λa ha=>?_⟩;obtain⟨bs,j,hx,pb,eV,hc,hj,hm,hw⟩:=o.ex;exact⟨_,Qcq hi,a,C,bs,j,wd,rfl,JB,hx,pb,eV,hc,hj,hm,hw,λH2 s2=>k H2 ((JC ha).trans s2)⟩
end Rk
namespace Dl
open L2 _root_.Rd Rk
mutual
inductive DA (A:Addr->Prop) (H:Hp):V->Qb->Prop
 |non:DA A H .non .none
 |bl (b:Bool):DA A H (.bl b) (.bool b)
 |int (i:Int):DA A H (.int i) (.int i)
 |str (x:Str):Qav (.str x)=true->DA A H (.str x) (.str x)
 |tup {a:Addr} {xs:List V} {ds:List Qb}:¬A a->H a=some (.tup xs)->DAs A H xs ds->DA A H (.ref a) (.tuple ds)
 |lst {a:Addr} {xs:List V} {ds:List Qb}:¬A a->H a=some (.lst xs)->DAs A H xs ds->DA A H (.ref a) (.list ds)
 |dct {a:Addr}:¬A a->H a=some (.dK [])->DA A H (.ref a) (.dict [])
inductive DAs (A:Addr->Prop) (H:Hp):List V->List Qb->Prop
 |nil:DAs A H [] []
 |cons {x:V} {xs:List V} {d:Qb} {ds:List Qb}:DA A H x d->DAs A H xs ds->DAs A H (x::xs) (d::ds)
end
mutual
theorem QxA{A A':Addr->Prop}{H H':Hp}(k:∀a o,¬A a->H a=some o->H' a=some o)(m:∀a,A' a->A a∨H a=none):∀(d:Qb)(x:V),DA A H x d->DA A' H' x d
 |.none,_,.non=>.non
 |.bool _,_,.bl _=>.bl _
 |.int _,_,.int _=>.int _
 |.str _,_,.str _ c=>.str _ c
 |.tuple ds,_,.tup (xs:=xs) n e q=>.tup (λz=>(m _ z).elim n λz=>by rw[z] at e;cases e) (k _ _ n e) (QjO k m ds xs q)
 |.list ds,_,.lst (xs:=xs) n e q=>.lst (λz=>(m _ z).elim n λz=>by rw[z] at e;cases e) (k _ _ n e) (QjO k m ds xs q)
 |.dict _,_,.dct n e=>.dct (λz=>(m _ z).elim n λz=>by rw[z] at e;cases e) (k _ _ n e)
theorem QjO{A A':Addr->Prop}{H H':Hp}(k:∀a o,¬A a->H a=some o->H' a=some o)(m:∀a,A' a->A a∨H a=none):∀(ds:List Qb)(xs:List V),DAs A H xs ds->DAs A' H' xs ds
 |[],_,.nil=>.nil
 |d::ds,_,.cons (x:=x) (xs:=xs) q qs=>.cons (QxA k m d x q) (QjO k m ds xs qs)
end
theorem DA.mv{A A':Addr->Prop}{H H':Hp}{x:V}{d:Qb}(q:DA A H x d)(k:∀a o,¬A a->H a=some o->H' a=some o)(m:∀a,A' a->A a∨H a=none):DA A' H' x d:=QxA k m d x q
theorem DAs.mv{A A':Addr->Prop}{H H':Hp}{x:List V}{d:List Qb}(q:DAs A H x d)(k:∀a o,¬A a->H a=some o->H' a=some o)(m:∀a,A' a->A a∨H a=none):DAs A' H' x d:=QjO k m d x q
theorem DA.same{A:Addr->Prop}{H H':Hp}{x:V}{d:Qb}(q:DA A H x d)(s:Same H H'):DA A H' x d:=q.mv (λa o _ e=>s a o e) λa z=>.inl z
theorem DAs.same{A:Addr->Prop}{H H':Hp}{x:List V}{d:List Qb}(q:DAs A H x d)(s:Same H H'):DAs A H' x d:=q.mv (λa o _ e=>s a o e) λa z=>.inl z
theorem DAs.length{A:Addr->Prop}{H:Hp}:∀{xs:List V}{ds:List Qb},DAs A H xs ds->xs.length=ds.length
 |_,_,.nil=>rfl
 |_,_,.cons _ q=>by rw[Qy,Qy,q.length]
theorem DAs.get{A:Addr->Prop}{H:Hp}:∀{xs:List V}{ds:List Qb},DAs A H xs ds->∀(i:Nat)(d:Qb),ds[i]? = some d->∃x,xs[i]? = some x/\DA A H x d
 |_,_,.nil,i,x,e=>by simp at e
 |_,_,.cons q qs,0,x,e=>by simp at e;subst e;exact⟨_,rfl,q⟩
 |_,_,.cons q qs,i+1,x,e=>qs.get i x (by simpa using e)
theorem DAs.app{A:Addr->Prop}{H:Hp}:∀{xs ys:List V}{ds es:List Qb},DAs A H xs ds->DAs A H ys es->DAs A H (xs++ys) (ds++es)
 |_,_,_,_,.nil,q=>q
 |_,_,_,_,.cons a b,q=>.cons a (b.app q)
theorem DAs.take{A:Addr->Prop}{H:Hp}:∀{xs:List V}{ds:List Qb},DAs A H xs ds->∀n:Nat,DAs A H (xs.take n) (ds.take n)
 |_,_,.nil,n=>by rw[Qx2,Qx2];exact .nil
 |_,_,.cons a b,0=>.nil
 |_,_,.cons a b,n+1=>.cons a (b.take n)
theorem DAs.drop{A:Addr->Prop}{H:Hp}:∀{xs:List V}{ds:List Qb},DAs A H xs ds->∀n:Nat,DAs A H (xs.drop n) (ds.drop n)
 |_,_,.nil,n=>by rw[Qx3,Qx3];exact .nil
 |_,_,.cons a b,0=>.cons a b
 |_,_,.cons a b,n+1=>b.drop n
mutual
def nd:Qb->Bool
 |.dict _=>false
 |.tuple ds=>nds ds
 |.list ds=>nds ds
 |_=>true
def nds:List Qb->Bool
 |[]=>true
 |d::ds=>nd d&&nds ds
end
mutual
theorem QrU{A:Addr->Prop}{H:Hp}:∀(d:Qb)(x:V),nd d=true->DA A H x d->Dat H x d
 |.none,_,_,.non=>.non
 |.bool _,_,_,.bl _=>.bl _
 |.int _,_,_,.int _=>.int _
 |.str _,_,_,.str _ c=>.str _ c
 |.tuple ds,_,n,.tup (xs:=xs) _ e q=>.tup e (Qcg ds xs n q)
 |.list ds,_,n,.lst (xs:=xs) _ e q=>.lst e (Qcg ds xs n q)
theorem Qcg{A:Addr->Prop}{H:Hp}:∀(ds:List Qb)(xs:List V),nds ds=true->DAs A H xs ds->Dats H xs ds
 |[],_,_,.nil=>.nil
 |d::ds,_,n,.cons (x:=x) (xs:=xs) q qs=>by
  have n':=Qs.mp (show(nd d&&nds ds)=true from n);exact .cons (QrU d x n'.1 q) (Qcg ds xs n'.2 qs)
end
theorem QtR{ds:List Qb}:nds ds=true↔∀d∈ds,nd d=true:=by
 induction ds with
 |nil=>exact⟨(λ_ _ h=>nomatch h),λ_=>rfl⟩
 |cons d ds ih=>
  rw[show nds (d::ds)=(nd d&&nds ds) from rfl,Qs,ih];constructor
  ·rintro⟨a,b⟩ e he;rcases Qv.mp he with z | z
   ·rw[z];exact a
   ·exact b e z
  ·intro h;exact⟨h d (by simp),λe he=>h e (by simp[he])⟩
def DP(A P:Addr->Prop)(H:Hp)(v:V)(d:Qb):Prop:=DA A H v d∨∃l xs ds,v=.ref l/\d=.list ds/\¬P l/\H l=some (.lst xs)/\DAs A H xs ds
theorem DP.dat{A P:Addr->Prop}{H:Hp}{v:V}{d:Qb}(h:DP A P H v d)(n:nd d=true):Dat H v d:=by
 rcases h with h | ⟨l,xs,ds,rfl,rfl,_,e,q⟩
 ·exact QrU d v n h
 ·exact .lst e (Qcg ds xs n q)
theorem DP.list{A P:Addr->Prop}{H:Hp}{v:V}{ds:List Qb}(h:DP A P H v (.list ds)):∃l xs,v=.ref l/\H l=some (.lst xs)/\DAs A H xs ds:=by
 rcases h with h | ⟨l,xs,ds',rfl,e,_,h2,q⟩
 ·cases h with | lst n e q=>exact⟨_,_,rfl,e,q⟩
 ·cases e;exact⟨l,xs,rfl,h2,q⟩
theorem DP.tuple{A P:Addr->Prop}{H:Hp}{v:V}{ds:List Qb}(h:DP A P H v (.tuple ds)):∃l xs,v=.ref l/\H l=some (.tup xs)/\DAs A H xs ds:=by
 rcases h with h | ⟨l,xs,ds',rfl,e,_⟩
 ·cases h with | tup n e q=>exact⟨_,_,rfl,e,q⟩
 ·cases e
theorem DP.int{A P:Addr->Prop}{H:Hp}{v:V}{i:Int}(h:DP A P H v (.int i)):v=.int i:=by
 rcases h with h | ⟨l,xs,ds',rfl,e,_⟩
 ·cases h;rfl
 ·cases e
theorem DP.bool{A P:Addr->Prop}{H:Hp}{v:V}{i:Bool}(h:DP A P H v (.bool i)):v=.bl i:=by
 rcases h with h | ⟨l,xs,ds',rfl,e,_⟩
 ·cases h;rfl
 ·cases e
theorem DP.none{A P:Addr->Prop}{H:Hp}{v:V}(h:DP A P H v .none):v=.non:=by
 rcases h with h | ⟨l,xs,ds',rfl,e,_⟩
 ·cases h;rfl
 ·cases e
theorem DP.str{A P:Addr->Prop}{H:Hp}{v:V}{x:Str}(h:DP A P H v (.str x)):v=.str x/\Qav (.str x)=true:=by
 rcases h with h | ⟨l,xs,ds',rfl,e,_⟩
 ·cases h with | str _ c=>exact⟨rfl,c⟩
 ·cases e
inductive Sl where
 |no | pot | scr
 |v (d:Qb)
 |own (ds:List Qb)
 |pk (ds:List Qb)
abbrev Sts:=List Sl
structure Fm where
 H0:Hp
 A0:Addr->Prop
 pt:Addr->Prop
def QAG(σ:L2.St)(δ:Sts)(i:Nat)(a:Addr):Prop:=σ[i]? = some (some (.ref a))/\(δ[i]? = some .pot∨∃ds,δ[i]? = some (.own ds))
def Av(F:Fm)(σ:L2.St)(δ:Sts)(a:Addr):Prop:=F.A0 a∨∃i,QAG σ δ i a
def Yj(σ:L2.St)(δ:Sts)(a:Addr):Prop:=∃i:Nat,σ[i]? = some (some (.ref a))/\δ[i]? = some .pot
def QAE(K:PySem.W.Frag)(F:Fm)(H:Hp)(A:Addr->Prop)(o:Option V):Sl->Prop
 |.no=>True
 |.v d=>∃v,o=some v/\DA A H v d
 |.own ds=>∃l xs,o=some (.ref l)/\H l=some (.lst xs)/\DAs A H xs ds/\F.H0 l=none
 |.pk ds=>∃l xs,o=some (.ref l)/\H l=some (.lst xs)/\DAs A H xs ds/\∃ys,F.H0 l=some (.lst ys)/\¬F.pt l
 |.pot=>∃p n,o=some (.ref p)/\H p=some (.lst [.int n])/\(F.pt p∨F.H0 p=none)
 |.scr=>∃a ns,o=some (.ref a)/\SqL K F.H0 a ((ns:List Int).map V.int)/\¬F.pt a/\ns.length<=63
structure Rel (K:PySem.W.Frag) (F:Fm) (σ:L2.St) (H:Hp) (δ:Sts):Prop where
 len:σ.length=δ.length
 dom:∀a,F.A0 a->∃xs,H a=some (.lst xs)
 dom0:∀a,F.A0 a->∃xs,F.H0 a=some (.lst xs)
 pt0:∀p,F.pt p->F.A0 p/\∃n,H p=some (.lst [.int n])
 kx:∀b o,¬F.pt b->F.H0 b=some o->H b=some o
 sl:∀(i:Nat) o x,σ[i]? = some o->δ[i]? = some x->QAE K F H (Av F σ δ) o x
 inj:∀(i j:Nat) a ds,δ[i]? = some (.own ds)->σ[i]? = some (some (.ref a))->QAG σ δ j a->i=j
def Kp(σ:L2.St)(δ:Sts)(H H':Hp):Prop:=(∀b o,¬Yj σ δ b->H b=some o->H' b=some o)/\∀b,Yj σ δ b->∃n,H' b=some (.lst [.int n])
def Stp(F:Fm)(σ:L2.St)(H:Hp)(δ:Sts)(σ':L2.St)(H':Hp)(δ':Sts):Prop:=(∀b o,¬Av F σ δ b->H b=some o->H' b=some o)/\∀b,Av F σ' δ' b->Av F σ δ b∨H b=none
def Ke(F:Fm)(H':Hp):Prop:=(∀b o,¬F.pt b->F.H0 b=some o->H' b=some o)/\∀p,F.pt p->∃n,H' p=some (.lst [.int n])
theorem Y5{F:Fm}{σ:L2.St}{δ:Sts}{a:Addr}(h:Yj σ δ a):Av F σ δ a:=let ⟨i,h1,h2⟩:=h;.inr ⟨i,h1,.inl h2⟩
theorem Rel.ke{K:PySem.W.Frag}{F:Fm}{σ:L2.St}{H:Hp}{δ:Sts}(r:Rel K F σ H δ):Ke F H:=⟨r.kx,λp hp=>(r.pt0 p hp).2⟩
theorem Rel.isl{K:PySem.W.Frag}{F:Fm}{σ:L2.St}{H:Hp}{δ:Sts}(r:Rel K F σ H δ){a:Addr}(h:Av F σ δ a):∃xs,H a=some (.lst xs):=by
 rcases h with h | ⟨i,h1,h2⟩
 ·exact r.dom a h
 ·rcases h2 with h2 | ⟨ds,h2⟩
  ·obtain⟨p,n,e,h,_⟩:=r.sl i _ _ h1 h2;cases e;exact⟨_,h⟩
  ·obtain⟨l,xs,e,h,_⟩:=r.sl i _ _ h1 h2;cases e;exact⟨_,h⟩
theorem Kp.refl{K:PySem.W.Frag}{F:Fm}{σ:L2.St}{H:Hp}{δ:Sts}(r:Rel K F σ H δ):Kp σ δ H H:=⟨λ_ _ _ e=>e,λb ⟨i,h1,h2⟩=>by
 obtain⟨p,n,e,h,_⟩:=r.sl i _ _ h1 h2;cases e;exact⟨n,h⟩⟩
theorem Kp.trans{σ:L2.St}{δ:Sts}{H H1 H2:Hp}(a:Kp σ δ H H1)(b:Kp σ δ H1 H2):Kp σ δ H H2:=⟨λc o n e=>b.1 c o n (a.1 c o n e),b.2⟩
theorem Kp.same{K:PySem.W.Frag}{F:Fm}{σ:L2.St}{H H':Hp}{δ:Sts}(r:Rel K F σ H δ)(s:Same H H'):Kp σ δ H H':=⟨λb o _ e=>s b o e,λb hb=>let ⟨n,h⟩:=(Kp.refl r).2 b hb;⟨n,s _ _ h⟩⟩
theorem Kp.da{F:Fm}{σ:L2.St}{H H':Hp}{δ:Sts}{v:V}{d:Qb}(k:Kp σ δ H H')(h:DA (Av F σ δ) H v d):DA (Av F σ δ) H' v d:=h.mv (λa o n e=>k.1 a o (λz=>n (Y5 z)) e) λa z=>.inl z
theorem Kp.das{F:Fm}{σ:L2.St}{H H':Hp}{δ:Sts}{v:List V}{d:List Qb}(k:Kp σ δ H H')(h:DAs (Av F σ δ) H v d):DAs (Av F σ δ) H' v d:=h.mv (λa o n e=>k.1 a o (λz=>n (Y5 z)) e) λa z=>.inl z
theorem Kp.dp{F:Fm}{σ:L2.St}{H H':Hp}{δ:Sts}{v:V}{d:Qb}(k:Kp σ δ H H')(h:DP (Av F σ δ) (Yj σ δ) H v d):DP (Av F σ δ) (Yj σ δ) H' v d:=by
 rcases h with h | ⟨l,xs,ds,e1,e2,n,e,q⟩
 ·exact .inl (k.da h)
 ·exact .inr ⟨l,xs,ds,e1,e2,n,k.1 _ _ n e,k.das q⟩
theorem Rel.own_pot{K:PySem.W.Frag}{F:Fm}{σ:L2.St}{H:Hp}{δ:Sts}(r:Rel K F σ H δ){i:Nat}{ds:List Qb}{l:Addr}(h:δ[i]? = some (.own ds))(e:σ[i]? = some (some (.ref l))):¬Yj σ δ l:=by
 rintro⟨j,h1,h2⟩;have:=r.inj i j l _ h e ⟨h1,.inl h2⟩;subst this;rw[h] at h2;cases h2
theorem Rel.pt_pot{K:PySem.W.Frag}{F:Fm}{σ:L2.St}{H H':Hp}{δ:Sts}(r:Rel K F σ H δ)(k:Kp σ δ H H'){p:Addr}(hp:F.pt p):∃n,H' p=some (.lst [.int n]):=by
 by_cases z:Yj σ δ p
 ·exact k.2 p z
 ·obtain⟨n,e⟩:=(r.pt0 p hp).2;exact⟨n,k.1 _ _ z e⟩
theorem Rel.kp{K:PySem.W.Frag}{F:Fm}{σ:L2.St}{H H':Hp}{δ:Sts}(r:Rel K F σ H δ)(k:Kp σ δ H H'):Rel K F σ H' δ where
 len:=r.len
 dom:=λa ha=>by
  by_cases z:Yj σ δ a
  ·exact⟨_,(k.2 a z).choose_spec⟩
  ·obtain⟨xs,e⟩:=r.dom a ha;exact⟨xs,k.1 _ _ z e⟩
 dom0:=r.dom0
 pt0:=λp hp=>⟨(r.pt0 p hp).1,r.pt_pot k hp⟩
 kx:=λb o n e=>by
  by_cases z:Yj σ δ b
  ·obtain⟨i,h1,h2⟩:=z;obtain⟨p,m,e1,h,q⟩:=r.sl i _ _ h1 h2;cases e1;rcases q with q | q
   ·exact absurd q n
   ·rw[q] at e;cases e
  ·exact k.1 _ _ z (r.kx b o n e)
 sl:=λi o x h1 h2=>by
  have h:=r.sl i o x h1 h2;cases x with
  |no=>trivial
  |v d=>obtain⟨v,e,q⟩:=h;exact⟨v,e,k.da q⟩
  |own ds=>obtain⟨l,xs,rfl,e,q,f⟩:=h;exact⟨l,xs,rfl,k.1 _ _ (r.own_pot h2 h1) e,k.das q,f⟩
  |pk ds=>
   obtain⟨l,xs,rfl,e,q,ys,f,f2⟩:=h;refine⟨l,xs,rfl,k.1 _ _ ?_ e,k.das q,ys,f,f2⟩;rintro⟨j,j1,j2⟩;obtain⟨p,m,e1,_,w⟩:=r.sl j _ _ j1 j2;cases e1;rcases w with w | w
   ·exact f2 w
   ·rw[w] at f;cases f
  |pot=>
   obtain⟨p,n,rfl,e,q⟩:=h;obtain⟨m,e'⟩:=k.2 p ⟨i,h1,h2⟩;exact⟨p,m,rfl,e',q⟩
  |scr=>exact h
 inj:=r.inj
theorem Rel.same{K:PySem.W.Frag}{F:Fm}{σ:L2.St}{H H':Hp}{δ:Sts}(r:Rel K F σ H δ)(s:Same H H'):Rel K F σ H' δ:=r.kp (Kp.same r s)
theorem Stp.refl{F:Fm}{σ:L2.St}{H:Hp}{δ:Sts}:Stp F σ H δ σ H δ:=⟨λ_ _ _ e=>e,λ_ z=>.inl z⟩
theorem Stp.trans{F:Fm}{σ σ1 σ2:L2.St}{H H1 H2:Hp}{δ δ1 δ2:Sts}(a:Stp F σ H δ σ1 H1 δ1)(b:Stp F σ1 H1 δ1 σ2 H2 δ2):Stp F σ H δ σ2 H2 δ2:=by
 refine⟨λc o n e=>?_,λc z=>?_⟩
 ·refine b.1 c o (λz=>?_) (a.1 c o n e);rcases a.2 c z with q | q
  ·exact n q
  ·rw[q] at e;cases e
 ·rcases b.2 c z with q | q
  ·exact a.2 c q
  ·by_cases y:Av F σ δ c
   ·exact .inl y
   ·right
    cases e:H c with
    |none=>rfl
    |some o=>rw[a.1 c o y e] at q;cases q
theorem Stp.kp{F:Fm}{σ:L2.St}{H H':Hp}{δ:Sts}(k:Kp σ δ H H'):Stp F σ H δ σ H' δ:=⟨λb o n e=>k.1 b o (λz=>n (Y5 z)) e,λ_ z=>.inl z⟩
theorem Stp.da{F:Fm}{σ σ':L2.St}{H H':Hp}{δ δ':Sts}{v:V}{d:Qb}(k:Stp F σ H δ σ' H' δ')(h:DA (Av F σ δ) H v d):DA (Av F σ' δ') H' v d:=h.mv k.1 k.2
abbrev XP:=Addr->Prop
abbrev DE:=Sts->(Qb->Prop)->XP->Prop
abbrev DT:=Sts->(Bool->Prop)->XP->Prop
abbrev DAr:=Sts->(List Qb->Prop)->XP->Prop
abbrev DSl:=Sts->(List Sl->Prop)->XP->Prop
inductive Md where | D | P | F
def FrV(H H':Hp)(v:V):Prop:=∀l,v=.ref l->(∃xs,H' l=some (.lst xs))->H l=none
def Vok(m:Md)(F:Fm)(σ:L2.St)(δ:Sts)(H H':Hp)(v:V)(d:Qb):Prop:=
 match m with
 |.D=>DA (Av F σ δ) H' v d
 |.P=>DP (Av F σ δ) (Yj σ δ) H' v d
 |.F=>DA (Av F σ δ) H' v d/\FrV H H' v
def Out(F:Fm)(E:XK)(EX:XP):Prop:=∀C,EX C->∀H',Ke F H'->E (.ref C) none H'
def tX(m:Md)(K:PySem.W.Frag)(E:XK)(w:DE):TE:=λσ H Q=>∃(F:Fm)(δ:Sts)(R:Qb->Prop)(EX:XP),Rel K F σ H δ/\w δ R EX/\(∀d,R d->∀v H',Rel K F σ H' δ->Kp σ δ H H'->Vok m F σ δ H H' v d->Q v H')/\Out F E EX
def tT(K:PySem.W.Frag)(E:XK)(w:DT):TT:=λσ H Q=>∃(F:Fm)(δ:Sts)(R:Bool->Prop)(EX:XP),Rel K F σ H δ/\w δ R EX/\(∀b,R b->∀H',Rel K F σ H' δ->Kp σ δ H H'->Q b H')/\Out F E EX
def VD(m:Md)(A P:Addr->Prop)(H:Hp)(v:V)(d:Qb):Prop:=
 match m with
 |.P=>DP A P H v d
 |_=>DA A H v d
def tAr(n:Nat)(m:Md)(K:PySem.W.Frag)(E:XK)(w:DAr):TA:=λσ H Q=>∃(F:Fm)(δ:Sts)(R:List Qb->Prop)(EX:XP),Rel K F σ H δ/\w δ R EX/\(∀ds,R ds->ds.length=n->∀vs H',Rel K F σ H' δ->Kp σ δ H H'->Yu (VD m (Av F σ δ) (Yj σ δ) H') vs ds->Q vs H')/\Out F E EX
def QhS(A pt:Addr->Prop)(H:Hp)(v:V):Sl->Prop
 |.v d=>DA A H v d
 |.pot=>∃p,v=.ref p/\pt p
 |_=>False
def tAs(K:PySem.W.Frag)(E:XK)(w:DSl):TA:=λσ H Q=>∃(F:Fm)(δ:Sts)(R:List Sl->Prop)(EX:XP),Rel K F σ H δ/\w δ R EX/\(∀ds,R ds->∀vs H',Rel K F σ H' δ->Kp σ δ H H'->Yu (QhS (Av F σ δ) (Yj σ δ) H') vs ds->Q vs H')/\Out F E EX
theorem Kp.vd{m:Md}{F:Fm}{σ:L2.St}{H H':Hp}{δ:Sts}{v:V}{d:Qb}(k:Kp σ δ H H')(h:VD m (Av F σ δ) (Yj σ δ) H v d):VD m (Av F σ δ) (Yj σ δ) H' v d:=by
 cases m
 ·exact k.da h
 ·exact k.dp h
 ·exact k.da h
theorem Kp.arg{F:Fm}{σ:L2.St}{H H':Hp}{δ:Sts}{v:V}{d:Sl}(k:Kp σ δ H H')(h:QhS (Av F σ δ) (Yj σ δ) H v d):QhS (Av F σ δ) (Yj σ δ) H' v d:=by
 cases d with
 |v d=>exact k.da h
 |pot=>exact h
 |_=>exact h.elim
def Qc5(H:Hp):Prop:=∀a xs,H a=some (.lst xs)∨H a=some (.tup xs)->xs.length<=sizeLine
section
variable{X:Cx}{E:XK}
theorem Inv.lens{pins:List (Addr×Obj)}{σ:L2.St}{H:Hp}{s:Shared}(I:Inv X pins σ H s):Qc5 H:=λa xs h=>by
 rcases h with h | h
 ·exact(I.hok a _ h).1
 ·exact(I.hok a _ h).1
theorem PE.imp{e:Q3}{t t':TE}(h:PE X e t)(i:∀σ H Q,t' σ H Q->t σ H Q):PE X e t':=λpins s σ H Q I q=>h pins s σ H Q I (i σ H Q q)
theorem PT.imp{e:Q3}{t t':TT}(h:PT X e t)(i:∀σ H Q,t' σ H Q->t σ H Q):PT X e t':=λpins s σ H Q I q=>h pins s σ H Q I (i σ H Q q)
theorem PW.imp{e:Q3}{t t':TT}(h:PW X e t)(i:∀σ H Q,t' σ H Q->t σ H Q):PW X e t':=λwh pins s σ H Q I q=>h wh pins s σ H Q I (i σ H Q q)
theorem PA.imp{e:List Q3}{t t':TA}(h:PA X e t)(i:∀σ H Q,t' σ H Q->t σ H Q):PA X e t':=λpos pins s σ H Q I q=>h pos pins s σ H Q I (i σ H Q q)
theorem OpR.len{f:Value->Value->Sem Value}{r:R2}(h:OpR X f r):OpR X f (λx y H Q=>Qc5 H->r x y H Q):=λpins s σ H x y v u Q I rx ry q=>h pins s σ H x y v u Q I rx ry (q (Inv.lens I))
theorem CallR.len{f:Value}{r:List V->Hp->VK->Prop}(h:CallR X f r):CallR X f (λxs H Q=>Qc5 H->r xs H Q):=λpins s σ H xs us Q I rx q=>h pins s σ H xs us Q I rx (q (Inv.lens I))
theorem IxR.len{r:R2}(h:IxR X r):IxR X (λx y H Q=>Qc5 H->r x y H Q):=λa b pins s σ H x y v u Q I rx ry q hs=>h a b pins s σ H x y v u Q I rx ry (q (Inv.lens I)) hs
theorem OpR.or2{f:Value->Value->Sem Value}{r r':R2}(h:OpR X f r)(h':OpR X f r'):OpR X f (λx y H Q=>r x y H Q∨r' x y H Q):=OpR.or h h'
theorem IxR.or2{r r':R2}(h:IxR X r)(h':IxR X r'):IxR X (λx y H Q=>r x y H Q∨r' x y H Q):=λa b pins s σ H x y v u Q I rx ry q hs=>q.elim (λq=>h a b pins s σ H x y v u Q I rx ry q hs) λq=>h' a b pins s σ H x y v u Q I rx ry q hs
theorem SlR.or2{r r':V->Option Int->Option Int->Hp->VK->Prop}(h:SlR X r)(h':SlR X r'):SlR X (λx a b H Q=>r x a b H Q∨r' x a b H Q):=λpins s σ H x v vl vu lo hi sl Q I rx hs pl pu q=>q.elim (h pins s σ H x v vl vu lo hi sl Q I rx hs pl pu) (h' pins s σ H x v vl vu lo hi sl Q I rx hs pl pu)
theorem toD{e:Q3}{w:DE}(h:PE X e (tX .F X.K E w)):PE X e (tX .D X.K E w):=PE.imp h λσ H Q ⟨F,δ,R,EX,r,hw,k,o⟩=>⟨F,δ,R,EX,r,hw,λd hd v H' r' kp vk=>k d hd v H' r' kp vk.1,o⟩
theorem toP{e:Q3}{w:DE}(h:PE X e (tX .D X.K E w)):PE X e (tX .P X.K E w):=PE.imp h λσ H Q ⟨F,δ,R,EX,r,hw,k,o⟩=>⟨F,δ,R,EX,r,hw,λd hd v H' r' kp vk=>k d hd v H' r' kp (.inl vk),o⟩
theorem QAL{e:Q3}{w:DE}(h:PE X e (tX .F X.K E w)):PE X e (tX .P X.K E w):=toP (toD h)
def QzM(i:Nat):DE:=λδ Q _=>match δ[i]? with
 |some (.v d)=>Q d
 |_=>False
def dPk(i:Nat):DE:=λδ Q _=>match δ[i]? with
 |some (.v d)=>Q d
 |some (.own ds)=>Q (.list ds)
 |some (.pk ds)=>Q (.list ds)
 |_=>False
def dC(d:Qb):DE:=λ_ Q _=>Q d
theorem Rel.lt{K:PySem.W.Frag}{F:Fm}{σ:L2.St}{H:Hp}{δ:Sts}(r:Rel K F σ H δ){i:Nat}{x:Sl}(h:δ[i]? = some x):∃o,σ[i]? = some o:=by
 have:=(QM.mp h).1;exact⟨σ[i]'(by rw[r.len];exact this),Qf _⟩
theorem Qws{e:Q3}{i:Nat}(h:PE X e (QhZ i)):PE X e (tX .D X.K E (QzM i)):=PE.imp h λσ H Q ⟨F,δ,R,EX,r,hw,k,o⟩=>by
 unfold QzM at hw;split at hw
 ·rename_i d hd
  obtain⟨x,hx⟩:=r.lt hd;obtain⟨v,rfl,q⟩:=r.sl i _ _ hx hd;exact⟨v,hx,k d hw v H r (Kp.refl r) q⟩
 ·exact hw.elim
theorem Qzn{e:Q3}{i:Nat}(h:PE X e (QhZ i)):PE X e (tX .P X.K E (dPk i)):=PE.imp h λσ H Q ⟨F,δ,R,EX,r,hw,k,o⟩=>by
 unfold dPk at hw;split at hw
 ·rename_i d hd
  obtain⟨x,hx⟩:=r.lt hd;obtain⟨v,rfl,q⟩:=r.sl i _ _ hx hd;exact⟨v,hx,k d hw v H r (Kp.refl r) (.inl q)⟩
 ·rename_i d hd
  obtain⟨x,hx⟩:=r.lt hd;obtain⟨l,xs,rfl,e,q,_⟩:=r.sl i _ _ hx hd;exact⟨_,hx,k _ hw _ H r (Kp.refl r) (.inr ⟨l,xs,d,rfl,rfl,r.own_pot hd hx,e,q⟩)⟩
 ·rename_i d hd
  obtain⟨x,hx⟩:=r.lt hd;obtain⟨l,xs,rfl,e,q,ys,f,f2⟩:=r.sl i _ _ hx hd;refine⟨_,hx,k _ hw _ H r (Kp.refl r) (.inr ⟨l,xs,d,rfl,rfl,?_,e,q⟩)⟩;rintro⟨j,j1,j2⟩;obtain⟨p,m,e1,_,w⟩:=r.sl j _ _ j1 j2;cases e1;rcases w with w | w
  ·exact f2 w
  ·rw[w] at f;cases f
 ·exact hw.elim
theorem QwD{e:Q3}{v:V}{d:Qb}(h:PE X e (tC v))(q:∀(A:Addr->Prop)(H:Hp),DA A H v d):PE X e (tX .D X.K E (dC d)):=PE.imp h λσ H Q ⟨F,δ,R,EX,r,hw,k,o⟩=>k d hw v H r (Kp.refl r) (q _ _)
theorem QwA{i:Int}{j pos}:PE X (.Constant (.int i) j pos) (tX .D X.K E (dC (.int i))):=QwD Yl λ_ _=>.int i
theorem Qzr{b:Bool}{j pos}:PE X (.Constant (.bool b) j pos) (tX .D X.K E (dC (.bool b))):=QwD Qtc λ_ _=>.bl b
theorem Qwx{j pos}:PE X (.Constant .none j pos) (tX .D X.K E (dC .none)):=QwD Qwm λ_ _=>.non
theorem Qwu{x:Str}{j pos}(h:Qav (.str x)=true:=by decide +kernel):PE X (.Constant (.str x) j pos) (tX .D X.K E (dC (.str x))):=QwD Qjm λ_ _=>.str x h
def OpD(r:R2)(rD:Qb->Qb->(Qb->Prop)->Prop):Prop:=∀(A P:Addr->Prop)(H:Hp)(x y:V)(d1 d2:Qb)(R:Qb->Prop)(Q:VK),Qc5 H->(∀a,A a->∃xs,H a=some (.lst xs))->DP A P H x d1->DP A P H y d2->rD d1 d2 R ->
 (∀d,R d->∀v H',Same H H'->DA A H' v d->FrV H H' v->Q v H')->r x y H Q
def QuP(r:R2)(rD:Qb->Qb->(Qb->Prop)->Prop):Prop:=∀(A P:Addr->Prop)(H:Hp)(x y:V)(d1 d2:Qb)(R:Qb->Prop)(Q:VK),Qc5 H->(∀a,A a->∃xs,H a=some (.lst xs))->DP A P H x d1->DP A P H y d2->rD d1 d2 R ->
 (∀d,R d->∀v H',Same H H'->DA A H' v d->Q v H')->r x y H Q
def dOp(rD:Qb->Qb->(Qb->Prop)->Prop)(wa wb:DE):DE:=λδ Q EX=>wa δ (λd1=>wb δ (λd2=>rD d1 d2 Q) EX) EX
theorem Qiz{K:PySem.W.Frag}{r:R2}{rD:Qb->Qb->(Qb->Prop)->Prop}{wa wb:DE}(hd:OpD r rD)(σ:L2.St)(H:Hp)(Q:VK)(h:tX .F K E (dOp rD wa wb) σ H Q) :
  tOp (λx y H Q=>Qc5 H->r x y H Q) (tX .P K E wa) (tX .P K E wb) σ H Q:=by
 obtain⟨F,δ,R,EX,rel,hw,k,o⟩:=h;refine⟨F,δ,_,EX,rel,hw,λd1 h1 x H1 rel1 kp1 x1=>⟨F,δ,_,EX,rel1,h1,λd2 h2 y H2 rel2 kp2 y2=>λln=>?_,o⟩,o⟩;refine hd (Av F σ δ) (Yj σ δ) H2 x y d1 d2 R Q ln (λa ha=>rel2.isl ha) (kp2.dp x1) y2 h2 λd hR v H' s q f=>?_
 refine k d hR v H' (rel2.same s) ((kp1.trans kp2).trans (Kp.same rel2 s)) ⟨q,λl e1 e2=>?_⟩;have f2:=f l e1 e2;cases e:H l with
 |none=>rfl
 |some ob=>
  by_cases z:Yj σ δ l
  ·obtain⟨n,en⟩:=kp2.2 l z;rw[en] at f2;cases f2
  ·rw[(kp1.trans kp2).1 _ _ z e] at f2;cases f2
theorem Qo9{K:PySem.W.Frag}{r:R2}{rD:Qb->Qb->(Qb->Prop)->Prop}{wa wb:DE}(hd:QuP r rD)(σ:L2.St)(H:Hp)(Q:VK)(h:tX .D K E (dOp rD wa wb) σ H Q) :
  tOp (λx y H Q=>Qc5 H->r x y H Q) (tX .P K E wa) (tX .P K E wb) σ H Q:=by
 obtain⟨F,δ,R,EX,rel,hw,k,o⟩:=h;refine⟨F,δ,_,EX,rel,hw,λd1 h1 x H1 rel1 kp1 x1=>⟨F,δ,_,EX,rel1,h1,λd2 h2 y H2 rel2 kp2 y2=>λln=>?_,o⟩,o⟩;refine hd (Av F σ δ) (Yj σ δ) H2 x y d1 d2 R Q ln (λa ha=>rel2.isl ha) (kp2.dp x1) y2 h2 λd hR v H' s q=>?_
 exact k d hR v H' (rel2.same s) ((kp1.trans kp2).trans (Kp.same rel2 s)) q
variable{a b:Q3}{wa wb:DE}{pos:Pos}{r:R2}{rD:Qb->Qb->(Qb->Prop)->Prop}
theorem QwE{op:Qed}(ho:OpR X (binaryOp op) r)(hd:OpD r rD)(ha:PE X a (tX .P X.K E wa))(hb:PE X b (tX .P X.K E wb)):PE X (.BinOp a op b pos) (tX .F X.K E (dOp rD wa wb)):=PE.imp (Qay (OpR.len ho) ha hb) (Qiz hd)
theorem QwC{op:QfK}(ho:OpR X (compareOp op) r)(hd:OpD r rD)(ha:PE X a (tX .P X.K E wa))(hb:PE X b (tX .P X.K E wb))(hm:behindInMarks op b=false):PE X (.Compare a [op] [b] pos) (tX .F X.K E (dOp rD wa wb)):=PE.imp (Qtb (OpR.len ho) ha hb hm) (Qiz hd)
theorem Qzp{r:R2}{rD:Qb->Qb->(Qb->Prop)->Prop}(ho:IxR X r)(hd:QuP r rD)(ha:PE X a (tX .P X.K E wa))(hb:PE X b (tX .P X.K E wb))(hs:QgC b):PE X (.Subscript a b pos) (tX .D X.K E (dOp rD wa wb)):=PE.imp (Qiu (IxR.len ho) ha hb hs) (Qo9 hd)
def dTst(w:DE):DT:=λδ Q EX=>w δ (λd=>match d with
 |.bool k=>Q k
 |_=>False) EX
theorem Qtg{op:QfK}(ho:OpR X (compareOp op) r)(hd:OpD r rD)(ha:PE X a (tX .P X.K E wa))(hb:PE X b (tX .P X.K E wb))(hm:behindInMarks op b=false):PT X (.Compare a [op] [b] pos) (tT X.K E (dTst (dOp rD wa wb))):=by
 refine PT.imp (QeD (OpR.len ho) ha hb hm) λσ H Q ⟨F,δ,R,EX,rel,hw,k,o⟩=>?_
 refine Qiz hd σ H (λx H'=>∃k,x=.bl k/\Q k H') ⟨F,δ,_,EX,rel,hw,λd hd2 v H' rel' kp vk=>?_,o⟩;split at hd2
 ·rename_i b
  have:v=.bl b:=by cases vk.1;rfl
  exact⟨b,this,k b hd2 H' rel' kp⟩
 ·exact hd2.elim
theorem Qte{e:Q3}{w:DE}(h:PE X e (tX .P X.K E w))(he:∀whole,isTrue e X.env whole=(do let v <- whole;standAt e.pos;holding [v] (truthy v)):=by intro _;rfl):PT X e (tT X.K E (dTst w)):=by
 refine PT.imp (QlU h he) λσ H Q ⟨F,δ,R,EX,rel,hw,k,o⟩=>?_
 refine⟨F,δ,_,EX,rel,hw,λd hd v H' rel' kp vk=>?_,o⟩;split at hd
 ·exact⟨_,DP.bool vk,k _ hd H' rel' kp⟩
 ·exact hd.elim
def dOr(wa wb:DT):DT:=λδ Q EX=>wa δ (λc=>if c=true then Q true else wb δ Q EX) EX
def QAw(wa:DT):DT:=λδ Q EX=>wa δ (λc=>Q (!c)) EX
theorem QcZ{c:Prop}[Decidable c]{p q p' q':Prop}(h:if c then p else q)(h1:p->p')(h2:q->q'):if c then p' else q':=by
 split at h
 ·rw[if_pos (by assumption)];exact h1 h
 ·rw[if_neg (by assumption)];exact h2 h
variable{rest:List Q3}{ta tb:DT}
theorem Qtd(ha:PT X a (tT X.K E ta)):PW X (.BoolOp .Or [a] pos) (tT X.K E ta):=Qru ha
theorem Qwp(ha:PT X a (tT X.K E ta))(hb:PW X (.BoolOp .Or (b::rest) pos) (tT X.K E tb)):PW X (.BoolOp .Or (a::b::rest) pos) (tT X.K E (dOr ta tb)):=by
 refine PW.imp (Qwa ha hb) λσ H Q ⟨F,δ,R,EX,rel,hw,k,o⟩=>?_
 refine⟨F,δ,_,EX,rel,hw,λc hc H' rel' kp=>?_,o⟩;exact QcZ hc (λz=>k _ z H' rel' kp) (λz=>⟨F,δ,R,EX,rel',z,λc hc H2 rel2 kp2=>k c hc H2 rel2 (kp.trans kp2),o⟩)
theorem Qtf(ha:PT X a (tT X.K E ta)):PT X (.UnaryOp .Not a pos) (tT X.K E (QAw ta)):=by
 refine PT.imp (Qrv ha) λσ H Q ⟨F,δ,R,EX,rel,hw,k,o⟩=>?_
 exact⟨F,δ,_,EX,rel,hw,λc hc H' rel' kp=>k _ hc H' rel' kp,o⟩
def QxI(wa wb:DE):DE:=λδ Q EX=>wa δ (λd=>match d with
 |.bool c=>if c=true then wb δ Q EX else Q (.bool false)
 |_=>False) EX
def QAv(wa wb:DE):DE:=λδ Q EX=>wa δ (λd=>match d with
 |.bool c=>if c=true then Q (.bool true) else wb δ Q EX
 |_=>False) EX
def QxF(wa:DE):DE:=λδ Q EX=>wa δ (λd=>match d with
 |.bool c=>Q (.bool (!c))
 |_=>False) EX
theorem Qwv{op}{w:DE}(h:PE X a (tX .D X.K E w)):PE X (.BoolOp op [a] pos) (tX .D X.K E w):=Qwk h
theorem QwF(ha:PE X a (tX .P X.K E wa))(hb:PE X (.BoolOp .And (b::rest) pos) (tX .D X.K E wb)):PE X (.BoolOp .And (a::b::rest) pos) (tX .D X.K E (QxI wa wb)):=by
 refine PE.imp (Qwo ha hb) λσ H Q ⟨F,δ,R,EX,rel,hw,k,o⟩=>?_
 refine⟨F,δ,_,EX,rel,hw,λd hd v H' rel' kp vk=>?_,o⟩;split at hd
 ·exact⟨_,DP.bool vk,QcZ hd (λz=>⟨F,δ,R,EX,rel',z,λd hd v H2 rel2 kp2=>k d hd v H2 rel2 (kp.trans kp2),o⟩) λz=>k _ z _ H' rel' kp (.bl _)⟩
 ·exact hd.elim
theorem Qzo(ha:PE X a (tX .P X.K E wa))(hb:PE X (.BoolOp .Or (b::rest) pos) (tX .D X.K E wb)):PE X (.BoolOp .Or (a::b::rest) pos) (tX .D X.K E (QAv wa wb)):=by
 refine PE.imp (Qzl ha hb) λσ H Q ⟨F,δ,R,EX,rel,hw,k,o⟩=>?_
 refine⟨F,δ,_,EX,rel,hw,λd hd v H' rel' kp vk=>?_,o⟩;split at hd
 ·exact⟨_,DP.bool vk,QcZ hd (λz=>k _ z _ H' rel' kp (.bl _)) (λz=>⟨F,δ,R,EX,rel',z,λd hd v H2 rel2 kp2=>k d hd v H2 rel2 (kp.trans kp2),o⟩)⟩
 ·exact hd.elim
theorem Qww(ha:PE X a (tX .P X.K E wa)):PE X (.UnaryOp .Not a pos) (tX .D X.K E (QxF wa)):=by
 refine PE.imp (Qwl ha) λσ H Q ⟨F,δ,R,EX,rel,hw,k,o⟩=>?_
 refine⟨F,δ,_,EX,rel,hw,λd hd v H' rel' kp vk=>?_,o⟩;split at hd
 ·exact⟨_,DP.bool vk,k _ hd _ H' rel' kp (.bl _)⟩
 ·exact hd.elim
end
theorem QdV{A:Addr->Prop}{H H':Hp}{l:Addr}{xs:List V}{ds:List Qb}(dm:∀a,A a->∃xs,H a=some (.lst xs))(s:Same H H')(n:H l=none)(e:H' l=some (.lst xs))(q:DAs A H xs ds):DA A H' (.ref l) (.list ds):=
 .lst (λz=>by obtain⟨ys,e'⟩:=dm l z;rw[n] at e';cases e') e (q.same s)
theorem Qfh{A:Addr->Prop}{H H':Hp}{l:Addr}{xs:List V}{ds:List Qb}(dm:∀a,A a->∃xs,H a=some (.lst xs))(s:Same H H')(e:H' l=some (.tup xs))(q:DAs A H xs ds):DA A H' (.ref l) (.tuple ds):=
 .tup (λz=>by obtain⟨ys,e'⟩:=dm l z;rw[s _ _ e'] at e;cases e) e (q.same s)
theorem QaQ{H H':Hp}{l:Addr}(n:H l=none):FrV H H' (.ref l):=λl' e _=>by cases e;exact n
theorem QeO{H H':Hp}{l:Addr}{xs:List V}(e:H' l=some (.tup xs)):FrV H H' (.ref l):=λl' e1 ⟨ys,e2⟩=>by cases e1;rw[e] at e2;cases e2
theorem Y1{H H':Hp}{i:Int}:FrV H H' (.int i):=λl' e _=>by cases e
theorem QaR{H H':Hp}{i:Bool}:FrV H H' (.bl i):=λl' e _=>by cases e
theorem Qul{H H':Hp}:FrV H H' .non:=λl' e _=>by cases e
theorem DAs.rep{A:Addr->Prop}{H:Hp}{xs:List V}{ds:List Qb}(q:DAs A H xs ds):∀k:Nat,DAs A H (Q1 k xs).flatten (Q1 k ds).flatten
 |0=>.nil
 |k+1=>by rw[ZT,ZT,YT,YT];exact q.app (DAs.rep q k)
def QBd:Qb->Qb->(Qb->Prop)->Prop
 |.int i,.int j,Q=>Q (.int (i+j))
 |.tuple a,.tuple b,Q=>a.length+b.length<=1000000/\Q (.tuple (a++b))
 |.list a,.list b,Q=>a.length+b.length<=1000000/\Q (.list (a++b))
 |_,_,_=>False
def iiD(C:Int->Int->Prop)(f:Int->Int->Qb):Qb->Qb->(Qb->Prop)->Prop
 |.int i,.int j,Q=>C i j/\Q (f i j)
 |_,_,_=>False
def ii0(f:Int->Int->Qb):Qb->Qb->(Qb->Prop)->Prop
 |.int i,.int j,Q=>Q (f i j)
 |_,_,_=>False
def QA4:Qb->Qb->(Qb->Prop)->Prop
 |.int i,.int j,Q=>(CMul i j∨CMulB i j)/\Q (.int (i*j))
 |.list a,.int k,Q=>(k<1000000 /\ -1000000<k/\a.length*k.toNat<=1000000)/\Q (.list (Q1 k.toNat a).flatten)
 |_,_,_=>False
theorem Qmy:1000000<=sizeLine:=by show 1000000<=2^24;decide
section
variable{X:Cx}{E:XK}
theorem Qks{C:Int->Int->Prop}{g:Int->Int->Int}:OpD (rI C λi j=>.int (g i j)) (iiD C λi j=>.int (g i j)):=λA P H x y d1 d2 R Q ln dm hx hy h k=>by
 cases d1<;>cases d2<;>first | exact h.elim | skip
 rw[hx.int,hy.int];exact⟨_,_,rfl,rfl,h.1,k _ h.2 _ H (Same.refl H) (.int _) Y1⟩
theorem Qmm{g:Int->Int->Int}:OpD (rI0 λi j=>.int (g i j)) (ii0 λi j=>.int (g i j)):=λA P H x y d1 d2 R Q ln dm hx hy h k=>by
 cases d1<;>cases d2<;>first | exact h.elim | skip
 rw[hx.int,hy.int];exact⟨_,_,rfl,rfl,k _ h _ H (Same.refl H) (.int _) Y1⟩
theorem Qhj{g:Int->Int->Bool}:OpD (rI0 λi j=>.bl (g i j)) (ii0 λi j=>.bool (g i j)):=λA P H x y d1 d2 R Q ln dm hx hy h k=>by
 cases d1<;>cases d2<;>first | exact h.elim | skip
 rw[hx.int,hy.int];exact⟨_,_,rfl,rfl,k _ h _ H (Same.refl H) (.bl _) QaR⟩
def rAdd:R2:=λx y H Q=>(rI0 (λi j=>.int (i+j)) x y H Q∨Qv4 x y H Q)∨QAe x y H Q
theorem YH:OpR X (binaryOp .Add) rAdd:=OpR.or2 (OpR.or2 Qfv QtB) QrA
theorem QaC:OpD rAdd QBd:=λA P H x y d1 d2 R Q ln dm hx hy h k=>by
 cases d1<;>cases d2<;>first | exact h.elim | skip
 ·rw[hx.int,hy.int];exact .inl (.inl ⟨_,_,rfl,rfl,k _ h _ H (Same.refl H) (.int _) Y1⟩)
 ·obtain⟨l1,xs,rfl,e1,q1⟩:=hx.list;obtain⟨l2,ys,rfl,e2,q2⟩:=hy.list;refine .inr ⟨l1,l2,xs,ys,rfl,rfl,e1,e2,Jb (by rw[q1.length,q2.length];exact h.1) Qmy,λp hp=>?_⟩;exact k _ h.2 _ _ (JC hp) (QdV dm (JC hp) hp JB (q1.app q2)) (QaQ hp)
 ·obtain⟨l1,xs,rfl,e1,q1⟩:=hx.tuple;obtain⟨l2,ys,rfl,e2,q2⟩:=hy.tuple;refine .inl (.inr ⟨l1,l2,xs,ys,rfl,rfl,e1,e2,Jb (by rw[q1.length,q2.length];exact h.1) Qmy,λp H' s e=>?_⟩);exact k _ h.2 _ _ s (Qfh dm s e (q1.app q2)) (QeO e)
def Qv1:R2:=λx y H Q=>(rI CMul (λi j=>.int (i*j)) x y H Q∨rI CMulB (λi j=>.int (i*j)) x y H Q)∨Qz5 x y H Q
theorem Qgd:OpR X (binaryOp .Mult) Qv1:=OpR.or2 (OpR.or2 Qft Qtz) Qrz
theorem Qjt:OpD Qv1 QA4:=λA P H x y d1 d2 R Q ln dm hx hy h k=>by
 cases d1<;>cases d2<;>first | exact h.elim | skip
 ·rw[hx.int,hy.int];rcases h.1 with c | c
  ·exact .inl (.inl ⟨_,_,rfl,rfl,c,k _ h.2 _ H (Same.refl H) (.int _) Y1⟩)
  ·exact .inl (.inr ⟨_,_,rfl,rfl,c,k _ h.2 _ H (Same.refl H) (.int _) Y1⟩)
 ·obtain⟨l1,xs,rfl,e1,q1⟩:=hx.list;rw[hy.int];obtain⟨⟨h1,h2,h3⟩,h4⟩:=h;refine .inr ⟨l1,_,xs,rfl,rfl,e1,by omega,by omega,Jb (by rw[q1.length];exact h3) Qmy,λp hp=>?_⟩;exact k _ h4 _ _ (JC hp) (QdV dm (JC hp) hp JB (q1.rep _)) (QaQ hp)
def eqD:Qb->Qb->(Qb->Prop)->Prop
 |.int i,.int j,Q=>Q (.bool (decide (i=j)))
 |.bool i,.bool j,Q=>Q (.bool (decide (i=j)))
 |.str i,.str j,Q=>Q (.bool (decide (i=j)))
 |a,b,Q=>(nd a=true/\nd b=true/\(a.depth<=50∨b.depth<=50))/\Q (.bool (JD a b))
def neD:Qb->Qb->(Qb->Prop)->Prop
 |.int i,.int j,Q=>Q (.bool (!decide (i=j)))
 |.bool i,.bool j,Q=>Q (.bool (!decide (i=j)))
 |.str i,.str j,Q=>Q (.bool (!decide (i=j)))
 |a,b,Q=>(nd a=true/\nd b=true/\(a.depth<=50∨b.depth<=50))/\Q (.bool (!JD a b))
theorem Qw5{a b:Qb}(h:a.depth<=50∨b.depth<=50):min a.depth b.depth<=50:=by rcases h with h | h<;>omega
def QAd(u:Nat):R2:=λx y H Q=>rEq x y H Q∨QAc u x y H Q
def Qz7(u:Nat):R2:=λx y H Q=>rNe x y H Q∨Qz6 u x y H Q
theorem Qjr:OpR X (compareOp .Eq) (QAd X.A.units):=OpR.or2 Qzv QwL
theorem Qfs:OpR X (compareOp .NotEq) (Qz7 X.A.units):=OpR.or2 QwJ QwH
theorem Qxw{i j:Int}:decide (V.int i=V.int j)=decide (i=j):=by
 by_cases h:i=j
 ·subst h;simp
 ·rw[decide_eq_false h,decide_eq_false (λz=>h (V.int.inj z))]
theorem Qxx{i j:Bool}:decide (V.bl i=V.bl j)=decide (i=j):=by
 by_cases h:i=j
 ·subst h;simp
 ·rw[decide_eq_false h,decide_eq_false (λz=>h (V.bl.inj z))]
theorem Qxv{i j:Str}:decide (V.str i=V.str j)=decide (i=j):=by
 by_cases h:i=j
 ·subst h;simp
 ·rw[decide_eq_false h,decide_eq_false (λz=>h (V.str.inj z))]
theorem Qph{u:Nat}(hu:u+60<cLine):OpD (QAd u) eqD:=λA P H x y d1 d2 R Q ln dm hx hy h k=>by
 unfold eqD at h;split at h
 ·rw[hx.int,hy.int];exact .inl ⟨rfl,k (.bool (decide (V.int _=V.int _))) (by rw[Qxw];exact h) _ H (Same.refl H) (.bl _) QaR⟩
 ·rw[hx.bool,hy.bool];exact .inl ⟨rfl,k (.bool (decide (V.bl _=V.bl _))) (by rw[Qxx];exact h) _ H (Same.refl H) (.bl _) QaR⟩
 ·rw[hx.str.1,hy.str.1];exact .inl ⟨rfl,k (.bool (decide (V.str _=V.str _))) (by rw[Qxv];exact h) _ H (Same.refl H) (.bl _) QaR⟩
 ·obtain⟨⟨n1,n2,dp⟩,hR⟩:=h;have:=Qw5 dp;exact .inr ⟨_,_,hx.dat n1,hy.dat n2,by omega,k _ hR _ H (Same.refl H) (.bl _) QaR⟩
theorem Qkr{u:Nat}(hu:u+60<cLine):OpD (Qz7 u) neD:=λA P H x y d1 d2 R Q ln dm hx hy h k=>by
 unfold neD at h;split at h
 ·rw[hx.int,hy.int];exact .inl ⟨rfl,k (.bool (!decide (V.int _=V.int _))) (by rw[Qxw];exact h) _ H (Same.refl H) (.bl _) QaR⟩
 ·rw[hx.bool,hy.bool];exact .inl ⟨rfl,k (.bool (!decide (V.bl _=V.bl _))) (by rw[Qxx];exact h) _ H (Same.refl H) (.bl _) QaR⟩
 ·rw[hx.str.1,hy.str.1];exact .inl ⟨rfl,k (.bool (!decide (V.str _=V.str _))) (by rw[Qxv];exact h) _ H (Same.refl H) (.bl _) QaR⟩
 ·obtain⟨⟨n1,n2,dp⟩,hR⟩:=h;have:=Qw5 dp;exact .inr ⟨_,_,hx.dat n1,hy.dat n2,by omega,k _ hR _ H (Same.refl H) (.bl _) QaR⟩
def Qv3(u:Nat)(neg:Bool):R2:=λx y H Q=>∃c ps ds d,y=.ref c/\H c=some (.lst ps)/\Dats H ps ds/\Dat H x d/\u+d.depth<cLine/\Q (.bl (if neg then !(ds.any λe=>JD e d) else ds.any λe=>JD e d)) H
theorem Qko:OpR X (compareOp .NotIn) (Qv3 X.A.in1.units true):=by
 intro pins s σ H x y v u Q I rx ry h;obtain⟨c,ps,ds,d,rfl,hc,qs,qx,hu,q⟩:=h;cases ry;obtain⟨⟨as,ra⟩,ca⟩:=Qar I.hok d x v qx rx;obtain⟨its,rv,pl,hz⟩:=I.list (SqL.of hc);obtain⟨⟨bs,rb⟩,cb⟩:=QaI I.hok ds ps its qs rv;refine SeqAt.notIn_listAt (eqH s.heap d) pl.isList (λw hw=>QiH ra ca rb cb hu w (Qcm.mp hw)) ⟨.bl _,H,I,rfl,?_⟩;rw[show its.toArray.any (eqH s.heap d)=its.any (eqH s.heap d) by simp,QiW rb cb];exact q
def inD(neg:Bool)(d:Qb):Qb->(Qb->Prop)->Prop
 |.list ds,Q=>(nds ds=true/\nd d=true/\d.depth<=50)/\Q (.bool (if neg then !(ds.any λe=>JD e d) else ds.any λe=>JD e d))
 |.tuple ds,Q=>(nds ds=true/\nd d=true/\d.depth<=50)/\Q (.bool (if neg then !(ds.any λe=>JD e d) else ds.any λe=>JD e d))
 |_,_=>False
def QAb(u:Nat)(neg:Bool):R2:=λx y H Q=>QAa u neg x y H Q∨Qv3 u neg x y H Q
theorem Qme:OpR X (compareOp .NotIn) (QAb X.A.in1.units true):=OpR.or2 Qmc Qko
theorem Qzx{u:Nat}{neg:Bool}(hu:u+60<cLine):OpD (QAb u neg) (inD neg):=λA P H x y d1 d2 R Q ln dm hx hy h k=>by
 cases d2<;>first | exact h.elim | skip
 ·obtain⟨l,xs,rfl,e,q⟩:=hy.list;obtain⟨⟨n1,n2,n3⟩,hR⟩:=h;exact .inr ⟨l,xs,_,d1,rfl,e,Qcg _ _ n1 q,hx.dat n2,by omega,k _ hR _ H (Same.refl H) (.bl _) QaR⟩
 ·obtain⟨l,xs,rfl,e,q⟩:=hy.tuple;obtain⟨⟨n1,n2,n3⟩,hR⟩:=h;exact .inl ⟨l,xs,_,d1,rfl,e,Qcg _ _ n1 q,hx.dat n2,by omega,k _ hR _ H (Same.refl H) (.bl _) QaR⟩
def ixD:Qb->Qb->(Qb->Prop)->Prop
 |.list ds,.int i,Q=>∃d,atI ds i=some d/\Q d
 |.tuple ds,.int i,Q=>∃d,atI ds i=some d/\Q d
 |_,_,_=>False
theorem Qr3{A:Addr->Prop}{H:Hp}{xs:List V}{ds:List Qb}{i:Int}{d:Qb}(q:DAs A H xs ds)(h:atI ds i=some d):∃v,atI xs i=some v/\DA A H v d:=by
 unfold atI at h ⊢;rw[q.length];cases e:ixN ds.length i with
 |none=>rw[e] at h;cases h
 |some j=>
  rw[e] at h;exact q.get j d h
def Qz9(K:PySem.W.Frag):R2:=λx y H Q=>Qz8 K x y H Q∨Qza K x y H Q
theorem QcY:IxR X (Qz9 X.K):=IxR.or2 QdB QrG
theorem Qge{K:PySem.W.Frag}:QuP (Qz9 K) ixD:=λA P H x y d1 d2 R Q ln dm hx hy h k=>by
 cases d1<;>cases d2<;>first | exact h.elim | skip
 ·obtain⟨l,xs,rfl,e,q⟩:=hx.list;obtain⟨d,hd,hR⟩:=h;obtain⟨v,hv,dv⟩:=Qr3 q hd;rw[hy.int];exact .inl ⟨l,xs,_,v,rfl,rfl,SqL.of e,hv,k d hR v H (Same.refl H) dv⟩
 ·obtain⟨l,xs,rfl,e,q⟩:=hx.tuple;obtain⟨d,hd,hR⟩:=h;obtain⟨v,hv,dv⟩:=Qr3 q hd;rw[hy.int];exact .inr ⟨l,xs,_,v,rfl,rfl,SqT.of e,hv,k d hR v H (Same.refl H) dv⟩
def dUn(rD:Qb->(Qb->Prop)->Prop)(wa:DE):DE:=λδ Q EX=>wa δ (λd=>rD d Q) EX
def QAi:Qb->(Qb->Prop)->Prop
 |.int i,Q=>Q (.int (-i))
 |_,_=>False
variable{a b c:Q3}{wa wb wc:DE}{pos:Pos}
theorem Qwy(ha:PE X a (tX .P X.K E wa)):PE X (.UnaryOp .USub a pos) (tX .F X.K E (dUn QAi wa)):=by
 refine PE.imp (Qzk Qvs ha) λσ H Q ⟨F,δ,R,EX,rel,hw,k,o⟩=>?_
 refine⟨F,δ,_,EX,rel,hw,λd hd v H' rel' kp vk=>?_,o⟩;cases d<;>first | exact(show False from hd).elim | skip
 exact⟨_,DP.int vk,k _ hd _ H' rel' kp ⟨.int _,Y1⟩⟩
def dCh(p q:Int->Int->Bool)(wa wb wc:DE):DE:=λδ Q EX=>wa δ (λx=>wb δ (λy=>match x,y with
 |.int i,.int j=>if p i j=true then wc δ (λz=>match z with
  |.int k=>Q (.bool (q j k))
  |_=>False) EX else Q (.bool false)
 |_,_=>False) EX) EX
theorem Qnk{K:PySem.W.Frag}{p q:Int->Int->Bool}(σ:L2.St)(H:Hp)(Q:VK)(h:tX .F K E (dCh p q wa wb wc) σ H Q) :
  Qlp (rI0 λi j=>.bl (p i j)) (rI0 λi j=>.bl (q i j)) (tX .P K E wa) (tX .P K E wb) (tX .P K E wc) σ H Q:=by
 obtain⟨F,δ,R,EX,rel,hw,k,o⟩:=h;refine⟨F,δ,_,EX,rel,hw,λd1 h1 x H1 rel1 kp1 x1=>⟨F,δ,_,EX,rel1,h1,λd2 h2 y H2 rel2 kp2 y2=>?_,o⟩,o⟩;cases d1<;>cases d2<;>first | exact(show False from h2).elim | skip
 rw[DP.int x1,DP.int y2];refine⟨_,_,rfl,rfl,_,rfl,QcZ h2 (λz=>⟨F,δ,_,EX,rel2,z,λd3 h3 v H3 rel3 kp3 v3=>?_,o⟩) λz=>k _ z _ H2 rel2 (kp1.trans kp2) ⟨.bl _,QaR⟩⟩;cases d3<;>first | exact(show False from h3).elim | skip
 rw[DP.int v3];exact⟨_,_,rfl,rfl,k _ h3 _ H3 rel3 ((kp1.trans kp2).trans kp3) ⟨.bl _,QaR⟩⟩
theorem Qzq{op op':QfK}{p q:Int->Int->Bool}(ho:OpR X (compareOp op) (rI0 λi j=>.bl (p i j)))(ho':OpR X (compareOp op') (rI0 λi j=>.bl (q i j)))(ha:PE X a (tX .P X.K E wa))(hb:PE X b (tX .P X.K E wb))(hc:PE X c (tX .P X.K E wc))(hm:lastMarks [op,op'] [b,c]=false:=by with_unfolding_all rfl) :
  PE X (.Compare a [op,op'] [b,c] pos) (tX .F X.K E (dCh p q wa wb wc)):=PE.imp (QoK ho ho' ha hb hc (hm:=hm)) Qnk
theorem Qwq{op op':QfK}{p q:Int->Int->Bool}(ho:OpR X (compareOp op) (rI0 λi j=>.bl (p i j)))(ho':OpR X (compareOp op') (rI0 λi j=>.bl (q i j)))(ha:PE X a (tX .P X.K E wa))(hb:PE X b (tX .P X.K E wb))(hc:PE X c (tX .P X.K E wc))(hm:lastMarks [op,op'] [b,c]=false:=by with_unfolding_all rfl) :
  PT X (.Compare a [op,op'] [b,c] pos) (tT X.K E (dTst (dCh p q wa wb wc))):=by
 refine PT.imp (Qow ho ho' ha hb hc (hm:=hm)) λσ H Q ⟨F,δ,R,EX,rel,hw,k,o⟩=>?_
 refine Qnk σ H (λx H'=>∃k,x=.bl k/\Q k H') ⟨F,δ,_,EX,rel,hw,λd hd2 v H' rel' kp vk=>?_,o⟩;split at hd2
 ·rename_i b
  have:v=.bl b:=by cases vk.1;rfl
  exact⟨b,this,k b hd2 H' rel' kp⟩
 ·exact hd2.elim
def QAx:DAr:=λ_ Q _=>Q []
def Qnb(we:DE)(wr:DAr):DAr:=λδ Q EX=>we δ (λd=>wr δ (λds=>Q (d::ds)) EX) EX
theorem Qtp{m:Md}:PA X [] (tAr 0 m X.K E QAx):=PA.imp ZP λσ H Q ⟨F,δ,R,EX,rel,hw,k,o⟩=>k [] hw rfl [] H rel (Kp.refl rel) .nil
theorem QnC{n:Nat}{m:Md}{K:PySem.W.Frag}{we:DE}{wr:DAr}(hm:∀{F:Fm}{σ:L2.St}{δ:Sts}{H H':Hp}{v:V}{d:Qb},Vok m F σ δ H H' v d->VD m (Av F σ δ) (Yj σ δ) H' v d)(σ:L2.St)(H:Hp)(Q:List V->Hp->Prop)(h:tAr (n+1) m K E (Qnb we wr) σ H Q):Qe8 (tX m K E we) (tAr n m K E wr) σ H Q:=by
 obtain⟨F,δ,R,EX,rel,hw,k,o⟩:=h;refine⟨F,δ,_,EX,rel,hw,λd hd v H' rel' kp vk=>⟨F,δ,_,EX,rel',hd,λds hds hl vs H2 rel2 kp2 vks=>?_,o⟩,o⟩;exact k _ hds (by rw[Qy,hl]) (v::vs) H2 rel2 (kp.trans kp2) (.cons (kp2.vd (hm vk)) vks)
theorem Ql6{n:Nat}{e:Q3}{es:List Q3}{we:DE}{wr:DAr}(he:PE X e (tX .D X.K E we))(hr:PA X es (tAr n .D X.K E wr))(hs:Zh e=true:=by rfl):PA X (e::es) (tAr (n+1) .D X.K E (Qnb we wr)):=PA.imp (Qel he hr hs) (QnC λh=>h)
theorem Ql5{n:Nat}{e:Q3}{es:List Q3}{we:DE}{wr:DAr}(he:PE X e (tX .P X.K E we))(hr:PA X es (tAr n .P X.K E wr))(hs:Zh e=true:=by rfl):PA X (e::es) (tAr (n+1) .P X.K E (Qnb we wr)):=PA.imp (Qel he hr hs) (QnC λh=>h)
theorem Qdv{A P:Addr->Prop}{H:Hp}:∀{vs:List V}{ds:List Qb},Yu (VD .D A P H) vs ds->DAs A H vs ds
 |_,_,.nil=>.nil
 |_,_,.cons a b=>.cons a (Qdv b)
def QAr(w:DAr):DE:=λδ Q EX=>w δ (λds=>Q (.tuple ds)) EX
def QAy(w:DAr):DE:=λδ Q EX=>w δ (λds=>Q (.list ds)) EX
theorem Qwt{n:Nat}{es:List Q3}{w:DAr}{x1}(h:PA X es (tAr n .D X.K E w))(hn:n<=1000:=by decide):PE X (.Tuple es x1 pos) (tX .F X.K E (QAr w)):=by
 refine PE.imp (Qs9 h) λσ H Q ⟨F,δ,R,EX,rel,hw,k,o⟩=>?_
 refine⟨F,δ,_,EX,rel,hw,λds hds hl vs H' rel' kp q=>?_,o⟩;have q':=Qdv q;refine⟨by rw[q'.length,hl];exact hn,λa H2 s n e=>k _ hds _ H2 (rel'.same s) (kp.trans (Kp.same rel' s)) ⟨Qfh (λa ha=>rel'.isl ha) s e q',QeO e⟩⟩
theorem Qbv{σ:L2.St}{δ:Sts}{H H':Hp}{l:Addr}(k:Kp σ δ H H')(n:H' l=none):H l=none:=by
 cases e:H l with
 |none=>rfl
 |some ob=>
  by_cases z:Yj σ δ l
  ·obtain⟨m,em⟩:=k.2 l z;rw[em] at n;cases n
  ·rw[k.1 _ _ z e] at n;cases n
theorem Qwz{n:Nat}{es:List Q3}{w:DAr}(h:PA X es (tAr n .D X.K E w))(hn:n<=1000:=by decide):PE X (.List es pos) (tX .F X.K E (QAy w)):=by
 refine PE.imp (Qbt h) λσ H Q ⟨F,δ,R,EX,rel,hw,k,o⟩=>?_
 refine⟨F,δ,_,EX,rel,hw,λds hds hl vs H' rel' kp q=>?_,o⟩;have q':=Qdv q;refine⟨by rw[q'.length,hl];exact hn,λa H2 s n e=>k _ hds _ H2 (rel'.same s) (kp.trans (Kp.same rel' s)) ⟨QdV (λa ha=>rel'.isl ha) s n e q',QaQ (Qbv kp n)⟩⟩
theorem QwB{pos:Pos}:PE X (.Dict [] [] pos) (tX .D X.K E (dC (.dict []))):=by
 refine PE.imp Qta λσ H Q ⟨F,δ,R,EX,rel,hw,k,o⟩=>λp hp=>?_
 refine k _ hw _ _ (rel.same (JC hp)) (Kp.same rel (JC hp)) (.dct (λz=>?_) JB);obtain⟨xs,e⟩:=rel.isl z;rw[hp] at e;cases e
def QcG(r:List V->Hp->VK->Prop)(rD:List Qb->(Qb->Prop)->Prop):Prop:=∀(A P:Addr->Prop)(H:Hp)(vs:List V)(ds:List Qb)(R:Qb->Prop)(Q:VK),Qc5 H->(∀a,A a->∃xs,H a=some (.lst xs))->Yu (DP A P H) vs ds->rD ds R ->
 (∀d,R d->∀v H',Same H H'->DA A H' v d->FrV H H' v->Q v H')->r vs H Q
def dCB(rD:List Qb->(Qb->Prop)->Prop)(wa:DAr):DE:=λδ Q EX=>wa δ (λds=>rD ds Q) EX
theorem Qno{n:Nat}{K:PySem.W.Frag}{r:List V->Hp->VK->Prop}{rD:List Qb->(Qb->Prop)->Prop}{wa:DAr}(hd:QcG r rD)(σ:L2.St)(H:Hp)(Q:VK)(h:tX .F K E (dCB rD wa) σ H Q) :
  tCB (λxs H Q=>Qc5 H->r xs H Q) (tAr n .P K E wa) σ H Q:=by
 obtain⟨F,δ,R,EX,rel,hw,k,o⟩:=h;refine⟨F,δ,_,EX,rel,hw,λds hds hl vs H' rel' kp q ln=>?_,o⟩;refine hd (Av F σ δ) (Yj σ δ) H' vs ds R Q ln (λa ha=>rel'.isl ha) q hds λd hR v H2 s dv fr=>?_
 exact k d hR v H2 (rel'.same s) (kp.trans (Kp.same rel' s)) ⟨dv,λl e1 e2=>Qbv kp (fr l e1 e2)⟩
variable{x:Str}{bid T:String}{p:Pos}{e:Q3}{es:List Q3}{n:Nat}{wr:DAr}{r:List V->Hp->VK->Prop}{rD:List Qb->(Qb->Prop)->Prop}
theorem Qo4(hc:CallR X (.builtin bid) r)(hd:QcG r rD)(hg:Gl X x)(hm:X.mg x=none)(hv:bootBuiltins x=some (.builtin bid))(ha:PA X (e::es) (tAr n .P X.K E wr))(hn:x ≠ "__name__" := by decide)(hdb:(x == ("__debug__" : Str))=false:=by decide)
  (he:starEach (e::es) X.env=(false,eval e X.env)::starEach es X.env:=by rfl)(hpl:(backTo pos (starEach es X.env)).any (·.1)=false:=by rfl):PE X (.Call (.Name x p) (e::es) [] pos) (tX .F X.K E (dCB rD wr)):=
 PE.imp (Qa2 (CallR.len hc) hg hm hv ha hn hdb he hpl) (Qno hd)
theorem Ql7(hc:CallR X (.type T) r)(hd:QcG r rD)(hg:Gl X x)(hm:X.mg x=none)(hv:bootBuiltins x=some (.type T))(ha:PA X (e::es) (tAr n .P X.K E wr))(hn:x ≠ "__name__" := by decide)(hdb:(x == ("__debug__" : Str))=false:=by decide)
  (he:starEach (e::es) X.env=(false,eval e X.env)::starEach es X.env:=by rfl)(hpl:(backTo pos (starEach es X.env)).any (·.1)=false:=by rfl):PE X (.Call (.Name x p) (e::es) [] pos) (tX .F X.K E (dCB rD wr)):=
 PE.imp (QlZ (CallR.len hc) hg hm hv ha hn hdb he hpl) (Qno hd)
theorem pd1{A P:Addr->Prop}{H:Hp}{vs:List V}{d:Qb}(q:Yu (DP A P H) vs [d]):∃v,vs=[v]/\DP A P H v d:=by
 cases q with
 |cons a b=>cases b;exact⟨_,rfl,a⟩
theorem pd2{A P:Addr->Prop}{H:Hp}{vs:List V}{d d':Qb}(q:Yu (DP A P H) vs [d,d']):∃v v',vs=[v,v']/\DP A P H v d/\DP A P H v' d':=by
 cases q with
 |cons a b=>cases b with | cons b c=>cases c;exact⟨_,_,rfl,a,b⟩
def QAj:List Qb->(Qb->Prop)->Prop
 |[.list ds],Q=>Q (.int ds.length)
 |[.tuple ds],Q=>Q (.int ds.length)
 |_,_=>False
theorem QdX{K:PySem.W.Frag}:QcG (Qv2 K) QAj:=λA P H vs ds R Q ln dm q h k=>by
 unfold QAj at h;split at h
 ·obtain⟨v,rfl,hv⟩:=pd1 q;obtain⟨l,xs,rfl,e,qq⟩:=hv.list;exact⟨l,xs,rfl,.inl (SqL.of e),by rw[qq.length];exact k _ h _ H (Same.refl H) (.int _) Y1⟩
 ·obtain⟨v,rfl,hv⟩:=pd1 q;obtain⟨l,xs,rfl,e,qq⟩:=hv.tuple;exact⟨l,xs,rfl,.inr (SqT.of e),by rw[qq.length];exact k _ h _ H (Same.refl H) (.int _) Y1⟩
 ·exact h.elim
theorem Qas:CallR X (.builtin "len") (Qv2 X.K):=Qa4
def QtY:List Qb->(Qb->Prop)->Prop
 |[.int i,.int j],Q=>Q (.int (if j<i then j else i))
 |_,_=>False
def Qt0:List Qb->(Qb->Prop)->Prop
 |[.int i,.int j],Q=>Q (.int (if j > i then j else i))
 |_,_=>False
theorem Qnl:QcG (λxs H Q=>∃i j,xs=[.int i,.int j]/\Q (.int (if j<i then j else i)) H) QtY:=λA P H vs ds R Q ln dm q h k=>by
 unfold QtY at h;split at h
 ·obtain⟨v,v',rfl,h1,h2⟩:=pd2 q;rw[h1.int,h2.int];exact⟨_,_,rfl,k _ h _ H (Same.refl H) (.int _) Y1⟩
 ·exact h.elim
theorem Qnm:QcG (λxs H Q=>∃i j,xs=[.int i,.int j]/\Q (.int (if j > i then j else i)) H) Qt0:=λA P H vs ds R Q ln dm q h k=>by
 unfold Qt0 at h;split at h
 ·obtain⟨v,v',rfl,h1,h2⟩:=pd2 q;rw[h1.int,h2.int];exact⟨_,_,rfl,k _ h _ H (Same.refl H) (.int _) Y1⟩
 ·exact h.elim
def QcF:List Qb->Option (List Bool)
 |[]=>some []
 |.bool b::ds=>(QcF ds).map (b::·)
 |_::_=>none
def Qcu:List Qb->Option (List Int)
 |[]=>some []
 |.int b::ds=>(Qcu ds).map (b::·)
 |_::_=>none
theorem Qnv(bs:List Bool):QcF (bs.map Qda)=some bs:=by
 induction bs with
 |nil=>rfl
 |cons b bs ih=>rw[Jd,QcF,ih];rfl
theorem ints_map(bs:List Int):Qcu (bs.map Qh)=some bs:=by
 induction bs with
 |nil=>rfl
 |cons b bs ih=>rw[Jd,Qcu,ih];rfl
theorem bools_eq:∀{ds:List Qb}{bs:List Bool},QcF ds=some bs->ds=bs.map Qda
 |[],bs,h=>by cases h;rfl
 |d::ds,bs,h=>by
  cases d<;>first | (unfold QcF at h;cases h;done) | skip
  rw[QcF] at h;obtain⟨cs,h1,rfl⟩:=Zz.mp h;rw[bools_eq h1];rfl
theorem QiL:∀{ds:List Qb}{bs:List Int},Qcu ds=some bs->ds=bs.map Qh
 |[],bs,h=>by cases h;rfl
 |d::ds,bs,h=>by
  cases d<;>first | (unfold Qcu at h;cases h;done) | skip
  rw[Qcu] at h;obtain⟨cs,h1,rfl⟩:=Zz.mp h;rw[QiL h1];rfl
theorem QhC{A:Addr->Prop}{H:Hp}:∀{bs:List Bool}{xs:List V},DAs A H xs (bs.map Qda)->xs=bs.map V.bl
 |[],_,.nil=>rfl
 |b::bs,_,.cons (.bl _) r=>by rw[QhC r];rfl
theorem Qcf{A:Addr->Prop}{H:Hp}:∀{bs:List Int}{xs:List V},DAs A H xs (bs.map Qh)->xs=bs.map V.int
 |[],_,.nil=>rfl
 |b::bs,_,.cons (.int _) r=>by rw[Qcf r];rfl
@[irreducible] def Qym:List Qb->(Qb->Prop)->Prop
 |[.list ds],Q=>∃bs,QcF ds=some bs/\Q (.bool (bs.all id))
 |_,_=>False
theorem Qnn{K:PySem.W.Frag}{cm:Bool}(hc:cm=true):QcG (λxs H Q=>∃(p:Addr)(bs:List Bool),xs=[.ref p]/\SqL K H p (bs.map V.bl)/\cm=true/\Q (.bl (bs.all id)) H) Qym:=λA P H vs ds R Q ln dm q h k=>by
 unfold Qym at h;split at h
 ·obtain⟨v,rfl,hv⟩:=pd1 q;obtain⟨bs,hb,hR⟩:=h;rw[bools_eq hb] at hv;obtain⟨l,xs,rfl,e,qq⟩:=hv.list;rw[QhC qq] at e;exact⟨l,bs,rfl,SqL.of e,hc,k _ hR _ H (Same.refl H) (.bl _) QaR⟩
 ·exact h.elim
def Qre:List Qb->(Qb->Prop)->Prop
 |[.list ds],Q=>Q (.tuple ds)
 |[.tuple ds],Q=>Q (.tuple ds)
 |_,_=>False
def Qw7:List Qb->(Qb->Prop)->Prop
 |[.list ds],Q=>Q (.list ds)
 |[.tuple ds],Q=>Q (.list ds)
 |_,_=>False
theorem QjV{K:PySem.W.Frag}:QcG (QlK K) Qre:=λA P H vs ds R Q ln dm q h k=>by
 unfold Qre at h;split at h
 ·obtain⟨v,rfl,hv⟩:=pd1 q;obtain⟨l,xs,rfl,e,qq⟩:=hv.list;exact⟨l,xs,rfl,.inl ⟨SqL.of e,λl' H' s n e'=>k _ h _ H' s (Qfh dm s e' qq) (QeO e')⟩⟩
 ·obtain⟨v,rfl,hv⟩:=pd1 q;obtain⟨l,xs,rfl,e,qq⟩:=hv.tuple;exact⟨l,xs,rfl,.inr ⟨SqT.of e,k _ h _ H (Same.refl H) (Qfh dm (Same.refl H) e qq) (QeO e)⟩⟩
 ·exact h.elim
theorem QuF{K:PySem.W.Frag}:QcG (QlM K) Qw7:=λA P H vs ds R Q ln dm q h k=>by
 unfold Qw7 at h;split at h
 ·obtain⟨v,rfl,hv⟩:=pd1 q;obtain⟨l,xs,rfl,e,qq⟩:=hv.list;exact⟨l,xs,rfl,.inl (SqL.of e),λl' H' s n e'=>k _ h _ H' s (QdV dm s n e' qq) (QaQ n)⟩
 ·obtain⟨v,rfl,hv⟩:=pd1 q;obtain⟨l,xs,rfl,e,qq⟩:=hv.tuple;exact⟨l,xs,rfl,.inr (SqT.of e),λl' H' s n e'=>k _ h _ H' s (QdV dm s n e' qq) (QaQ n)⟩
 ·exact h.elim
def intD:List Qb->(Qb->Prop)->Prop
 |[.int i],Q=>Q (.int i)
 |[.bool k],Q=>Q (.int (if k then 1 else 0))
 |_,_=>False
theorem QxL:QcG Qzb intD:=λA P H vs ds R Q ln dm q h k=>by
 unfold intD at h;split at h
 ·obtain⟨v,rfl,hv⟩:=pd1 q;rw[hv.int];exact .inl ⟨_,rfl,k _ h _ H (Same.refl H) (.int _) Y1⟩
 ·obtain⟨v,rfl,hv⟩:=pd1 q;rw[hv.bool];exact .inr ⟨_,rfl,k _ h _ H (Same.refl H) (.int _) Y1⟩
 ·exact h.elim
end
section
variable{X:Cx}{E:XK}
inductive Tn where | int | bool | str | tuple | list
def Tn.s:Tn->String
 |.int => "int"
 |.bool => "bool"
 |.str => "str"
 |.tuple => "tuple"
 |.list => "list"
def isT:Tn->Qb->Bool
 |.int,.int _=>true
 |.int,.bool _=>true
 |.bool,.bool _=>true
 |.str,.str _=>true
 |.tuple,.tuple _=>true
 |.list,.list _=>true
 |_,_=>false
theorem Que{K:PySem.W.Frag}{A P:Addr->Prop}{H:Hp}{v:V}{d:Qb}(tn:Tn)(h:DP A P H v d):∃t,TyOf K H v t/\PySem.W.kitOne K t (.type tn.s)=some (isT tn d):=by
 rcases h with h | ⟨l,xs,ds,rfl,rfl,_,e,q⟩
 ·cases h with
  |non=>exact⟨_,.non,by cases tn<;>rfl⟩
  |bl b=>exact⟨_,.bl _,by cases tn<;>rfl⟩
  |int i=>exact⟨_,.int _,by cases tn<;>rfl⟩
  |str x c=>exact⟨_,.str _,by cases tn<;>rfl⟩
  |tup n e q=>exact⟨_,.tup e,by cases tn<;>rfl⟩
  |lst n e q=>exact⟨_,.lst e,by cases tn<;>rfl⟩
  |dct n e=>exact⟨_,.dK e,by cases tn<;>rfl⟩
 ·exact⟨_,.lst e,by cases tn<;>rfl⟩
def QxG(tn:Tn)(we:DE):DE:=λδ Q EX=>we δ (λd=>Q (.bool (isT tn d))) EX
theorem Qtr{e f:Q3}{we:DE}{p pos:Pos}(tn:Tn)(hg:Gl X "isinstance")(hm:X.mg "isinstance" = none)(he:PE X e (tX .P X.K E we))(hf:PE X f (tC (.ty tn.s)))(h1:Zh e=true:=by rfl)(h2:Zh f=true:=by rfl) :
  PE X (.Call (.Name "isinstance" p) [e,f] [] pos) (tX .F X.K E (QxG tn we)):=by
 refine PE.imp (Qa2 QiU hg hm Qbx (Qel he (Qel hf ZP h2) h1) (he:=YZ h1) (hpl:=by rw[YZ h2];rfl)) λσ H Q ⟨F,δ,R,EX,rel,hw,k,o⟩=>?_
 refine⟨F,δ,_,EX,rel,hw,λd hd v H' rel' kp vk=>?_,o⟩;obtain⟨t,ty,et⟩:=Que (K:=X.K) tn vk;exact⟨v,t,tn.s,_,rfl,ty,et,k _ hd _ H' rel' kp ⟨.bl _,QaR⟩⟩
theorem Qzs{x:Str}{pos:Pos}(tn:Tn)(hg:Gl X x)(hm:X.mg x=none)(hv:bootBuiltins x=some (.type tn.s))(hn:x ≠ "__name__" := by decide)(hd:(x == ("__debug__" : Str))=false:=by decide):PE X (.Name x pos) (tC (.ty tn.s)):=Ql0 (v:=.ty tn.s) hg hm hv rfl hn hd
abbrev DO:=Sts->(Option Int->Prop)->XP->Prop
def tO(K:PySem.W.Frag)(E:XK)(w:DO):TO:=λσ H Q=>∃(F:Fm)(δ:Sts)(R:Option Int->Prop)(EX:XP),Rel K F σ H δ/\w δ R EX/\(∀d,R d->∀H',Rel K F σ H' δ->Kp σ δ H H'->Q d H')/\Out F E EX
def dNo:DO:=λ_ Q _=>Q none
def dSo(we:DE):DO:=λδ Q EX=>we δ (λd=>match d with
 |.int i=>Q (some i)
 |_=>False) EX
theorem PO.imp{e:Option Q3}{t t':TO}(h:PO X e t)(i:∀σ H Q,t' σ H Q->t σ H Q):PO X e t':=λpins s σ H Q I q=>h pins s σ H Q I (i σ H Q q)
theorem QoV:PO X none (tO X.K E dNo):=PO.imp Qs5 λσ H Q ⟨F,δ,R,EX,rel,hw,k,o⟩=>k _ hw H rel (Kp.refl rel)
theorem QoU{e:Q3}{we:DE}(he:PE X e (tX .P X.K E we)):PO X (some e) (tO X.K E (dSo we)):=by
 refine PO.imp (Qs4 he) λσ H Q ⟨F,δ,R,EX,rel,hw,k,o⟩=>?_
 refine⟨F,δ,_,EX,rel,hw,λd hd v H' rel' kp vk=>?_,o⟩;cases d<;>first | exact(show False from hd).elim | skip
 exact⟨_,DP.int vk,k _ hd H' rel' kp⟩
def cutD(xs:List Qb)(lo hi:Option Int):List Qb:=(xs.drop (HT.sIx xs.length 0 lo)).take (HT.sIx xs.length xs.length hi - HT.sIx xs.length 0 lo)
theorem Qnf{A:Addr->Prop}{H:Hp}{xs:List V}{ds:List Qb}(q:DAs A H xs ds)(lo hi:Option Int):DAs A H (QkZ xs lo hi) (cutD ds lo hi):=by
 unfold QkZ cutD;rw[q.length];exact(q.drop _).take _
def slD(d:Qb)(lo hi:Option Int)(Q:Qb->Prop):Prop:=
 match d with
 |.list ds=>Q (.list (cutD ds lo hi))
 |.tuple ds=>Q (.tuple (cutD ds lo hi))
 |_=>False
def dSl(we:DE)(wl wh:DO):DE:=λδ Q EX=>we δ (λd=>wl δ (λlo=>wh δ (λhi=>slD d lo hi Q) EX) EX) EX
def QvZ(K:PySem.W.Frag):V->Option Int->Option Int->Hp->VK->Prop:=λx a b H Q=>Qz4 x a b H Q∨QvY K x a b H Q
theorem Qo1{e:Q3}{lo hi:Option Q3}{we:DE}{wl wh:DO}{p2 pos:Pos}(he:PE X e (tX .P X.K E we))(hl:PO X lo (tO X.K E wl))(hh:PO X hi (tO X.K E wh)):PE X (.Subscript e (.Slice lo hi none p2) pos) (tX .F X.K E (dSl we wl wh)):=by
 refine PE.imp (QoJ (r:=QvZ X.K) (SlR.or2 QvF Qod) he hl hh) λσ H Q ⟨F,δ,R,EX,rel,hw,k,o⟩=>?_
 refine⟨F,δ,_,EX,rel,hw,λd hd v H1 rel1 kp1 vk=>⟨F,δ,_,EX,rel1,hd,λa ha H2 rel2 kp2=>⟨F,δ,_,EX,rel2,ha,λb hb H3 rel3 kp3=>?_,o⟩,o⟩,o⟩;have v3:=kp3.dp (kp2.dp vk);have K3:=(kp1.trans kp2).trans kp3;cases d<;>first | exact(show False from hb).elim | skip
 ·obtain⟨l,xs,rfl,e,q⟩:=DP.list v3;exact .inr ⟨l,xs,rfl,SqL.of e,λp H' s n e'=>k _ hb _ H' (rel3.same s) (K3.trans (Kp.same rel3 s)) ⟨QdV (λa ha=>rel3.isl ha) s n e' (Qnf q _ _),QaQ (Qbv K3 n)⟩⟩
 ·obtain⟨l,xs,rfl,e,q⟩:=DP.tuple v3;exact .inl ⟨l,xs,rfl,e,λp H' s e'=>k _ hb _ H' (rel3.same s) (K3.trans (Kp.same rel3 s)) ⟨Qfh (λa ha=>rel3.isl ha) s e' (Qnf q _ _),QeO e'⟩⟩
abbrev DF:=List Sl->(Qb->Prop)->XP->Prop
def Kq(pt:Addr->Prop)(H H':Hp):Prop:=(∀b o,¬pt b->H b=some o->H' b=some o)/\∀p,pt p->∃n,H' p=some (.lst [.int n])
def Zf(fr:Bool)(f:DF):Sp:=λvs H Q Ex=>∃(A pt:Addr->Prop)(args:List Sl)(R:Qb->Prop)(EX:XP),(∀a,A a->∃xs,H a=some (.lst xs))/\(∀p,pt p->A p/\∃n,H p=some (.lst [.int n]))/\Yu (QhS A pt H) vs args/\f args R EX /\
 (∀d,R d->∀v H',Kq pt H H'->DA A H' v d->(fr=true->FrV H H' v)->Q v H')/\∀C,EX C->∀H',Kq pt H H'->Ex (.ref C) none H'
def Qz2:DSl:=λ_ Q _=>Q []
def sV(we:DE)(wr:DSl):DSl:=λδ Q EX=>we δ (λd=>wr δ (λds=>Q (.v d::ds)) EX) EX
def Qy4(i:Nat)(wr:DSl):DSl:=λδ Q EX=>match δ[i]? with
 |some .pot=>wr δ (λds=>Q (.pot::ds)) EX
 |_=>False
theorem Qtk:PA X [] (tAs X.K E Qz2):=PA.imp ZP λσ H Q ⟨F,δ,R,EX,rel,hw,k,o⟩=>k [] hw [] H rel (Kp.refl rel) .nil
theorem Qzm{e:Q3}{es:List Q3}{we:DE}{wr:DSl}(he:PE X e (tX .D X.K E we))(hr:PA X es (tAs X.K E wr))(hs:Zh e=true:=by rfl):PA X (e::es) (tAs X.K E (sV we wr)):=by
 refine PA.imp (Qel he hr hs) λσ H Q ⟨F,δ,R,EX,rel,hw,k,o⟩=>?_
 refine⟨F,δ,_,EX,rel,hw,λd hd v H' rel' kp vk=>⟨F,δ,_,EX,rel',hd,λds hds vs H2 rel2 kp2 vks=>?_,o⟩,o⟩;exact k _ hds (v::vs) H2 rel2 (kp.trans kp2) (.cons (kp2.da vk) vks)
theorem Qti{e:Q3}{es:List Q3}{i:Nat}{wr:DSl}(he:PE X e (QhZ i))(hr:PA X es (tAs X.K E wr))(hs:Zh e=true:=by rfl):PA X (e::es) (tAs X.K E (Qy4 i wr)):=by
 refine PA.imp (Qel he hr hs) λσ H Q ⟨F,δ,R,EX,rel,hw,k,o⟩=>?_
 unfold Qy4 at hw;split at hw
 ·rename_i hd
  obtain⟨x,hx⟩:=rel.lt hd;obtain⟨p,n,rfl,e,q⟩:=rel.sl i _ _ hx hd;refine⟨.ref p,hx,F,δ,_,EX,rel,hw,λds hds vs H2 rel2 kp2 vks=>?_,o⟩;exact k _ hds (.ref p::vs) H2 rel2 kp2 (.cons ⟨p,rfl,i,hx,hd⟩ vks)
 ·exact hw.elim
def Qne(f:DF)(wa:DSl):DE:=λδ Q EX=>wa δ (λargs=>f args Q EX) EX
theorem Kq.kp{K:PySem.W.Frag}{F:Fm}{σ:L2.St}{δ:Sts}{H H':Hp}(k:Kq (Yj σ δ) H H'):Kp σ δ H H':=k
theorem QhE{m:Md}{fr:Bool}{K:PySem.W.Frag}{f:DF}{wa:DSl}(hm:∀{F:Fm}{σ:L2.St}{δ:Sts}{H H':Hp}{v:V}{d:Qb},DA (Av F σ δ) H' v d->(fr=true->FrV H H' v)->Vok m F σ δ H H' v d)(σ:L2.St)(H:Hp)(Q:VK)(h:tX m K E (Qne f wa) σ H Q):Qlq (Zf fr f) [] E (tAs K E wa) σ H Q:=by
 obtain⟨F,δ,R,EX,rel,hw,k,o⟩:=h;refine⟨F,δ,_,EX,rel,hw,λargs ha vs H1 rel1 kp1 q=>?_,o⟩;show Zf fr f (vs++[]) H1 Q E;rw[Jt];refine⟨Av F σ δ,Yj σ δ,args,R,EX,λa ha=>rel1.isl ha,λp hp=>⟨Y5 hp,(Kp.refl rel1).2 p hp⟩,q,ha,λd hd v H' kq dv fr=>?_,λC hC H' kq=>o C hC H' (rel1.kp kq).ke⟩;exact k d hd v H' (rel1.kp kq) (kp1.trans kq) (hm dv λz l e1 e2=>Qbv kp1 (fr z l e1 e2))
variable{CX:CXT}{k:Nat}{f:Addr}{fd:QP}{ps:List Str}{x:Str}{p pos:Pos}{e:Q3}{es:List Q3}{fD:DF}{wa:DSl}
theorem Qtu(G:FnOk X.prog X.w X.K X.mg X.base CX k f fd ps (Zf false fD))(hr:Room k X.A)(hg:Gl X x)(hm:X.mg x=some (.ref f))(hk:PySem.W.keepIn X.K (.ref f)=true)(hb:Binds X.K fd ps [])(hx:Qb1 CX X E)
  (ha:PA X (e::es) (tAs X.K E wa))(hdb:(x == ("__debug__" : Str))=false:=by decide)(he:starEach (e::es) X.env=(false,eval e X.env)::starEach es X.env:=by rfl)(hpl:(backTo pos (starEach es X.env)).any (·.1)=false:=by rfl) :
  PE X (.Call (.Name x p) (e::es) [] pos) (tX .D X.K E (Qne fD wa)):=PE.imp (QbT G hr hg hm hk hb .nil hx ha hdb he hpl) (QhE λh _=>h)
theorem Qo3(G:FnOk X.prog X.w X.K X.mg X.base CX k f fd ps (Zf true fD))(hr:Room k X.A)(hg:Gl X x)(hm:X.mg x=some (.ref f))(hk:PySem.W.keepIn X.K (.ref f)=true)(hb:Binds X.K fd ps [])(hx:Qb1 CX X E)
  (ha:PA X (e::es) (tAs X.K E wa))(hdb:(x == ("__debug__" : Str))=false:=by decide)(he:starEach (e::es) X.env=(false,eval e X.env)::starEach es X.env:=by rfl)(hpl:(backTo pos (starEach es X.env)).any (·.1)=false:=by rfl) :
  PE X (.Call (.Name x p) (e::es) [] pos) (tX .F X.K E (Qne fD wa)):=PE.imp (QbT G hr hg hm hk hb .nil hx ha hdb he hpl) (QhE λh z=>⟨h,z rfl⟩)
def scal:Qb->Bool
 |.list _=>false
 |.tuple _=>false
 |.dict _=>false
 |_=>true
def Qxq:Qb->Bool
 |.list ds=>ds.all scal
 |d=>scal d
theorem QsG{A A':Addr->Prop}{H:Hp}{v:V}{d:Qb}(h:DA A H v d)(s:scal d=true):DA A' H v d:=by
 cases h with
 |non=>exact .non
 |bl b=>exact .bl b
 |int i=>exact .int i
 |str x c=>exact .str x c
 |tup _ _ _=>cases s
 |lst _ _ _=>cases s
 |dct _ _=>cases s
theorem Qje{A A':Addr->Prop}{H:Hp}:∀{vs:List V}{ds:List Qb},DAs A H vs ds->ds.all scal=true->DAs A' H vs ds
 |_,_,.nil,_=>.nil
 |_,_,.cons a b,s=>by
  rw[Qx5,JS] at s;exact .cons (QsG a s.1) (Qje b s.2)
def Qnd(f:DF)(wa:DAr):DE:=λδ Q EX=>wa δ (λds=>f (ds.map Sl.v) (λd=>Qxq d=true/\Q d) EX) EX
def QAI(P:Addr->Prop)(H:Hp)(vs:List V)(a:Addr):Prop:=V.ref a∈vs/\¬P a
theorem Qhp{A P:Addr->Prop}{H:Hp}(ws:List V):∀{vs:List V}{ds:List Qb},(∀v∈vs,v∈ws)->Yu (VD .P A P H) vs ds->Yu (QhS (λa=>A a/\¬QAI P H ws a) (λ_=>False) H) vs (ds.map Sl.v)
 |_,_,_,.nil=>.nil
 |v::vs,d::ds,m,.cons a b=>by
  refine .cons ?_ (Qhp ws (λv hv=>m v (Q7 _ hv)) b)
  rcases a with a | ⟨l,xs,ds,rfl,rfl,n,e,q⟩
  ·exact a.mv (λ_ _ _ e=>e) λa z=>.inl z.1
  ·exact .lst (λz=>z.2 ⟨m _ JM,n⟩) e (q.mv (λ_ _ _ e=>e) λa z=>.inl z.1)
theorem QkL{n:Nat}{fr:Bool}{K:PySem.W.Frag}{f:DF}{wa:DAr}(hfr:fr=true)(σ:L2.St)(H:Hp)(Q:VK)(h:tX .F K E (Qnd f wa) σ H Q):Qlq (Zf fr f) [] E (tAr n .P K E wa) σ H Q:=by
 obtain⟨F,δ,R,EX,rel,hw,k,o⟩:=h;refine⟨F,δ,_,EX,rel,hw,λargs ha _ vs H1 rel1 kp1 q=>?_,o⟩;show Zf fr f (vs++[]) H1 Q E;rw[Jt];refine⟨λa=>Av F σ δ a/\¬QAI (Yj σ δ) H1 vs a,λ_=>False,args.map Sl.v,_,EX,λa ha=>rel1.isl ha.1,λp hp=>hp.elim,Qhp vs (λ_ h=>h) q,ha,λd hd v H' kq dv fr=>?_,λC hC H' kq=>o C hC H' (rel1.same λb o e=>kq.1 b o (λz=>z) e).ke⟩;have s:Same H1 H':=λb o e=>kq.1 b o (λz=>z) e
 have fv:=fr hfr;refine k d hd.2 v H' (rel1.same s) (kp1.trans (Kp.same rel1 s)) ⟨?_,λl e1 e2=>Qbv kp1 (fv l e1 e2)⟩;have hf:=hd.1;cases dv with
 |non=>exact .non
 |bl b=>exact .bl b
 |int i=>exact .int i
 |str x c=>exact .str x c
 |tup _ _ _=>cases hf
 |dct _ _=>cases hf
 |@lst a xs ds n' e q'=>
  refine .lst (λz=>?_) e (Qje q' hf);obtain⟨ys,e'⟩:=rel1.isl z;rw[fv a rfl ⟨xs,e⟩] at e';cases e'
theorem Qo2{n:Nat}{wr:DAr}(G:FnOk X.prog X.w X.K X.mg X.base CX k f fd ps (Zf true fD))(hr:Room k X.A)(hg:Gl X x)(hm:X.mg x=some (.ref f))(hk:PySem.W.keepIn X.K (.ref f)=true)(hb:Binds X.K fd ps [])(hx:Qb1 CX X E)
  (ha:PA X (e::es) (tAr n .P X.K E wr))(hdb:(x == ("__debug__" : Str))=false:=by decide)(he:starEach (e::es) X.env=(false,eval e X.env)::starEach es X.env:=by rfl)(hpl:(backTo pos (starEach es X.env)).any (·.1)=false:=by rfl) :
  PE X (.Call (.Name x p) (e::es) [] pos) (tX .F X.K E (Qnd fD wr)):=PE.imp (QbT G hr hg hm hk hb .nil hx ha hdb he hpl) (QkL rfl)
end
abbrev DG:=Qb->Sts->(Sts->Prop)->Prop
def tG(ix:List Nat)(K:PySem.W.Frag)(w:DG):TG:=λv σ H Q=>∃(F:Fm)(δ:Sts)(d:Qb)(R:Sts->Prop),Rel K F σ H δ/\DA (Av F σ δ) H v d/\w d δ R /\
 ∀δ',R δ'->∀σ',Rel K F σ' H δ'->Stp F σ H δ σ' H δ'->σ'.length=σ.length->(∀j,j∉ix->σ'[j]? = σ[j]?)->Q σ' H
theorem QbC{α:Type}{l:List α}{i j:Nat}{x:α}(h:j≠i):(l.set i x)[j]? = l[j]? := QaY (Qbm h)
theorem set_eq{α:Type}{l:List α}{i:Nat}{x y:α}(h:(l.set i x)[i]? = some y):y=x:=by
 rw[Qp7] at h;simp only[if_true] at h;split at h
 ·exact(QB h).symm
 ·cases h
theorem QeX{F:Fm}{σ:L2.St}{δ:Sts}{i:Nat}{o:Option V}{d:Qb}{a:Addr}(h:Av F (σ.set i o) (δ.set i (.v d)) a):Av F σ δ a:=by
 rcases h with h | ⟨j,h1,h2⟩
 ·exact .inl h
 ·by_cases z:j=i
  ·subst z;rcases h2 with h2 | ⟨ds,h2⟩<;>cases set_eq h2
  ·rw[QbC z] at h1 h2;exact .inr ⟨j,h1,h2⟩
theorem Rel.setv{K:PySem.W.Frag}{F:Fm}{σ:L2.St}{H:Hp}{δ:Sts}(r:Rel K F σ H δ){i:Nat}{v:V}{d:Qb}(q:DA (Av F σ δ) H v d):Rel K F (σ.set i (some v)) H (δ.set i (.v d)) where
 len:=by rw[Yg,Yg];exact r.len
 dom:=r.dom
 dom0:=r.dom0
 pt0:=r.pt0
 kx:=r.kx
 sl:=λj o x h1 h2=>by
  have wk:∀{v:V}{d':Qb},DA (Av F σ δ) H v d'->DA (Av F (σ.set i (some v)) (δ.set i (.v d))) H v d':=λh=>h.mv (λ_ _ _ e=>e) λa z=>.inl (QeX z)
  by_cases z:j=i
  ·subst z;cases set_eq h1;cases set_eq h2;exact⟨v,rfl,q.mv (λ_ _ _ e=>e) λa z=>.inl (QeX z)⟩
  ·rw[QbC z] at h1 h2;have h:=r.sl j o x h1 h2;cases x with
   |no=>trivial
   |v d=>obtain⟨v',e,q'⟩:=h;exact⟨v',e,q'.mv (λ_ _ _ e=>e) λa z=>.inl (QeX z)⟩
   |own ds=>obtain⟨l,xs,e,e2,q',f⟩:=h;exact⟨l,xs,e,e2,q'.mv (λ_ _ _ e=>e) λa z=>.inl (QeX z),f⟩
   |pk ds=>obtain⟨l,xs,e,e2,q',f⟩:=h;exact⟨l,xs,e,e2,q'.mv (λ_ _ _ e=>e) λa z=>.inl (QeX z),f⟩
   |pot=>exact h
   |scr=>exact h
 inj:=λj k a ds h1 h2 ⟨h3,h4⟩=>by
  by_cases z:j=i
  ·subst z;cases set_eq h1
  ·rw[QbC z] at h1 h2;by_cases z2:k=i
   ·subst z2;rcases h4 with h4 | ⟨ds,h4⟩<;>cases set_eq h4
   ·rw[QbC z2] at h3 h4;exact r.inj j k a ds h1 h2 ⟨h3,h4⟩
theorem Stp.setv{F:Fm}{σ:L2.St}{H:Hp}{δ:Sts}{i:Nat}{o:Option V}{d:Qb}:Stp F σ H δ (σ.set i o) H (δ.set i (.v d)):=⟨λ_ _ _ e=>e,λa z=>.inl (QeX z)⟩
def gN(i:Nat):DG:=λd δ Q=>Q (δ.set i (.v d))
def Qjd:Sts->List Nat->List Qb->Sts
 |δ,i::is,d::ds=>Qjd (δ.set i (.v d)) is ds
 |δ,_,_=>δ
def gTN(is:List Nat):DG:=λd δ Q=>match d with
 |.tuple ds=>ds.length=is.length/\Q (Qjd δ is ds)
 |_=>False
section
variable{X:Cx}{E:XK}
theorem PG.imp{e:Q3}{t t':TG}(h:PG X e t)(i:∀v σ H Q,t' v σ H Q->t v σ H Q):PG X e t':=λpins s σ H v u Q I r q=>h pins s σ H v u Q I r (i v σ H Q q)
theorem Qo0{e:Q3}{i:Nat}(h:PG X e (Qd9 i)):PG X e (tG [i] X.K (gN i)):=PG.imp h λv σ H Q ⟨F,δ,d,R,rel,dv,hw,k⟩=>
 k _ hw _ (rel.setv dv) Stp.setv (Yg ..) λj hj=>QbC λz=>hj (by rw[z];exact Jj.mpr rfl)
def gNs:List Nat->TGs
 |[]=>QAn
 |i::is=>Qxm (Qd9 i) (gNs is)
theorem QjJ{K:PySem.W.Frag}{F:Fm}{H:Hp}{Q:L2.St->Hp->Prop}:∀(is:List Nat)(vs:List V)(ds:List Qb)(σ:L2.St)(δ:Sts),ds.length=is.length->Rel K F σ H δ->DAs (Av F σ δ) H vs ds ->
  (∀σ',Rel K F σ' H (Qjd δ is ds)->Stp F σ H δ σ' H (Qjd δ is ds)->σ'.length=σ.length->(∀j,j∉is->σ'[j]? = σ[j]?)->Q σ' H)->gNs is vs σ H Q
 |[],vs,ds,σ,δ,hl,rel,q,k=>by
  cases ds with
  |nil=>cases q;exact⟨rfl,k σ rel Stp.refl rfl λ_ _=>rfl⟩
  |cons d ds=>cases hl
 |i::is,vs,ds,σ,δ,hl,rel,q,k=>by
  cases ds with
  |nil=>cases hl
  |cons d ds=>
   cases q with
   |@cons v vs _ _ q qs=>
    refine⟨v,vs,rfl,?_⟩;refine QjJ is vs ds _ _ (by simpa using hl) (rel.setv q) (qs.mv (λ_ _ _ e=>e) λa z=>.inl (QeX z)) λσ' r' st hl' hj=>?_
    refine k σ' r' (Stp.setv.trans st) (by rw[hl',Yg]) λj hn=>?_
    rw[hj j (λz=>hn (Q7 _ z)),QbC (λz=>hn (by rw[z];exact JM))]
theorem Qto{e:Q3}{n:Nat}{is:List Nat}(h:PG X e (QAm X.K n (gNs is)))(hn:is.length=n:=by rfl):PG X e (tG is X.K (gTN is)):=PG.imp h λv σ H Q ⟨F,δ,d,R,rel,dv,hw,k⟩=>by
 unfold gTN at hw;split at hw
 ·obtain⟨hl,hR⟩:=hw;cases dv with
  |@tup a xs ds na e q=>
   exact⟨a,xs,rfl,SqT.of e,by rw[q.length,hl,hn],QjJ is xs _ σ δ hl rel q λσ' r' st hl' hj=>k _ hR σ' r' st hl' hj⟩
 ·exact hw.elim
def ItD(A S:Addr->Prop)(J:It)(items:List Qb)(H1:Hp):Prop:=items.length<=sizeLine/\∀(H2:Hp)(A':Addr->Prop),(∀b o,S b->H1 b=some o->H2 b=some o)->(∀b,A' b->A b∨H1 b=none)->(∀a,A' a->∃xs,H2 a=some (.lst xs)) ->
 (∀(i:Nat) d,items[i]? = some d->J.go i H2/\∀x H3,J.yld i H2 x H3->Same H2 H3/\DA A' H3 x d)/\J.stop items.length H2
def Sx(m:Md)(F:Fm)(σ:L2.St)(δ:Sts)(b:Addr):Prop:=
 match m with
 |.P=>¬Yj σ δ b
 |_=>¬Av F σ δ b
abbrev DI:=Sts->(List Qb->Prop)->XP->Prop
def tI(m:Md)(K:PySem.W.Frag)(E:XK)(w:DI):TI:=λσ H R=>∃(F:Fm)(δ:Sts)(R':List Qb->Prop)(EX:XP),Rel K F σ H δ/\w δ R' EX/\(∀items,R' items->∀J H',Rel K F σ H' δ->Kp σ δ H H'->ItD (Av F σ δ) (Sx m F σ δ) J items H'->R J H')/\Out F E EX
theorem PI.imp{tg e:Q3}{t t':TI}(h:PI X tg e t)(i:∀σ H R,Qc5 H->t' σ H R->t σ H R):PI X tg e t':=λpins s σ H R I q=>h pins s σ H R I (i σ H R (Inv.lens I) q)
theorem PI.len{tg e:Q3}{t:TI}(h:PI X tg e t):PI X tg e (λσ H R=>t σ H λJ H1=>Qc5 H1->R J H1):=λpins s σ H R I q=>by
 refine thn (h pins s σ H _ I q) λv s1 h1=>thn h1 λitv s2 h2=>?_
 obtain⟨it,fp,tn,J,H',e,I',T,t0,fo,hR⟩:=h2;exact⟨it,fp,tn,J,H',e,I',T,t0,fo,hR (Inv.lens I')⟩
def QAA(w:DE):DI:=λδ Q EX=>w δ (λd=>match d with
 |.list ds=>Q ds
 |_=>False) EX
def QAz(w:DE):DI:=λδ Q EX=>w δ (λd=>match d with
 |.tuple ds=>Q ds
 |_=>False) EX
theorem Qa1{A S:Addr->Prop}{H H2:Hp}{A':Addr->Prop}{xs:List V}{ds:List Qb}(sA:∀b,¬A b->S b)(k:∀b o,S b->H b=some o->H2 b=some o)(m:∀b,A' b->A b∨H b=none)(q:DAs A H xs ds):DAs A' H2 xs ds:=q.mv (λa o n e=>k a o (sA a n) e) m
theorem QzA{K:PySem.W.Frag}{A S:Addr->Prop}{H:Hp}{l:Addr}{xs:List V}{ds:List Qb}(sA:∀b,¬A b->S b)(sl:S l)(e:H l=some (.lst xs))(q:DAs A H xs ds)(ln:xs.length<=sizeLine):ItD A S (Itl K l) ds H:=by
 refine⟨by rw[<- q.length];exact ln,λH2 A' k m dm=>⟨λi d hd=>?_,xs,SqL.of (k _ _ sl e),by rw[q.length];exact Qj _⟩⟩;obtain⟨x,hx,dx⟩:=(Qa1 sA k m q).get i d hd;refine⟨⟨xs,x,SqL.of (k _ _ sl e),hx⟩,λy H3 ⟨e3,hy⟩=>?_⟩;subst e3;have:=hy xs (SqL.of (k _ _ sl e));rw[hx] at this;cases this;exact⟨Same.refl _,dx⟩
theorem Qzy{K:PySem.W.Frag}{A S:Addr->Prop}{H:Hp}{l:Addr}{xs:List V}{ds:List Qb}(sA:∀b,¬A b->S b)(sl:S l)(e:H l=some (.tup xs))(q:DAs A H xs ds)(ln:xs.length<=sizeLine):ItD A S (Itt K l) ds H:=by
 refine⟨by rw[<- q.length];exact ln,λH2 A' k m dm=>⟨λi d hd=>?_,xs,SqT.of (k _ _ sl e),by rw[q.length];exact Qj _⟩⟩;obtain⟨x,hx,dx⟩:=(Qa1 sA k m q).get i d hd;refine⟨⟨xs,x,SqT.of (k _ _ sl e),hx⟩,λy H3 ⟨e3,hy⟩=>?_⟩;subst e3;have:=hy xs (SqT.of (k _ _ sl e));rw[hx] at this;cases this;exact⟨Same.refl _,dx⟩
theorem Qe9{m:Md}{F:Fm}{σ:L2.St}{δ:Sts}{b:Addr}(h:¬Av F σ δ b):Sx m F σ δ b:=by
 cases m
 ·exact h
 ·exact λz=>h (Y5 z)
 ·exact h
theorem stL{m:Md}{F:Fm}{σ:L2.St}{δ:Sts}{H H':Hp}{v:V}{ds:List Qb}(h:VD m (Av F σ δ) (Yj σ δ) H v (.list ds)):∃l xs,v=.ref l/\Sx m F σ δ l/\H l=some (.lst xs)/\DAs (Av F σ δ) H xs ds:=by
 cases m
 ·cases h with | @lst a xs _ n e q=>exact⟨a,xs,rfl,n,e,q⟩
 ·rcases h with h | ⟨l,xs,ds',rfl,e,n,e2,q⟩
  ·cases h with | @lst a xs _ n e q=>exact⟨a,xs,rfl,Qe9 n,e,q⟩
  ·cases e;exact⟨l,xs,rfl,n,e2,q⟩
 ·cases h with | @lst a xs _ n e q=>exact⟨a,xs,rfl,n,e,q⟩
theorem stT{m:Md}{F:Fm}{σ:L2.St}{δ:Sts}{H H':Hp}{v:V}{ds:List Qb}(h:VD m (Av F σ δ) (Yj σ δ) H v (.tuple ds)):∃l xs,v=.ref l/\Sx m F σ δ l/\H l=some (.tup xs)/\DAs (Av F σ δ) H xs ds:=by
 cases m
 ·cases h with | @tup a xs _ n e q=>exact⟨a,xs,rfl,n,e,q⟩
 ·rcases h with h | ⟨l,xs,ds',rfl,e,n,e2,q⟩
  ·cases h with | @tup a xs _ n e q=>exact⟨a,xs,rfl,Qe9 n,e,q⟩
  ·cases e
 ·cases h with | @tup a xs _ n e q=>exact⟨a,xs,rfl,n,e,q⟩
theorem QdO{m:Md}{F:Fm}{σ:L2.St}{δ:Sts}{H H':Hp}{v:V}{d:Qb}(h:Vok m F σ δ H H' v d):VD m (Av F σ δ) (Yj σ δ) H' v d:=by
 cases m
 ·exact h
 ·exact h
 ·exact h.1
variable{m:Md}{tg e e':Q3}{w w':DE}{p pos tpos:Pos}
theorem QoZ(h:PE X e (tX m X.K E w)):PI X tg e (tI m X.K E (QAA w)):=by
 refine PI.imp (PI.len (Qit h)) λσ H R _ ⟨F,δ,R',EX,rel,hw,k,o⟩=>?_
 refine⟨F,δ,_,EX,rel,hw,λd hd v H' rel' kp vk=>?_,o⟩;cases d<;>first | exact(show False from hd).elim | skip
 obtain⟨l,xs,rfl,sl,e,q⟩:=stL (H':=H') (QdO vk);exact⟨l,rfl,⟨xs,SqL.of e⟩,λln=>k _ hd _ H' rel' kp (QzA (λb=>Qe9) sl e q (ln _ _ (.inl e)))⟩
theorem Qtn(h:PE X e (tX m X.K E w)):PI X tg e (tI m X.K E (QAz w)):=by
 refine PI.imp (PI.len (Qwh h)) λσ H R _ ⟨F,δ,R',EX,rel,hw,k,o⟩=>?_
 refine⟨F,δ,_,EX,rel,hw,λd hd v H' rel' kp vk=>?_,o⟩;cases d<;>first | exact(show False from hd).elim | skip
 obtain⟨l,xs,rfl,sl,e,q⟩:=stT (H':=H') (QdO vk);exact⟨l,rfl,⟨xs,SqT.of e⟩,λln=>k _ hd _ H' rel' kp (Qzy (λb=>Qe9) sl e q (ln _ _ (.inr e)))⟩
def QlG(lo:Int)(n:Nat):List Qb:=(Qq n).map λ(i:Nat)=>.int (lo+i)
theorem Qcw{lo:Int}{n i:Nat}{d:Qb}(h:(QlG lo n)[i]? = some d):i<n/\d=.int (lo+i):=by
 unfold QlG at h;rw[Qz] at h;by_cases z:i<n
 ·rw[Zn z] at h;exact⟨z,(QB h).symm⟩
 ·rw[JR (by rw[QN];omega)] at h;cases h
theorem Qin{lo:Int}{n:Nat}:(QlG lo n).length=n:=by unfold QlG;rw[Qe,QN]
theorem Qzz{A S:Addr->Prop}{H:Hp}{lo:Int}{n:Nat}(hn:n<=1000000):ItD A S (Itr lo n) (QlG lo n) H:=by
 refine⟨by rw[Qin];exact Jb hn Qmy,λH2 A' k m dm=>⟨λi d hd=>?_,by rw[Qin];exact Qj _⟩⟩;obtain⟨hi,rfl⟩:=Qcw hd;exact⟨hi,λx H3 ⟨e1,e2⟩=>by subst e1 e2;exact⟨Same.refl _,.int _⟩⟩
def QxD(w:DE):DI:=λδ Q EX=>w δ (λd=>match d with
 |.int j=>(-1000000<=j/\j<=1000000)/\Q (QlG 0 j.toNat)
 |_=>False) EX
theorem QoY(hg:Gl X "range")(hm:X.mg "range" = none)(h:PE X e (tX .P X.K E w))(hs:Zh e=true:=by rfl):PI X tg (.Call (.Name "range" p) [e] [] pos) (tI m X.K E (QxD w)):=by
 refine PI.imp (Qhe hg hm (Qel h ZP hs) (by rw[YZ hs];rfl)) λσ H R _ ⟨F,δ,R',EX,rel,hw,k,o⟩=>?_
 refine⟨F,δ,_,EX,rel,hw,λd hd v H' rel' kp vk=>?_,o⟩;cases d<;>first | exact(show False from hd).elim | skip
 obtain⟨⟨h1,h2⟩,hR⟩:=hd;rw[DP.int vk];exact⟨_,rfl,by omega,by omega,k _ hR _ H' rel' kp (Qzz (by omega))⟩
theorem Qgc{A':Addr->Prop}{H2:Hp}{r:Addr}{x y:V}{d d':Qb}(dm:∀a,A' a->∃xs,H2 a=some (.lst xs))(n:H2 r=none)(q:DA A' H2 x d)(q':DA A' H2 y d'):DA A' (upd H2 r (.tup [x,y])) (.ref r) (.tuple [d,d']):=
 .tup (λz=>by obtain⟨xs,e⟩:=dm r z;rw[n] at e;cases e) JB (.cons (q.same (JC n)) (.cons (q'.same (JC n)) .nil))
def QcA(ds:List Qb):List Qb:=(Qq ds.length).map λ(i:Nat)=>.tuple [.int i,ds.getD i .none]
theorem Qce{ds:List Qb}{i:Nat}{d:Qb}(h:(QcA ds)[i]? = some d):∃e,ds[i]? = some e/\d=.tuple [.int i,e]:=by
 unfold QcA at h;rw[Qz] at h;by_cases z:i<ds.length
 ·rw[Zn z] at h;refine⟨ds[i],Qf z,?_⟩;rw[<- QB h];show Zm [.int i,ds.getD i .none]=_;rw[Qi,Qf z];rfl
 ·rw[JR (by rw[QN];omega)] at h;cases h
theorem Qc0{ds:List Qb}:(QcA ds).length=ds.length:=by unfold QcA;rw[Qe,QN]
def QAC(w:DE):DI:=λδ Q EX=>w δ (λd=>match d with
 |.list ds=>Q (QcA ds)
 |_=>False) EX
def QAB(w:DE):DI:=λδ Q EX=>w δ (λd=>match d with
 |.tuple ds=>Q (QcA ds)
 |_=>False) EX
variable{elts:List Q3}
theorem Ql4{x1}(hg:Gl X "enumerate")(hm:X.mg "enumerate" = none)(h:PE X e (tX m X.K E w))(hs:Zh e=true:=by rfl):PI X (.Tuple elts x1 tpos) (.Call (.Name "enumerate" p) [e] [] pos) (tI m X.K E (QAC w)):=by
 refine PI.imp (PI.len (Qs7 hg hm (Qel h ZP hs) (by rw[YZ hs];rfl))) λσ H R _ ⟨F,δ,R',EX,rel,hw,k,o⟩=>?_
 refine⟨F,δ,_,EX,rel,hw,λd hd v H' rel' kp vk=>?_,o⟩;cases d<;>first | exact(show False from hd).elim | skip
 obtain⟨l,xs,rfl,sl,e,q⟩:=stL (H':=H') (QdO vk);refine⟨l,xs,rfl,e,λln=>k _ hd _ H' rel' kp ⟨by rw[Qc0,<- q.length];exact ln _ _ (.inl e),λH2 A' kk mm dm=>⟨λi d hd'=>?_,xs,kk _ _ sl e,by rw[Qc0,q.length];exact Qj _⟩⟩⟩;obtain⟨d',hd2,rfl⟩:=Qce hd';obtain⟨x,hx,dx⟩:=(Qa1 (S:=Sx m F σ δ) (λb=>Qe9) kk mm q).get i d' hd2;refine⟨⟨xs,x,kk _ _ sl e,hx⟩,λy H3 ⟨r,x',nr,hx',e1,e2⟩=>?_⟩;subst e1 e2;have:=hx' xs (kk _ _ sl e);rw[hx] at this;cases this;exact⟨JC nr,Qgc dm nr (.int _) dx⟩
theorem Ql3{x1}(hg:Gl X "enumerate")(hm:X.mg "enumerate" = none)(h:PE X e (tX m X.K E w))(hs:Zh e=true:=by rfl):PI X (.Tuple elts x1 tpos) (.Call (.Name "enumerate" p) [e] [] pos) (tI m X.K E (QAB w)):=by
 refine PI.imp (PI.len (QoG hg hm (Qel h ZP hs) (by rw[YZ hs];rfl))) λσ H R _ ⟨F,δ,R',EX,rel,hw,k,o⟩=>?_
 refine⟨F,δ,_,EX,rel,hw,λd hd v H' rel' kp vk=>?_,o⟩;cases d<;>first | exact(show False from hd).elim | skip
 obtain⟨l,xs,rfl,sl,e,q⟩:=stT (H':=H') (QdO vk);refine⟨l,xs,rfl,e,λln=>k _ hd _ H' rel' kp ⟨by rw[Qc0,<- q.length];exact ln _ _ (.inr e),λH2 A' kk mm dm=>⟨λi d hd'=>?_,xs,kk _ _ sl e,by rw[Qc0,q.length]⟩⟩⟩;obtain⟨d',hd2,rfl⟩:=Qce hd';obtain⟨x,hx,dx⟩:=(Qa1 (S:=Sx m F σ δ) (λb=>Qe9) kk mm q).get i d' hd2;refine⟨⟨xs,x,kk _ _ sl e,hx⟩,λy H3 ⟨r,x',nr,hx',e1,e2⟩=>?_⟩;subst e1 e2;have:=hx' xs (kk _ _ sl e);rw[hx] at this;cases this;exact⟨JC nr,Qgc dm nr (.int _) dx⟩
def QgJ(ds es:List Qb):List Qb:=QcH (λd e=>.tuple [d,e]) ds es
theorem zip_get{ds es:List Qb}{i:Nat}{d:Qb}(h:(QgJ ds es)[i]? = some d):∃a b,ds[i]? = some a/\es[i]? = some b/\d=.tuple [a,b]:=by
 unfold QgJ at h;rw[List.getElem?_zipWith] at h;cases h1:ds[i]? with
 |none=>rw[h1] at h;cases h
 |some a=>
  cases h2:es[i]? with
  |none=>rw[h1,h2] at h;cases h
  |some b=>rw[h1,h2] at h;exact⟨a,b,rfl,rfl,(QB h).symm⟩
theorem QfM{ds es:List Qb}:(QgJ ds es).length=min ds.length es.length:=by unfold QgJ;rw[QdI]
def QAq(w w':DE):DI:=λδ Q EX=>w δ (λd=>w' δ (λd'=>match d,d' with
 |.list ds,.list es=>Q (QgJ ds es)
 |_,_=>False) EX) EX
def QAp(w w':DE):DI:=λδ Q EX=>w δ (λd=>w' δ (λd'=>match d,d' with
 |.tuple ds,.tuple es=>Q (QgJ ds es)
 |_,_=>False) EX) EX
theorem QoX{x1}(hg:Gl X "zip")(hm:X.mg "zip" = none)(h:PE X e (tX m X.K E w))(h':PE X e' (tX m X.K E w'))(hs:Zh e=true:=by rfl)(hs':Zh e'=true:=by rfl):PI X (.Tuple elts x1 tpos) (.Call (.Name "zip" p) [e,e'] [] pos) (tI m X.K E (QAq w w')):=by
 refine PI.imp (PI.len (Qs6 hg hm (Qel h (Qel h' ZP hs') hs) (by rw[YZ hs,YZ hs'];rfl) (hs2:=by rw[YZ hs'];rfl))) λσ H R _ ⟨F,δ,R',EX,rel,hw,k,o⟩=>?_
 refine⟨F,δ,_,EX,rel,hw,λd hd v H1 rel1 kp1 vk=>⟨F,δ,_,EX,rel1,hd,λd2 hd2 v2 H2 rel2 kp2 vk2=>?_,o⟩,o⟩;cases d<;>cases d2<;>first | exact(show False from hd2).elim | skip
 obtain⟨l,xs,rfl,sl,e,q⟩:=stL (H':=H2) (kp2.vd (QdO vk));obtain⟨l2,ys,rfl,sl2,e2,q2⟩:=stL (H':=H2) (QdO vk2);refine⟨l,l2,xs,ys,rfl,e,e2,λln=>k _ hd2 _ H2 rel2 (kp1.trans kp2) ⟨?_,λH3 A' kk mm dm=>⟨λi d hd'=>?_,xs,ys,kk _ _ sl e,kk _ _ sl2 e2,by rw[QfM,q.length,q2.length];omega⟩⟩⟩
 ·rw[QfM,<- q.length];exact Jb (Qvc _ _) (ln _ _ (.inl e))
 obtain⟨a,b,ha,hb,rfl⟩:=zip_get hd';obtain⟨x,hx,dx⟩:=(Qa1 (S:=Sx m F σ δ) (λb=>Qe9) kk mm q).get i a ha;obtain⟨y,hy,dy⟩:=(Qa1 (S:=Sx m F σ δ) (λb=>Qe9) kk mm q2).get i b hb;refine⟨⟨xs,ys,x,y,kk _ _ sl e,kk _ _ sl2 e2,hx,hy⟩,λz H4 ⟨r,x',y',nr,hx',hy',e1,e3⟩=>?_⟩;subst e1 e3;have h1:=hx' xs (kk _ _ sl e);have h2:=hy' ys (kk _ _ sl2 e2);rw[hx] at h1;rw[hy] at h2;cases h1;cases h2;exact⟨JC nr,Qgc dm nr dx dy⟩
theorem QoW{x1}(hg:Gl X "zip")(hm:X.mg "zip" = none)(h:PE X e (tX m X.K E w))(h':PE X e' (tX m X.K E w'))(hs:Zh e=true:=by rfl)(hs':Zh e'=true:=by rfl):PI X (.Tuple elts x1 tpos) (.Call (.Name "zip" p) [e,e'] [] pos) (tI m X.K E (QAp w w')):=by
 refine PI.imp (PI.len (Qwg hg hm (Qel h (Qel h' ZP hs') hs) (by rw[YZ hs,YZ hs'];rfl) (hs2:=by rw[YZ hs'];rfl))) λσ H R _ ⟨F,δ,R',EX,rel,hw,k,o⟩=>?_
 refine⟨F,δ,_,EX,rel,hw,λd hd v H1 rel1 kp1 vk=>⟨F,δ,_,EX,rel1,hd,λd2 hd2 v2 H2 rel2 kp2 vk2=>?_,o⟩,o⟩;cases d<;>cases d2<;>first | exact(show False from hd2).elim | skip
 obtain⟨l,xs,rfl,sl,e,q⟩:=stT (H':=H2) (kp2.vd (QdO vk));obtain⟨l2,ys,rfl,sl2,e2,q2⟩:=stT (H':=H2) (QdO vk2);refine⟨l,l2,xs,ys,rfl,e,e2,λln=>k _ hd2 _ H2 rel2 (kp1.trans kp2) ⟨?_,λH3 A' kk mm dm=>⟨λi d hd'=>?_,xs,ys,kk _ _ sl e,kk _ _ sl2 e2,by rw[QfM,q.length,q2.length];omega⟩⟩⟩
 ·rw[QfM,<- q.length];exact Jb (Qvc _ _) (ln _ _ (.inr e))
 obtain⟨a,b,ha,hb,rfl⟩:=zip_get hd';obtain⟨x,hx,dx⟩:=(Qa1 (S:=Sx m F σ δ) (λb=>Qe9) kk mm q).get i a ha;obtain⟨y,hy,dy⟩:=(Qa1 (S:=Sx m F σ δ) (λb=>Qe9) kk mm q2).get i b hb;refine⟨⟨xs,ys,x,y,kk _ _ sl e,kk _ _ sl2 e2,hx,hy⟩,λz H4 ⟨r,x',y',nr,hx',hy',e1,e3⟩=>?_⟩;subst e1 e3;have h1:=hx' xs (kk _ _ sl e);have h2:=hy' ys (kk _ _ sl2 e2);rw[hx] at h1;rw[hy] at h2;cases h1;cases h2;exact⟨JC nr,Qgc dm nr dx dy⟩
end
def QuI:Option Sl->Sl
 |some (.v d)=>.v d
 |some (.own ds)=>.pk ds
 |some (.pk ds)=>.pk ds
 |some .pot=>.pot
 |_=>.no
def Qep(cap:List (Option Nat))(δ:Sts):Sts:=cap.map λo=>match o with
 |none=>.no
 |some j=>QuI δ[j]?
theorem Qgu{cap:List (Option Nat)}{σ:L2.St}{i:Nat}{o:Option V}(h:(Qdg cap σ)[i]? = some o):(cap[i]? = some none/\o=none)∨∃j,cap[i]? = some (some j)/\o=(σ[j]?).getD none:=by
 unfold Qdg at h;rw[Qz] at h;obtain⟨c,hc,rfl⟩:=Zz.mp h;cases c with
 |none=>exact .inl ⟨hc,rfl⟩
 |some j=>exact .inr ⟨j,hc,rfl⟩
theorem Qgv{cap:List (Option Nat)}{δ:Sts}{i:Nat}{x:Sl}(h:(Qep cap δ)[i]? = some x):(cap[i]? = some none/\x=.no)∨∃j,cap[i]? = some (some j)/\x=QuI δ[j]? := by
 unfold Qep at h;rw[Qz] at h;obtain⟨c,hc,rfl⟩:=Zz.mp h;cases c with
 |none=>exact .inl ⟨hc,rfl⟩
 |some j=>exact .inr ⟨j,hc,rfl⟩
theorem Qa3{cap:List (Option Nat)}{σ:L2.St}{δ:Sts}{i:Nat}{o:Option V}{x:Sl}(h1:(Qdg cap σ)[i]? = some o)(h2:(Qep cap δ)[i]? = some x)(hx:x≠.no):∃(j:Nat)(y:Sl),δ[j]? = some y/\x=QuI (some y)/\o=(σ[j]?).getD none:=by
 rcases Qgv h2 with⟨_,e⟩ | ⟨j,hj,e⟩
 ·exact absurd e hx
 ·rcases Qgu h1 with⟨z,_⟩ | ⟨j',hj',e'⟩
  ·rw[hj] at z;cases z
  ·rw[hj] at hj';cases hj';cases e2:δ[j]? with
   |none=>rw[e2] at e;exact absurd e hx
   |some y=>exact⟨j,y,e2,by rw[e,e2],e'⟩
theorem QcD{cap:List (Option Nat)}{σ:L2.St}{δ:Sts}{a:Addr}(h:Yj (Qdg cap σ) (Qep cap δ) a):Yj σ δ a:=by
 obtain⟨i,h1,h2⟩:=h;obtain⟨j,y,hy,e,eo⟩:=Qa3 h1 h2 (λz=>by cases z);cases y<;>first | (cases e;done) | skip
 refine⟨j,?_,hy⟩;cases e2:σ[j]? with
 |none=>rw[e2] at eo;cases eo
 |some o'=>rw[e2] at eo;exact congrArg some eo.symm
def inF(A1:Addr->Prop)(cap:List (Option Nat))(σ:L2.St)(δ:Sts)(H:Hp):Fm:=⟨H,A1,Yj (Qdg cap σ) (Qep cap δ)⟩
theorem QjH{A1:Addr->Prop}{cap:List (Option Nat)}{σ:L2.St}{δ:Sts}{H:Hp}(h:∀a,Yj σ δ a->A1 a){a:Addr}:Av (inF A1 cap σ δ H) (Qdg cap σ) (Qep cap δ) a↔A1 a:=by
 constructor
 ·rintro(z | ⟨i,h1,h2⟩)
  ·exact z
  ·rcases h2 with h2 | ⟨ds,h2⟩
   ·exact h a (QcD ⟨i,h1,h2⟩)
   ·obtain⟨j,y,hy,e,eo⟩:=Qa3 h1 h2 (λz=>by cases z);cases y<;>cases e
 ·exact .inl
theorem QmJ{K:PySem.W.Frag}{F:Fm}{σ:L2.St}{δ:Sts}{H1 H3:Hp}{A1:Addr->Prop}{cap:List (Option Nat)}(rel:Rel K F σ H1 δ)(hA:∀a,Av F σ δ a->A1 a)(hN:∀a,A1 a->Av F σ δ a∨H1 a=none)
  (dm:∀a,A1 a->∃xs,H3 a=some (.lst xs))(kp:Kp σ δ H1 H3):Rel K (inF A1 cap σ δ H3) (Qdg cap σ) H3 (Qep cap δ) where
 len:=by unfold Qdg Qep;rw[Qe,Qe]
 dom:=dm
 dom0:=dm
 pt0:=λp hp=>⟨hA p (Y5 (QcD hp)),kp.2 p (QcD hp)⟩
 kx:=λb o _ e=>e
 sl:=λi o x h1 h2=>by
  have iv:∀{a:Addr},Av (inF A1 cap σ δ H3) (Qdg cap σ) (Qep cap δ) a->A1 a:=λ{a}=>(QjH λa z=>hA a (Y5 z)).mp
  have mv:∀{v:V}{d:Qb},DA (Av F σ δ) H1 v d->DA (Av (inF A1 cap σ δ H3) (Qdg cap σ) (Qep cap δ)) H3 v d:=λq=>q.mv (λa o n e=>kp.1 a o (λz=>n (Y5 z)) e) λa z=>hN a (iv z)
  have mvs:∀{v:List V}{d:List Qb},DAs (Av F σ δ) H1 v d->DAs (Av (inF A1 cap σ δ H3) (Qdg cap σ) (Qep cap δ)) H3 v d:=λq=>q.mv (λa o n e=>kp.1 a o (λz=>n (Y5 z)) e) λa z=>hN a (iv z)
  cases x with
  |no=>trivial
  |own ds=>
   obtain⟨j,y,hy,e,eo⟩:=Qa3 h1 h2 (λz=>by cases z);cases y<;>cases e
  |scr=>
   obtain⟨j,y,hy,e,eo⟩:=Qa3 h1 h2 (λz=>by cases z);cases y<;>cases e
  |v d=>
   obtain⟨j,y,hy,e,eo⟩:=Qa3 h1 h2 (λz=>by cases z);cases y<;>first | (cases e;done) | skip
   cases e;obtain⟨x,hx⟩:=rel.lt hy;obtain⟨v,rfl,q⟩:=rel.sl j _ _ hx hy;rw[hx] at eo;exact⟨v,eo,mv q⟩
  |pk ds=>
   obtain⟨j,y,hy,e,eo⟩:=Qa3 h1 h2 (λz=>by cases z);cases y<;>first | (cases e;done) | skip
   ·cases e;obtain⟨x,hx⟩:=rel.lt hy;obtain⟨l,xs,rfl,e,q,f⟩:=rel.sl j _ _ hx hy;rw[hx] at eo;have np:=rel.own_pot hy hx;exact⟨l,xs,eo,kp.1 _ _ np e,mvs q,xs,kp.1 _ _ np e,λz=>np (QcD z)⟩
   ·cases e;obtain⟨x,hx⟩:=rel.lt hy;obtain⟨l,xs,rfl,e,q,ys,f,f2⟩:=rel.sl j _ _ hx hy;rw[hx] at eo;have np:¬Yj σ δ l:=by
     rintro⟨j,j1,j2⟩;obtain⟨p,m,e1,_,w⟩:=rel.sl j _ _ j1 j2;cases e1;rcases w with w | w
     ·exact f2 w
     ·rw[w] at f;cases f
    exact⟨l,xs,eo,kp.1 _ _ np e,mvs q,xs,kp.1 _ _ np e,λz=>np (QcD z)⟩
  |pot=>
   obtain⟨j,y,hy,e,eo⟩:=Qa3 h1 h2 (λz=>by cases z);cases y<;>first | (cases e;done) | skip
   obtain⟨x,hx⟩:=rel.lt hy;obtain⟨p,n,rfl,e,q⟩:=rel.sl j _ _ hx hy;rw[hx] at eo;obtain⟨m,em⟩:=kp.2 p ⟨j,hx,hy⟩;have eo':o=some (.ref p):=eo;subst eo';exact⟨p,m,rfl,em,.inl ⟨i,h1,h2⟩⟩
 inj:=λi j a ds h1 h2 _=>by
  obtain⟨j,y,hy,e,eo⟩:=Qa3 h2 h1 (λz=>by cases z);cases y<;>cases e
theorem Qn4:∀{σ σ':L2.St},σ'.length=σ.length->(∀(i:Nat) v,σ[i]? = some (some v)->σ'[i]? = some (some v))->Wk σ σ'
 |[],[],_,_=>trivial
 |[],_::_,h,_=>by cases h
 |_::_,[],h,_=>by cases h
 |none::a,x::b,h,g=>Qn4 (σ:=a) (σ':=b) (by simpa using h) λi v e=>by simpa using g (i+1) v (by simpa using e)
 |some u::a,x::b,h,g=>by
  have h0:=g 0 u rfl;simp only[Qi0,Option.some.injEq] at h0;subst h0;exact⟨rfl,Qn4 (σ:=a) (σ':=b) (by simpa using h) λi v e=>by simpa using g (i+1) v (by simpa using e)⟩
def QbX(cap:List (Option Nat))(ix:List Nat):Bool:=ix.all λi=>match cap[i]? with
 |some none=>true
 |_=>false
theorem QrY{cap:List (Option Nat)}{ix:List Nat}(hf:QbX cap ix=true){σ σ4:L2.St}(hl:σ4.length=(Qdg cap σ).length)(hj:∀j,j∉ix->σ4[j]? = (Qdg cap σ)[j]?):Wk (Qdg cap σ) σ4:=by
 refine Qn4 hl λi v e=>?_
 by_cases z:i∈ix
 ·have:=Zi.mp hf i z;rcases Qgu e with⟨_,e2⟩ | ⟨j,hj2,_⟩
  ·cases e2
  ·rw[hj2] at this;cases this
 ·rw[hj i z];exact e
def XF:XP:=λ_=>False
@[irreducible] def QiY(items:List Qb)(wg:DG)(wt:DT)(we:DE)(δ:Sts)(Q:Qb->Prop):Prop:=∃Iv:Nat->List Qb->Prop,Iv 0 [] /\
 (∀(i:Nat) acc d,items[i]? = some d->Iv i acc->wg d δ λδ4=>wt δ4 (λb=>if b=true then we δ4 (λe=>Iv (i+1) (acc++[e])) XF else Iv (i+1) acc) XF)/\∀acc,Iv items.length acc->Q (.list acc)
def dComp(cap:List (Option Nat))(wi:DI)(wg:DG)(wt:DT)(we:DE):DE:=λδ Q EX=>wi δ (λitems=>QiY items wg wt we (Qep cap δ) Q) EX
def Qu1:DT:=λ_ Q _=>Q true
section
variable{X:Cx}{E:XK}
theorem Qma{F:Fm}{E:XK}:Out F E XF:=λ_ z=>z.elim
theorem PTs.imp{es:List Q3}{t t':TT}(h:PTs X es t)(i:∀σ H Q,t' σ H Q->t σ H Q):PTs X es t':=λpins s σ H Q I q=>h pins s σ H Q I (i σ H Q q)
theorem QoN:PTs X [] (tT X.K E Qu1):=PTs.imp QlT λσ H Q ⟨F,δ,R,EX,rel,hw,k,o⟩=>k _ hw H rel (Kp.refl rel)
theorem QoM{c:Q3}{t:DT}(h:PT X c (tT X.K E t)):PTs X [c] (tT X.K E t):=QlS h
theorem QiM{K:PySem.W.Frag}{A1:Addr->Prop}{cap:List (Option Nat)}{σ σ4:L2.St}{δ δ4:Sts}{H3 H4:Hp}(r:Rel K (inF A1 cap σ δ H3) σ4 H4 δ4)(hk:∀b o,¬Yj σ δ b->H4 b=some o->H3 b=none->False){b:Addr}(h:Yj σ4 δ4 b):Yj σ δ b:=by
 obtain⟨i,h1,h2⟩:=h;obtain⟨p,n,e,hp,w⟩:=r.sl i _ _ h1 h2;cases e;rcases w with w | w
 ·exact QcD w
 ·by_cases z:Yj σ δ b
  ·exact z
  ·exact(hk b _ z hp w).elim
theorem Qlm{K:PySem.W.Frag}{F:Fm}{σ:L2.St}{δ:Sts}{H1 H3:Hp}{cap:List (Option Nat)}{ix:List Nat}{wg:DG}{wt:DT}{A1:Addr->Prop}{x:V}{d:Qb}{inner:L2.St->Hp->(Hp->Prop)->Prop}{kk:Hp->Prop}{T:Sts->Prop}{N:Prop}
  (hf:QbX cap ix=true)(rel:Rel K F σ H1 δ)(hA:∀a,Av F σ δ a->A1 a)(hN:∀a,A1 a->Av F σ δ a∨H1 a=none)(dm:∀a,A1 a->∃xs,H3 a=some (.lst xs))(kp:Kp σ δ H1 H3)(dx:DA A1 H3 x d)
  (h:wg d (Qep cap δ) λδ4=>wt δ4 (λb=>if b=true then T δ4 else N) XF)
  (hT:∀σ4 δ4 H5,T δ4->Rel K (inF A1 cap σ δ H3) σ4 H5 δ4->Kp σ δ H3 H5->(∀b,Yj σ4 δ4 b->Yj σ δ b)->inner σ4 H5 kk)(hF:N->∀H5,Kp σ δ H3 H5->kk H5) :
  bOf (Qdg cap σ) (tG ix K wg) (tT K E0 wt) inner x H3 kk:=by
 have ri:=QmJ (cap:=cap) rel hA hN dm kp;have iv:∀{a:Addr},Av (inF A1 cap σ δ H3) (Qdg cap σ) (Qep cap δ) a->A1 a:=λ{a}=>(QjH λa z=>hA a (Y5 z)).mp
 refine⟨inF A1 cap σ δ H3,Qep cap δ,d,_,ri,dx.mv (λ_ _ _ e=>e) λa z=>.inl (iv z),h,λδ4 h4 σ4 r4 st4 l4 j4=>⟨QrY hf l4 j4,inF A1 cap σ δ H3,δ4,_,XF,r4,h4,λb hb H5 r5 kp5=>?_,Qma⟩⟩;have pots:∀{b:Addr},Yj σ4 δ4 b->Yj σ δ b:=λz=>QiM r4 (λb o _ e1 e2=>by rw[e2] at e1;cases e1) z
 have K5:Kp σ δ H3 H5:=by
  refine⟨λb o n e=>kp5.1 b o (λz=>n (pots z)) e,λb hb=>?_⟩;by_cases z:Yj σ4 δ4 b
  ·exact kp5.2 b z
  ·obtain⟨n,e⟩:=kp.2 b hb;exact⟨n,kp5.1 _ _ z e⟩
 exact QcZ hb (λz=>hT σ4 δ4 H5 z r5 K5 λb=>pots) λz=>hF z H5 K5
structure Lp (σ:L2.St) (δ:Sts) (A1:Addr->Prop) (p:Addr) (H1 H2:Hp) (acc:List Qb):Prop where
 kp:Kp σ δ H1 H2
 at_:∃ys,H2 p=some (.lst ys)/\DAs A1 H2 ys acc
theorem Lp.step{σ:L2.St}{δ:Sts}{A1:Addr->Prop}{p:Addr}{H1 H2 H3:Hp}{acc:List Qb}(hpA:∀a,Yj σ δ a->A1 a)(hpn:¬Yj σ δ p)(h:Lp σ δ A1 p H1 H2 acc)(k:Kp σ δ H2 H3):Lp σ δ A1 p H1 H3 acc:=by
 obtain⟨ys,e,q⟩:=h.at_;exact⟨h.kp.trans k,ys,k.1 _ _ hpn e,q.mv (λa o n e=>k.1 a o (λz=>n (hpA a z)) e) λa z=>.inl z⟩
theorem QrR{K:PySem.W.Frag}{σ σ4:L2.St}{δ δ4:Sts}{H1 H3 H5:Hp}{cap:List (Option Nat)}{we:DE}{A1:Addr->Prop}{p:Addr}{acc:List Qb}{kk:Hp->Prop}{G:Qb->Prop}
  (hpA:A1 p)(hP:∀a,Yj σ δ a->A1 a)(hp1:H1 p=none)(hpn:¬Yj σ δ p)(lp:Lp σ δ A1 p H1 H5 acc)(hl:acc.length<sizeLine)(r5:Rel K (inF A1 cap σ δ H3) σ4 H5 δ4)(pots:∀b,Yj σ4 δ4 b->Yj σ δ b)
  (h:we δ4 G XF)(hk:∀e,G e->∀H',Lp σ δ A1 p H1 H' (acc++[e])->kk H'):Qu2 p (tX .D K E0 we) σ4 H5 kk:=by
 refine⟨inF A1 cap σ δ H3,δ4,G,XF,r5,h,λe he v H6 r6 kp6 dv=>?_,Qma⟩;have k56:Kp σ δ H5 H6:=by
  refine⟨λb o n e=>kp6.1 b o (λz=>n (pots b z)) e,λb hb=>?_⟩;by_cases z:Yj σ4 δ4 b
  ·exact kp6.2 b z
  ·obtain⟨n,e⟩:=lp.kp.2 b hb;exact⟨n,kp6.1 _ _ z e⟩
 obtain⟨k6,ys,e6,q6⟩:=lp.step hP hpn k56;have up:∀{b:Addr}{o:HO},¬A1 b->H6 b=some o->upd H6 p (.lst (ys++[v])) b=some o:=λ{b o} n e=>by rw[JG (λz=>n (by rw[z];exact hpA))];exact e
 refine⟨ys,e6,by rw[q6.length];exact hl,hk e he _ ⟨⟨λb o n e=>?_,λb hb=>?_⟩,ys++[v],JB,DAs.app (q6.mv (λ_ _=>up) λa z=>.inl z) (.cons (DA.mv dv (λa o n e=>up (λz=>n (.inl z)) e) λa z=>.inl (.inl z)) .nil)⟩⟩
 ·rw[JG (λz=>by rw[z,hp1] at e;cases e)];exact k6.1 b o n e
 ·rw[JG (λz=>hpn (by rw[<- z];exact hb))];exact k6.2 b hb
theorem Qts{M:List Str}{cap:List (Option Nat)}{elt tg iter:Q3}{ifs:List Q3}{scope:YM}{pos:Pos}{ix:List Nat}{wi:DI}{wg:DG}{wt:DT}{we:DE}(hc:X.calm=true)(ok:QeV X.N X.env.scope M scope cap=true)(hf:QbX cap ix=true)
  (hi:PI X tg iter (tI .P X.K E wi))(hb:∀cl ex s3 H3 C,PG (blk X M scope cl ex s3 H3 C) tg (tG ix X.K wg)/\PTs (blk X M scope cl ex s3 H3 C) ifs (tT X.K E0 wt)/\PE (blk X M scope cl ex s3 H3 C) elt (tX .D X.K E0 we))
  (hs:∀x,foldedSetIterable iter X.env x=pure x:=by intro _;rfl):PE X (.ListComp elt [⟨tg,iter,ifs,0⟩] scope pos) (tX .F X.K E (dComp cap wi wg wt we)):=by
 refine PE.imp (Qjn hc ok hi hb hs) λσ H Q ⟨F,δ,R,EX,rel,hw,k,o⟩=>?_
 refine⟨F,δ,_,EX,rel,hw,λitems hC J H1 rel1 kp1 ⟨ln,it⟩ p hp=>?_,o⟩;unfold QiY at hC;obtain⟨Iv,i0,step,fin⟩:=hC;have hpn:¬Yj σ δ p:=λz=>by obtain⟨xs,e⟩:=rel1.isl (Y5 (F:=F) z);rw[hp] at e;cases e
 let A1:Addr->Prop:=λa=>Av F σ δ a∨a=p
 have hP:∀a,Yj σ δ a->A1 a:=λa z=>.inl (Y5 z)
 have hN:∀a,A1 a->Av F σ δ a∨H1 a=none:=λa z=>z.elim .inl λz=>.inr (by rw[z];exact hp)
 have dmK:∀{H2:Hp},Kp σ δ H1 H2->(∃ys,H2 p=some (.lst ys))->∀a,A1 a->∃xs,H2 a=some (.lst xs):=λ{H2} k2 e2 a z=>by
  rcases z with z | z
  ·exact(rel1.kp k2).isl z
  ·rw[z];exact e2
 refine Qdy items.length (λi H2=>i<=items.length/\∃acc,Iv i acc/\acc.length<=i/\Lp σ δ A1 p H1 H2 acc) ⟨Qu _,[],i0,Qj _,Kp.same rel1 (JC hp),[],JB,.nil⟩ (λi H2 hi ⟨_,acc,iv,hl,lp⟩=>?_) λH2 ⟨_,acc,iv,hl,lp⟩=>?_
 ·obtain⟨k2,ys,e2,q2⟩:=lp;obtain⟨go,_⟩:=it H2 A1 (λb o n e=>k2.1 b o n e) hN (dmK k2 ⟨ys,e2⟩);have hd:items[i]? = some items[i]:=Qf hi;obtain⟨g1,g2⟩:=go i _ hd;refine⟨g1,λx H3 y kk hk=>?_⟩;obtain⟨s3,dx⟩:=g2 x H3 y;have k23:=Kp.same (rel1.kp k2) s3;have lp3:Lp σ δ A1 p H1 H3 acc:=Lp.step hP hpn ⟨k2,ys,e2,q2⟩ k23;refine Qlm hf rel1 (λa z=>.inl z) hN (dmK lp3.kp ⟨ys,s3 _ _ e2⟩) lp3.kp dx (step i acc _ hd iv) (λσ4 δ4 H5 h5 r5 k5 pots=>?_) λh5 H5 k5=>hk _ ⟨hi,acc,h5,by omega,lp3.step hP hpn k5⟩
  exact QrR (.inr rfl) hP hp hpn (lp3.step hP hpn k5) (by omega) r5 pots h5 λe he H' lp'=>hk _ ⟨hi,acc++[e],he,by rw[Qw];show _+1<=_;omega,lp'⟩
 ·obtain⟨k2,ys,e2,q2⟩:=lp;obtain⟨_,st⟩:=it H2 A1 (λb o n e=>k2.1 b o n e) hN (dmK k2 ⟨ys,e2⟩);refine⟨st,k _ (fin acc iv) (.ref p) H2 (rel1.kp k2) (kp1.trans k2) ⟨.lst (λz=>?_) e2 (q2.mv (λ_ _ _ e=>e) λa z=>.inl (.inl z)),λl e1 _=>?_⟩⟩
  ·obtain⟨xs,e⟩:=rel1.isl z;rw[hp] at e;cases e
  ·cases e1;exact Qbv kp1 hp
theorem QxK{items:List Qb}{wg:DG}{wt:DT}{we:DE}{δ:Sts}{Q:Qb->Prop}(G:Qb->Option Qb)
  (h:∀d∈items,∀(k1:Prop)(k2:Qb->Prop),(G d=none->k1)->(∀e,G d=some e->k2 e)->wg d δ λδ4=>wt δ4 (λb=>if b=true then we δ4 k2 XF else k1) XF)(q:Q (.list (items.filterMap G))) :
  QiY items wg wt we δ Q:=by
 unfold QiY;refine⟨λi acc=>acc=(items.take i).filterMap G,by simp,λi acc d hd e=>?_,λacc e=>by rw[e,ZJ];exact q⟩;have hs:(items.take (i+1)).filterMap G=(items.take i).filterMap G++(G d).toList:=by
  rw[ZO,hd,ZG];cases e2:G d<;>simp[e2]
 have e:acc=(items.take i).filterMap G:=e;refine h d (QK hd) _ _ (λe2=>?_) λe' e2=>?_
 ·show acc=(items.take (i+1)).filterMap G;rw[hs,e2,e];simp
 ·show acc++[e']=(items.take (i+1)).filterMap G;rw[hs,e2,e];rfl
theorem Qcs{items:List Qb}{wg:DG}{we:DE}{δ:Sts}{Q:Qb->Prop}(G:Qb->Qb)
  (h:∀d∈items,∀(k2:Qb->Prop),k2 (G d)->wg d δ λδ4=>we δ4 k2 XF)(q:Q (.list (items.map G))) :
  QiY items wg Qu1 we δ Q:=by
 unfold QiY;refine⟨λi acc=>acc=(items.take i).map G,by simp,λi acc d hd e=>?_,λacc e=>by rw[e,ZJ];exact q⟩;have hs:(items.take (i+1)).map G=(items.take i).map G++[G d]:=by
  rw[ZO,hd,Zu];simp
 have e:acc=(items.take i).map G:=e;have hh:=h d (QK hd) (λe=>acc++[e]=(items.take (i+1)).map G) (by show acc++[G d]=_;rw[hs,e]);simp only[Qu1,if_true];exact hh
end
mutual
theorem Qna{A B:Addr->Prop}{H:Hp}:∀(d d':Qb)(x:V),DA A H x d->DA B H x d'->d=d'
 |.none,d',_,.non,h=>by cases h;rfl
 |.bool _,d',_,.bl _,h=>by cases h;rfl
 |.int _,d',_,.int _,h=>by cases h;rfl
 |.str _,d',_,.str _ _,h=>by cases h;rfl
 |.tuple ds,d',_,.tup (xs:=xs) n e q,h=>by
  cases h with
  |@tup a ys es n' e' q'=>
   rw[e] at e';cases e';rw[Qgq ds es xs q q']
  |@lst a ys es n' e' q'=>rw[e] at e';cases e'
  |@dct a n' e'=>rw[e] at e';cases e'
 |.list ds,d',_,.lst (xs:=xs) n e q,h=>by
  cases h with
  |@tup a ys es n' e' q'=>rw[e] at e';cases e'
  |@lst a ys es n' e' q'=>
   rw[e] at e';cases e';rw[Qgq ds es xs q q']
  |@dct a n' e'=>rw[e] at e';cases e'
 |.dict _,d',_,.dct n e,h=>by
  cases h with
  |@tup a ys es n' e' q'=>rw[e] at e';cases e'
  |@lst a ys es n' e' q'=>rw[e] at e';cases e'
  |@dct a n' e'=>rfl
theorem Qgq{A B:Addr->Prop}{H:Hp}:∀(ds es:List Qb)(xs:List V),DAs A H xs ds->DAs B H xs es->ds=es
 |[],es,_,.nil,h=>by cases h;rfl
 |d::ds,es,_,.cons q qs,h=>by
  cases h with
  |@cons x xs e es q' qs'=>rw[Qna d e _ q q',Qgq ds es _ qs qs']
end
mutual
theorem Qxz{A:Addr->Prop}{H:Hp}{l:Addr}{rs:List Qb}(root:DA A H (.ref l) (.list rs)):∀(d:Qb)(x:V),sizeOf d<sizeOf (QkV rs)->DA A H x d->DA (λa=>A a∨a=l) H x d
 |.none,_,_,.non=>.non
 |.bool _,_,_,.bl _=>.bl _
 |.int _,_,_,.int _=>.int _
 |.str _,_,_,.str _ c=>.str _ c
 |.tuple ds,_,hs,.tup (a:=a) (xs:=xs) n e q=>.tup (λz=>z.elim n λz=>by subst z;cases root with | @lst _ ys _ n' e' q'=>(rw[e] at e';cases e')) e (Qgr root ds xs (by simp at hs ⊢;omega) q)
 |.list ds,_,hs,.lst (a:=a) (xs:=xs) n e q=>.lst (λz=>z.elim n λz=>by
   subst z;have:=Qna _ _ _ root (.lst n e q);rw[this] at hs;omega) e (Qgr root ds xs (by simp at hs ⊢;omega) q)
 |.dict _,_,hs,.dct (a:=a) n e=>.dct (λz=>z.elim n λz=>by subst z;cases root with | @lst _ ys _ n' e' q'=>(rw[e] at e';cases e')) e
theorem Qgr{A:Addr->Prop}{H:Hp}{l:Addr}{rs:List Qb}(root:DA A H (.ref l) (.list rs)):∀(ds:List Qb)(xs:List V),sizeOf ds<sizeOf (QkV rs)->DAs A H xs ds->DAs (λa=>A a∨a=l) H xs ds
 |[],_,_,.nil=>.nil
 |d::ds,_,hs,.cons q qs=>.cons (Qxz root d _ (by simp at hs ⊢;omega) q) (Qgr root ds _ (by simp at hs ⊢;omega) qs)
end
theorem DA.items{A:Addr->Prop}{H:Hp}{l:Addr}{ds:List Qb}(root:DA A H (.ref l) (.list ds)):∃xs,H l=some (.lst xs)/\DAs (λa=>A a∨a=l) H xs ds:=by
 have root':=root;cases root with
 |@lst _ xs _ n e q=>exact⟨xs,e,Qgr root' ds xs (by simp) q⟩
structure Qeb where
 nx:Sts->Prop
 rt:Qb->Prop
 rtF:Qb->Prop
 bk:Sts->Prop
 ct:Sts->Prop
 ex:XP
abbrev DS:=Qeb->Sts->Prop
structure Nx (K:PySem.W.Frag) (F:Fm) (σ:L2.St) (H:Hp) (δ:Sts) (R:Sts->Prop) (T:L2.St->Hp->Prop):Prop where
 go:∀δ',R δ'->∀σ' H',Rel K F σ' H' δ'->Stp F σ H δ σ' H' δ'->T σ' H'
structure Ends1 (K:PySem.W.Frag) (E:XK) (F:Fm) (σ:L2.St) (H:Hp) (δ:Sts) (DD:Qeb) (D:Ends):Prop where
 nx:Nx K F σ H δ DD.nx D.nx
 rt:∀d,DD.rt d->∀v H',Ke F H'->DA F.A0 H' v d->D.rt v H'
 rtF:∀d,DD.rtF d->∀v H',Ke F H'->DA F.A0 H' v d->FrV F.H0 H' v->D.rt v H'
 bk:Nx K F σ H δ DD.bk D.bk
 ct:Nx K F σ H δ DD.ct D.ct
 ex:Out F E DD.ex
def tS(K:PySem.W.Frag)(E:XK)(w:DS):TS:=λD σ H=>∃(F:Fm)(δ:Sts)(DD:Qeb),Rel K F σ H δ/\w DD δ/\Ends1 K E F σ H δ DD D
theorem Nx.step{K:PySem.W.Frag}{F:Fm}{σ σ1:L2.St}{H H1:Hp}{δ δ1:Sts}{R:Sts->Prop}{T:L2.St->Hp->Prop}(h:Nx K F σ H δ R T)(s:Stp F σ H δ σ1 H1 δ1):Nx K F σ1 H1 δ1 R T:=⟨λδ' hR σ' H' r st=>h.go δ' hR σ' H' r (s.trans st)⟩
theorem Ends1.step{K:PySem.W.Frag}{E:XK}{F:Fm}{σ σ1:L2.St}{H H1:Hp}{δ δ1:Sts}{DD:Qeb}{D:Ends}(h:Ends1 K E F σ H δ DD D)(s:Stp F σ H δ σ1 H1 δ1):Ends1 K E F σ1 H1 δ1 DD D:=⟨h.nx.step s,h.rt,h.rtF,h.bk.step s,h.ct.step s,h.ex⟩
section
variable{X:Cx}{E:XK}
theorem PS.imp{e:Yt}{t t':TS}(h:PS X e t)(i:∀D σ H,t' D σ H->t D σ H):PS X e t':=λpins s σ H D I q=>h pins s σ H D I (i D σ H q)
theorem PSs.imp{e:List Yt}{t t':TS}(h:PSs X e t)(i:∀D σ H,t' D σ H->t D σ H):PSs X e t':=λpins s σ H D I q=>h pins s σ H D I (i D σ H q)
def QAt(a b:DS):DS:=λD δ=>a { D with nx:=b D } δ
def QxB:DS:=λD δ=>D.nx δ
theorem QoO:PSs X [] (tS X.K E QxB):=PSs.imp Qgb λD σ H ⟨F,δ,DD,rel,hw,en⟩=>en.nx.go δ hw σ H rel Stp.refl
theorem Qtj{st:Yt}{w:DS}(h:PS X st (tS X.K E w)):PSs X [st] (tS X.K E w):=Qbb h
theorem QoT{st:Yt}{rest:List Yt}{w w':DS}(h:PS X st (tS X.K E w))(h':PSs X rest (tS X.K E w')):PSs X (st::rest) (tS X.K E (QAt w w')):=by
 refine PSs.imp (ZM h h') λD σ H ⟨F,δ,DD,rel,hw,en⟩=>?_
 exact⟨F,δ,_,rel,hw,⟨λδ' h' σ' H' r st=>⟨F,δ',DD,r,h',en.step st⟩⟩,en.rt,en.rtF,en.bk,en.ct,en.ex⟩
def Qyl(i:Nat)(we:DE):DS:=λD δ=>we δ (λd=>D.nx (δ.set i (.v d))) D.ex
def Quv(i:Nat)(we:DE):DS:=λD δ=>we δ (λd=>match d with
 |.list ds=>D.nx (δ.set i (.own ds))
 |_=>False) D.ex
def QxC(i:Nat)(we:DE):DS:=λD δ=>we δ (λd=>match d with
 |.list [.int _]=>D.nx (δ.set i .pot)
 |_=>False) D.ex
variable{i:Nat}{e:Q3}{st:Yt}{we wi:DE}
theorem Qiw(h:PS X st (Qrh (tX .D X.K E we) (Qd9 i))):PS X st (tS X.K E (Qyl i we)):=by
 refine PS.imp h λD σ H ⟨F,δ,DD,rel,hw,en⟩=>?_
 refine⟨F,δ,_,DD.ex,rel,hw,λd hd v H' rel' kp vk=>?_,en.ex⟩;exact en.nx.go _ hd _ H' (rel'.setv vk) ((Stp.kp kp).trans Stp.setv)
theorem Qr2{F:Fm}{σ:L2.St}{δ:Sts}{i:Nat}{l:Addr}{x:Sl}{a:Addr}(h:Av F (σ.set i (some (.ref l))) (δ.set i x) a):Av F σ δ a∨a=l:=by
 rcases h with h | ⟨j,h1,h2⟩
 ·exact .inl (.inl h)
 ·by_cases z:j=i
  ·subst z;cases set_eq h1;exact .inr rfl
  ·rw[QbC z] at h1 h2;exact .inl (.inr ⟨j,h1,h2⟩)
theorem Rel.seto{K:PySem.W.Frag}{F:Fm}{σ:L2.St}{H H':Hp}{δ:Sts}{l:Addr}{x:Sl}(r:Rel K F σ H δ)(r':Rel K F σ H' δ)(kp:Kp σ δ H H')(n:H l=none)(hx:∀A:Addr->Prop,(∀a,A a->Av F σ δ a∨H a=none)->(∀a,A a->Av F σ δ a∨a=l)->QAE K F H' A (some (.ref l)) x) :
  Rel K F (σ.set i (some (.ref l))) H' (δ.set i x)/\Stp F σ H δ (σ.set i (some (.ref l))) H' (δ.set i x):=by
 have nA:∀a,Av F (σ.set i (some (.ref l))) (δ.set i x) a->Av F σ δ a∨H a=none:=λa z=>(Qr2 z).elim .inl λz=>.inr (by rw[z];exact n)
 have kk:∀a o,¬Av F σ δ a->H a=some o->H' a=some o:=λa o m e=>kp.1 a o (λz=>m (Y5 z)) e
 refine⟨?_,⟨kk,nA⟩⟩;exact{
  len:=by rw[Yg,Yg];exact r.len
  dom:=r'.dom
  dom0:=r'.dom0
  pt0:=r'.pt0
  kx:=r'.kx
  sl:=λj o y h1 h2=>by
   by_cases z:j=i
   ·subst z;cases set_eq h1;cases set_eq h2;exact hx _ nA λa z=>Qr2 z
   ·rw[QbC z] at h1 h2;have h:=r.sl j o y h1 h2;have h':=r'.sl j o y h1 h2;cases y with
    |no=>trivial
    |v d=>obtain⟨v',e,q'⟩:=h;exact⟨v',e,q'.mv kk nA⟩
    |own ds=>obtain⟨l',xs,rfl,e2,q',f⟩:=h;exact⟨l',xs,rfl,kp.1 _ _ (r.own_pot h2 h1) e2,q'.mv kk nA,f⟩
    |pk ds=>
     obtain⟨l',xs,rfl,e2,q',ys,f,f2⟩:=h;refine⟨l',xs,rfl,kp.1 _ _ ?_ e2,q'.mv kk nA,ys,f,f2⟩;rintro⟨j,j1,j2⟩;obtain⟨p,m,e1,_,w⟩:=r.sl j _ _ j1 j2;cases e1;rcases w with w | w
     ·exact f2 w
     ·rw[w] at f;cases f
    |pot=>exact h'
    |scr=>exact h'
  inj:=λj k a ds h1 h2 ⟨h3,h4⟩=>by
   have ne:∀(k:Nat),k≠i->σ[k]? = some (some (.ref l))->(δ[k]? = some .pot∨∃ds,δ[k]? = some (.own ds))->False:=λk _ h3 h4=>by
    obtain⟨xs,e⟩:=r.isl (a:=l) (.inr ⟨k,h3,h4⟩);rw[n] at e;cases e
   by_cases z:j=i
   ·subst z;cases set_eq h2;by_cases z2:k=j
    ·exact z2.symm
    ·rw[QbC z2] at h3 h4;exact(ne k z2 h3 h4).elim
   ·rw[QbC z] at h1 h2;by_cases z2:k=i
    ·subst z2;cases set_eq h3;exact(ne j z h2 (.inr ⟨ds,h1⟩)).elim
    ·rw[QbC z2] at h3 h4;exact r.inj j k a ds h1 h2 ⟨h3,h4⟩ }
theorem QmR{K:PySem.W.Frag}{F:Fm}{σ:L2.St}{H:Hp}{δ:Sts}(r:Rel K F σ H δ){l:Addr}(n:H l=none):F.H0 l=none:=by
 cases e:F.H0 l with
 |none=>rfl
 |some o=>
  by_cases z:F.pt l
  ·obtain⟨_,m,e'⟩:=r.pt0 l z;rw[n] at e';cases e'
  ·rw[r.kx l o z e] at n;cases n
theorem Qjo(h:PS X st (Qrh (tX .F X.K E we) (Qd9 i))):PS X st (tS X.K E (Quv i we)):=by
 refine PS.imp h λD σ H ⟨F,δ,DD,rel,hw,en⟩=>?_
 refine⟨F,δ,_,DD.ex,rel,hw,λd hd v H' rel' kp ⟨vk,fr⟩=>?_,en.ex⟩;obtain⟨ds,rfl⟩:∃ds,d=.list ds:=by cases d<;>first | exact⟨_,rfl⟩ | exact(show False from hd).elim
 obtain⟨l,rfl⟩:∃l,v=.ref l:=by cases vk;exact⟨_,rfl⟩
 obtain⟨xs,e,q⟩:=DA.items vk;have n:=fr l rfl ⟨xs,e⟩;obtain⟨r2,st⟩:=rel.seto (i:=i) (x:=.own ds) rel' kp n λA hA hB=>⟨l,xs,rfl,e,q.mv (λ_ _ _ e=>e) λa z=>.inl (hB a z),QmR rel n⟩
 exact en.nx.go _ hd _ H' r2 st
theorem QoP(h:PS X st (Qrh (tX .F X.K E we) (Qd9 i))):PS X st (tS X.K E (QxC i we)):=by
 refine PS.imp h λD σ H ⟨F,δ,DD,rel,hw,en⟩=>?_
 refine⟨F,δ,_,DD.ex,rel,hw,λd hd v H' rel' kp ⟨vk,fr⟩=>?_,en.ex⟩;split at hd
 ·cases vk with
  |@lst l xs ds na e q=>
   have n:=fr l rfl ⟨xs,e⟩;cases q with
   |cons q1 q2=>
    cases q1;cases q2;obtain⟨r2,st⟩:=rel.seto (i:=i) (x:=.pot) rel' kp n λA hA hB=>⟨l,_,rfl,e,.inr (QmR rel n)⟩
    exact en.nx.go _ hd _ H' r2 st
 ·exact hd.elim
def QAu(we:DE):DS:=λD δ=>we δ D.rt D.ex
def QxE(we:DE):DS:=λD δ=>we δ D.rtF D.ex
theorem Quu{F:Fm}{σ:L2.St}{δ:Sts}{H:Hp}{v:V}{d:Qb}(h:DA (Av F σ δ) H v d):DA F.A0 H v d:=h.mv (λ_ _ _ e=>e) λa z=>.inl (.inl z)
theorem Qth{e:Q3}{pos:Pos}(h:PE X e (tX .D X.K E we)):PS X (.Return (some e) pos) (tS X.K E (QAu we)):=by
 refine PS.imp (QbS h) λD σ H ⟨F,δ,DD,rel,hw,en⟩=>?_
 exact⟨F,δ,_,DD.ex,rel,hw,λd hd v H' rel' kp vk=>en.rt d hd v H' rel'.ke (Quu vk),en.ex⟩
theorem QoR{e:Q3}{pos:Pos}(h:PE X e (tX .F X.K E we)):PS X (.Return (some e) pos) (tS X.K E (QxE we)):=by
 refine PS.imp (QbS h) λD σ H ⟨F,δ,DD,rel,hw,en⟩=>?_
 exact⟨F,δ,_,DD.ex,rel,hw,λd hd v H' rel' kp vk=>en.rtF d hd v H' rel'.ke (Quu vk.1) λl e1 e2=>QmR rel (vk.2 l e1 e2),en.ex⟩
def Quw(i:Nat):DS:=λD δ=>match δ[i]? with
 |some (.own ds)=>D.rtF (.list ds)
 |some (.v d)=>D.rt d
 |_=>False
theorem QoQ{e:Q3}{pos:Pos}(h:PE X e (QhZ i)):PS X (.Return (some e) pos) (tS X.K E (Quw i)):=by
 refine PS.imp (QbS h) λD σ H ⟨F,δ,DD,rel,hw,en⟩=>?_
 unfold Quw at hw;split at hw
 ·rename_i ds hd
  obtain⟨x,hx⟩:=rel.lt hd;obtain⟨l,xs,rfl,e,q,f⟩:=rel.sl i _ _ hx hd;refine⟨_,hx,en.rtF _ hw _ H rel.ke (.lst (λz=>?_) e (q.mv (λ_ _ _ e=>e) λa z=>.inl (.inl z))) λl' e1 _=>by cases e1;exact f⟩;obtain⟨ys,e'⟩:=rel.dom0 l z;rw[f] at e';cases e'
 ·rename_i d hd
  obtain⟨x,hx⟩:=rel.lt hd;obtain⟨v,rfl,q⟩:=rel.sl i _ _ hx hd;exact⟨v,hx,en.rt _ hw _ H rel.ke (Quu q)⟩
 ·exact hw.elim
def dIf(t:DT)(a b:DS):DS:=λD δ=>t δ (λc=>if c=true then a D δ else b D δ) D.ex
theorem Qwr{c:Q3}{a b:List Yt}{pos:Pos}{t:DT}{w w':DS}(hc:PT X c (tT X.K E t))(ha:PSs X a (tS X.K E w))(hb:PSs X b (tS X.K E w')):PS X (.If c a b pos) (tS X.K E (dIf t w w')):=by
 refine PS.imp (QoC hc ha hb) λD σ H ⟨F,δ,DD,rel,hw,en⟩=>?_
 exact⟨F,δ,_,DD.ex,rel,hw,λb hb H' rel' kp=>QcZ hb (λz=>⟨F,δ,DD,rel',z,en.step (Stp.kp kp)⟩) λz=>⟨F,δ,DD,rel',z,en.step (Stp.kp kp)⟩,en.ex⟩
theorem Ql2{sts:List Yt}:PSs X sts (tS X.K E λ_ _=>False):=λpins s σ H D I ⟨F,δ,DD,rel,hw,en⟩=>hw.elim
def QzN(i:Nat)(rD:Qb->Qb->(Qb->Prop)->Prop)(we:DE):DS:=λD δ=>match δ[i]? with
 |some (.v d)=>we δ (λe=>rD d e (λz=>D.nx (δ.set i (.v z)))) D.ex
 |_=>False
theorem Qtm{r:TIp}{rD:Qb->Qb->(Qb->Prop)->Prop}(hd:QuP r rD)(h:PS X st (QzW i (tX .P X.K E we) (λx y H Q=>Qc5 H->r x y H Q))):PS X st (tS X.K E (QzN i rD we)):=by
 refine PS.imp h λD σ H ⟨F,δ,DD,rel,hw,en⟩=>?_
 unfold QzN at hw;split at hw
 ·rename_i d hd'
  obtain⟨x,hx⟩:=rel.lt hd';obtain⟨v,rfl,q⟩:=rel.sl i _ _ hx hd';refine⟨v,hx,F,δ,_,DD.ex,rel,hw,λe he y H' rel' kp yk ln=>?_,en.ex⟩;refine hd (Av F σ δ) (Yj σ δ) H' v y d e _ _ ln (λa ha=>rel'.isl ha) (.inl (kp.da q)) yk he λz hz u H2 s du=>?_
  exact en.nx.go _ hz _ H2 ((rel'.same s).setv du) (((Stp.kp kp).trans (Stp.kp (Kp.same rel' s))).trans Stp.setv)
 ·exact hw.elim
theorem QtM:QuP (rI CMul λi j=>.int (i*j)) (iiD CMul λi j=>.int (i*j)):=λA P H x y d1 d2 R Q ln dm hx hy h k=>by
 cases d1<;>cases d2<;>first | exact h.elim | skip
 rw[hx.int,hy.int];exact⟨_,_,rfl,rfl,h.1,k _ h.2 _ H (Same.refl H) (.int _)⟩
theorem PIp.len{op:Qed}{t:TIp}(h:PIp X op t):PIp X op (λx y H Q=>Qc5 H->t x y H Q):=λpins s σ H x y v u Q I rx ry q=>h pins s σ H x y v u Q I rx ry (q (Inv.lens I))
@[irreducible] def Qu3(items:List Qb)(wg:DG)(wb:DS)(D:Qeb)(δ:Sts):Prop:=∃Iv:Nat->Sts->Prop,Iv 0 δ/\(∀(i:Nat) d δ,items[i]? = some d->Iv i δ->wg d δ λδ2=>wb { D with nx:=Iv (i+1),ct:=Iv (i+1),bk:=D.nx } δ2)/\∀δ,Iv items.length δ->D.nx δ
def dFor(wi:DI)(wg:DG)(wb:DS):DS:=λD δ=>wi δ (λitems=>Qu3 items wg wb D δ) D.ex
theorem Qtl{tg iter:Q3}{body:List Yt}{pos:Pos}{ix:List Nat}{wi:DI}{wg:DG}{wb:DS}(hp:PassesOwn (model X.prog X.w) X.A X.env X.xe)(hc:X.calm=true)(hi:PI X tg iter (tI .D X.K E wi))(hg:PG X tg (tG ix X.K wg))(hb:PSs X body (tS X.K E wb))
  (hs:∀x,foldedSetIterable iter X.env x=pure x:=by intro _;rfl):PS X (.For tg iter body [] pos) (tS X.K E (dFor wi wg wb)):=by
 refine PS.imp (Qrw hp hc hi hg hb hs) λD σ H ⟨F,δ,DD,rel,hw,en⟩=>?_
 refine⟨F,δ,_,DD.ex,rel,hw,λitems hC J H1 rel1 kp1 ⟨ln,it⟩=>?_,en.ex⟩;unfold Qu3 at hC;obtain⟨Iv,i0,step,fin⟩:=hC;have en1:=en.step (Stp.kp (F:=F) kp1);refine⟨λi m σ' H'=>m=items.length - i/\i<=items.length/\∃δ',Iv i δ'/\Rel X.K F σ' H' δ'/\Stp F σ H1 δ σ' H' δ',⟨_,rfl,Qu _,δ,i0,rel1,Stp.refl⟩,?_⟩;rintro i m σ' H' ⟨rfl,hi',δ',iv,r',st'⟩;obtain⟨go,stop⟩:=it H' (Av F σ' δ') st'.1 st'.2 λa ha=>r'.isl ha
 by_cases hlt:i<items.length
 ·have hd:items[i]? = some items[i]:=Qf hlt;obtain⟨g1,g2⟩:=go i _ hd;refine .inr ⟨g1,λσ2 H2=>∃δ2,Iv (i+1) δ2/\Rel X.K F σ2 H2 δ2/\Stp F σ H1 δ σ2 H2 δ2,λσ2 H2 ⟨δ2,h2,r2,s2⟩=>⟨_,by omega,rfl,hlt,δ2,h2,r2,s2⟩,λx H3 y=>?_⟩;obtain⟨s3,dx⟩:=g2 x H3 y;have r3:=r'.same s3;have st3:Stp F σ H1 δ σ' H3 δ':=st'.trans (Stp.kp (Kp.same r' s3));refine⟨F,δ',_,_,r3,dx,step i _ δ' hd iv,λδ4 h4 σ4 r4 st4 _ _=>⟨F,δ4,_,r4,h4,?_⟩⟩;have st5:=st3.trans st4;exact⟨⟨λδ6 h6 σ6 H6 r6 s6=>⟨δ6,h6,r6,st5.trans s6⟩⟩,en.rt,en.rtF,(en1.step st5).nx,⟨λδ6 h6 σ6 H6 r6 s6=>⟨δ6,h6,r6,st5.trans s6⟩⟩,en.ex⟩
 ·have e:i=items.length:=by omega
  subst e;exact .inl ⟨stop,(en1.step st').nx.go δ' (fin δ' iv) σ' H' r' Stp.refl⟩
theorem QiN{lo:Int}{n:Nat}{wg:DG}{wb:DS}{D:Qeb}{δ:Sts}(Iv:Nat->Sts->Prop)(h0:Iv 0 δ)
  (hs:∀(i:Nat) δ,i<n->Iv i δ->wg (.int (lo+i)) δ λδ2=>wb { D with nx:=Iv (i+1),ct:=Iv (i+1),bk:=D.nx } δ2)(hd:∀δ,Iv n δ->D.nx δ):Qu3 (QlG lo n) wg wb D δ:=by
 unfold Qu3;exact⟨Iv,h0,λi d δ hd iv=>by obtain⟨hi,rfl⟩:=Qcw hd;exact hs i δ hi iv,λδ iv=>hd δ (by rw[Qin] at iv;exact iv)⟩
theorem Qhz{items:List Qb}{wg:DG}{wb:DS}{D:Qeb}{δ:Sts}(Iv:Nat->Sts->Prop)(h0:Iv 0 δ)
  (hs:∀(i:Nat) d δ,items[i]? = some d->Iv i δ->wg d δ λδ2=>wb { D with nx:=Iv (i+1),ct:=Iv (i+1),bk:=D.nx } δ2)(hd:∀δ,Iv items.length δ->D.nx δ):Qu3 items wg wb D δ:=by
 unfold Qu3;exact⟨Iv,h0,hs,hd⟩
def QrV(C:Addr)(we:DE):DS:=λD δ=>we δ (λ_=>D.ex C) D.ex
theorem Ql1{C:Addr}(h:PS X st (Rx.Qrf E C (tX .P X.K E we))):PS X st (tS X.K E (QrV C we)):=by
 refine PS.imp h λD σ H ⟨F,δ,DD,rel,hw,en⟩=>?_
 exact⟨F,δ,_,DD.ex,rel,hw,λd hd v H' rel' kp vk=>en.ex C hd H' rel'.ke,en.ex⟩
def Quy(we:DE):DS:=λD δ=>we δ (λ_=>D.nx δ) D.ex
theorem QoS(h:PS X st (Qvz (tX .P X.K E we))):PS X st (tS X.K E (Quy we)):=by
 refine PS.imp h λD σ H ⟨F,δ,DD,rel,hw,en⟩=>?_
 exact⟨F,δ,_,DD.ex,rel,hw,λd hd v H' rel' kp vk=>en.nx.go δ hd σ H' rel' (Stp.kp kp),en.ex⟩
end
def stD(N:List Str)(args:List Sl):Sts:=args++Q1 (N.length - args.length) .no
theorem Qfp{α β:Type}{R:α->β->Prop}:∀{xs:List α}{ys:List β},Yu R xs ys->∀(i:Nat) x y,xs[i]? = some x->ys[i]? = some y->R x y
 |_,_,.nil,i,x,y,h,_=>by simp at h
 |_,_,.cons a b,0,x,y,h,h'=>by simp at h h';subst h h';exact a
 |_,_,.cons a b,i+1,x,y,h,h'=>Qfp b i x y (by simpa using h) (by simpa using h')
theorem Qg3{K:PySem.W.Frag}{N:List Str}{A pt:Addr->Prop}{H:Hp}{vs:List V}{args:List Sl}(dm:∀a,A a->∃xs,H a=some (.lst xs))(hp:∀p,pt p->A p/\∃n,H p=some (.lst [.int n]))(q:Yu (QhS A pt H) vs args):Rel K ⟨H,A,pt⟩ (L2.start N vs) H (stD N args):=by
 have hl:vs.length=args.length:=q.length;have no:∀(i:Nat) x,(stD N args)[i]? = some x->(i<args.length/\args[i]? = some x)∨x=.no:=λi x h=>by
  unfold stD at h;by_cases z:i<args.length
  ·rw[ZD z] at h;exact .inl ⟨z,h⟩
  ·rw[Ji (by omega),Qb5] at h;split at h
   ·exact .inr (QB h).symm
   ·cases h
 have arg:∀(i:Nat) o x,(L2.start N vs)[i]? = some o->(stD N args)[i]? = some x->x≠.no->∃v,o=some v/\QhS A pt H v x:=λi o x h1 h2 hx=>by
  rcases no i x h2 with⟨z,e⟩ | e
  ·unfold L2.start at h1;rw[ZD (by rw[Qe];omega),Qz] at h1;obtain⟨v,hv,rfl⟩:=Zz.mp h1;exact⟨v,rfl,Qfp q i v x hv e⟩
  ·exact absurd e hx
 have av:∀a,Av ⟨H,A,pt⟩ (L2.start N vs) (stD N args) a->A a:=λa z=>by
  rcases z with z | ⟨i,h1,h2⟩
  ·exact z
  ·rcases h2 with h2 | ⟨ds,h2⟩
   ·obtain⟨v,e,p,rfl,hp'⟩:=arg i _ _ h1 h2 (λz=>by cases z);cases e;exact(hp _ hp').1
   ·obtain⟨v,e,hh⟩:=arg i _ _ h1 h2 (λz=>by cases z);exact hh.elim
 exact{
  len:=by unfold L2.start stD;rw[Qw,Qw,Qe,QcJ,QcJ,hl]
  dom:=dm
  dom0:=dm
  pt0:=hp
  kx:=λ_ _ _ e=>e
  sl:=λi o x h1 h2=>by
   cases x with
   |no=>trivial
   |v d=>
    obtain⟨v,e,hh⟩:=arg i _ _ h1 h2 (λz=>by cases z);exact⟨v,e,DA.mv hh (λ_ _ _ e=>e) λa z=>.inl (av a z)⟩
   |pot=>
    obtain⟨v,e,p,rfl,hp'⟩:=arg i _ _ h1 h2 (λz=>by cases z);obtain⟨_,n,en⟩:=hp p hp';exact⟨p,n,e,en,.inl hp'⟩
   |own ds=>obtain⟨v,e,hh⟩:=arg i _ _ h1 h2 (λz=>by cases z);exact hh.elim
   |pk ds=>obtain⟨v,e,hh⟩:=arg i _ _ h1 h2 (λz=>by cases z);exact hh.elim
   |scr=>obtain⟨v,e,hh⟩:=arg i _ _ h1 h2 (λz=>by cases z);exact hh.elim
  inj:=λi j a ds h1 h2 _=>by
   obtain⟨v,e,hh⟩:=arg i _ _ h2 h1 (λz=>by cases z);exact hh.elim }
def QA3:Qb->Bool
 |.list _=>false
 |_=>true
def rtD:Bool->(Qb->Prop)->Qb->Prop
 |true,R,d=>QA3 d=true/\R d
 |false,R,d=>R d
def Qm2(fr:Bool)(R:Qb->Prop)(EX:XP):Qeb:=⟨λ_=>R .none,rtD fr R,R,λ_=>False,λ_=>False,EX⟩
theorem Qm1{K:PySem.W.Frag}{E Ex:XK}{fr:Bool}{A pt:Addr->Prop}{H:Hp}{R:Qb->Prop}{EX EX':XP}{Q:VK}{σ:L2.St}{δ:Sts}(k:∀d,R d->∀v H',Kq pt H H'->DA A H' v d->(fr=true->FrV H H' v)->Q v H')(o:Out ⟨H,A,pt⟩ E EX') :
  Ends1 K E ⟨H,A,pt⟩ σ H δ (Qm2 fr R EX') { nx:=λ_ H'=>Q .non H',rt:=Q } where
 nx:=⟨λδ' hR σ' H' r st=>k _ hR _ H' r.ke .non λ_=>Qul⟩
 rt:=λd h v H' ke dv=>by
  cases fr with
  |false=>exact k d h v H' ke dv λz=>by cases z
  |true=>
   obtain⟨h1,h2⟩:=h;refine k d h2 v H' ke dv λz l e1 ⟨xs,e2⟩=>?_
   subst e1;cases dv with
   |@tup a ys ds n e q=>rw[e] at e2;cases e2
   |@lst a ys ds n e q=>cases h1
   |@dct a n e=>rw[e] at e2;cases e2
 rtF:=λd h v H' ke dv fr'=>k d h v H' ke dv λ_=>fr'
 bk:=⟨λ_ h=>h.elim⟩
 ct:=⟨λ_ h=>h.elim⟩
 ex:=o
section
variable{P:QC}{w:Ja}{K:PySem.W.Frag}{mg:Str->Option Value}{base:Heap}
theorem okD{x qual:Str}{st:Yt}{f:Addr}{fd:QP}{N ps:List Str}{k:Nat}{fD:DF}(fr:Bool)(F:Fun K x qual st f fd)(S:JA N ps (Qx st))(len:∀args R EX,fD args R EX->args.length=ps.length)
  (hbody:∀(cdv:Value)(A:Q2)(outer:List Env)(s:Shared)(H:Hp)(E:XK),Room k (A.deeper (envOfC qual (Qx st) s.heap.objs.size f cdv)) ->
   ∃wd,PSs (cxOf CX0 P w K mg base N qual (Qx st) f cdv A outer s H E).nox (JO st) (tS K E0 wd)/\∀args R EX,fD args R EX->wd (Qm2 fr R XF) (stD N args)):FnOk P w K mg base CX0 (k+1) f fd ps (Zf fr fD):=by
 refine F.ok S (λvs H Q E h=>?_) λcdv A outer s H vs Q E hr h=>?_
 ·obtain⟨A,pt,args,R,EX,_,_,q,h,_⟩:=h;rw[q.length];exact len _ _ _ h
 ·obtain⟨wd,hp,hw⟩:=hbody cdv A outer s H E hr;obtain⟨A',pt,args,R,EX,dm,hpt,q,h,k,_⟩:=h;exact⟨_,hp,⟨H,A',pt⟩,_,_,Qg3 dm hpt q,hw args R EX h,Qm1 (Ex:=E) (EX:=EX) k Qma⟩
theorem QA2{x qual:Str}{st:Yt}{f:Addr}{fd:QP}{N ps:List Str}{k:Nat}{fD:DF}(fr:Bool)(F:Fun K x qual st f fd)(S:JA N ps (Qx st))(len:∀args R EX,fD args R EX->args.length=ps.length)
  (hbody:∀(cdv:Value)(A:Q2)(outer:List Env)(s:Shared)(H:Hp)(E:XK),Room k (A.deeper (envOfC qual (Qx st) s.heap.objs.size f cdv)) ->
   ∃wd,PSs (cxOf (Rx.CXE P w) P w K mg base N qual (Qx st) f cdv A outer s H E) (JO st) (tS K E wd)/\∀args R EX,fD args R EX->wd (Qm2 fr R EX) (stD N args)):FnOk P w K mg base (Rx.CXE P w) (k+1) f fd ps (Zf fr fD):=by
 refine Rx.okE F S (λvs H Q E h=>?_) λcdv A outer s H vs Q E hr h=>?_
 ·obtain⟨A,pt,args,R,EX,_,_,q,h,_⟩:=h;rw[q.length];exact len _ _ _ h
 ·obtain⟨wd,hp,hw⟩:=hbody cdv A outer s H E hr;obtain⟨A',pt,args,R,EX,dm,hpt,q,h,k,kx⟩:=h;exact⟨_,hp,⟨H,A',pt⟩,_,_,Qg3 dm hpt q,hw args R EX h,Qm1 (Ex:=E) (EX:=EX) k λC hC H' ke=>kx C hC H' ke⟩
end
end Dl
namespace L2
def QzU(i j:Int):Prop:=0<j/\j<=10^40
theorem Qpb{X:Cx}:OpR X (binaryOp .FloorDiv) (rI QzU λi j=>.int (i / j)):=opI λi j _ _ _ _ _ hc q=>by
 have h1:(0:Int)<j:=hc.1;have h2:j<=10^40:=hc.2;refine floordiv_int (by omega) (by rw[Int.fdiv_eq_ediv_of_nonneg i (by omega)];exact q) (.inl (PyProof.noPylong_of_log2 ?_));have h3:j.natAbs<2^200:=by
  have:(10:Int)^40<2^200:=by decide
  omega
 have:=(Nat.log2_lt (by omega:j.natAbs≠0)).mpr h3;omega
end L2
namespace Rk
open L2 _root_.Rd
def Qjc:Sp:=λvs H Q _=>∃p n f,vs=[.ref p,.int f]/\H p=some (.lst [.int n])/\0<f/\f<=10^40/\∀r m,0<=r->r<f->Q (.int r) (upd H p (.lst [.int m]))
end Rk
namespace Dl
open L2 _root_.Rd Rk
theorem Yb{X:Cx}{E:XK}:Qb1 CX0 X E:=λ_ _ _ _ _ _ _ h=>h.elim
theorem Room.u60{k:Nat}{A:Q2}(r:Room k A):A.units+60<cLine:=by have:=r.un;omega
theorem Room.i60{k:Nat}{A:Q2}(r:Room k A):A.in1.units+60<cLine:=by
 have:=r.un;show A.units+1+60<cLine;omega
section
variable{X:Cx}{E:XK}{CX:CXT}{k:Nat}{f:Addr}{fd:QP}{ps:List Str}{x:Str}{p pos:Pos}{e:Q3}{es:List Q3}{fD:DF}
def Qlo:DF:=λargs R _=>∃f,args=[.pot,.v (.int f)]/\0<f/\f<=10^40/\∀r,0<=r->r<f->R (.int r)
theorem Qvy{vs:List V}{H:Hp}{Q:VK}{Ex:XK}(h:Zf true Qlo vs H Q Ex):Qjc vs H Q Ex:=by
 obtain⟨A,pt,args,R,EX,dm,hp,q,⟨f,rfl,f0,f1,hR⟩,k,_⟩:=h;cases q with
 |cons q1 q2=>cases q2 with
  |cons q2 q3=>
   cases q3;obtain⟨p,rfl,pp⟩:=q1;cases q2;obtain⟨_,n,e⟩:=hp p pp;refine⟨p,n,f,rfl,e,f0,f1,λr m r0 r1=>k _ (hR r r0 r1) _ _ ⟨λb o nb eb=>?_,λz hz=>?_⟩ (.int _) λ_=>Y1⟩
   ·rw[JG (λz=>nb (by rw[z];exact pp))];exact eb
   ·by_cases y:z=p
    ·rw[y];exact⟨m,JB⟩
    ·obtain⟨_,n',e'⟩:=hp z hz;exact⟨n',by rw[JG y];exact e'⟩
def Qzj:DF:=λargs R _=>∃c,args=[.v (.int c)]/\∀n,R (.list [.int n])
theorem Qzi{vs:List V}{H:Hp}{Q:VK}{Ex:XK}(h:Zf true Qzj vs H Q Ex):QvC vs H Q Ex:=by
 obtain⟨A,pt,args,R,EX,dm,hp,q,⟨c,rfl,hR⟩,k,_⟩:=h;cases q with
 |cons q1 q2=>
  cases q2;cases q1;refine⟨c,rfl,λp n hn=>k _ (hR n) _ _ ⟨λb o _ eb=>JC hn b o eb,λz hz=>?_⟩ (.lst (λz=>?_) JB (.cons (.int _) .nil)) λ_=>QaQ hn⟩
  ·obtain⟨_,n',e'⟩:=hp z hz;exact⟨n',JC hn _ _ e'⟩
  ·obtain⟨xs,e⟩:=dm p z;rw[hn] at e;cases e
def isW:Qb->Bool
 |.int _=>true
 |_=>false
def Qlh:DF:=λargs R _=>∃d,args=[.v d]/\R (.bool (isW d))
theorem QlB{K:PySem.W.Frag}{F:Fm}{σ:L2.St}{H:Hp}{δ:Sts}(r:Rel K F σ H δ){a:Addr}{xs:List V}(h:SqL K F.H0 a xs)(n:¬F.pt a):SqL K H a xs:=by
 rcases h with h | h
 ·rcases h with h | ⟨o,h⟩
  ·exact .inl (.inl (r.kx _ _ n h))
  ·exact .inl (.inr ⟨o,r.kx _ _ n h⟩)
 ·exact .inr h
def Qux(i:Nat):DE:=λδ Q _=>match δ[i]? with
 |some .scr=>∀n:Nat,n<=63->Q (.int n)
 |_=>False
theorem Qtq{i:Nat}{a:Q3}(hg:Gl X "len")(hm:X.mg "len" = none)(h:PE X a (QhZ i))(hs:Zh a=true:=by rfl):PE X (.Call (.Name "len" p) [a] [] pos) (tX .F X.K E (Qux i)):=by
 refine PE.imp (Qa2 Qa4 hg hm Qb0 (Qel h ZP hs) (he:=by rw[YZ hs])) λσ H Q ⟨F,δ,R,EX,rel,hw,k,o⟩=>?_
 unfold Qux at hw;split at hw
 ·rename_i hd
  obtain⟨x,hx⟩:=rel.lt hd;obtain⟨l,ns,rfl,sq,np,n63⟩:=rel.sl i _ _ hx hd;refine⟨_,hx,l,_,rfl,.inl (QlB rel sq np),?_⟩;rw[Qe];exact k _ (hw _ n63) _ H rel (Kp.refl rel) ⟨.int _,Y1⟩
 ·exact hw.elim
def Quz(i:Nat)(wb:DE):DE:=λδ Q EX=>match δ[i]? with
 |some .scr=>wb δ (λd=>match d with
  |.int k=>0<=k/\∀c,Q (.int c)
  |_=>False) EX
 |_=>False
theorem Qtt{i:Nat}{a b:Q3}{wb:DE}(G:FnOk X.prog X.w X.K X.mg X.base CX0 k f fd ps (QcU X.K))(hr:Room k X.A)(hg:Gl X x)(hm:X.mg x=some (.ref f))(hk:PySem.W.keepIn X.K (.ref f)=true)(hb:Binds X.K fd ps [])
  (ha:PE X a (QhZ i))(h:PE X b (tX .P X.K E wb))(h1:Zh a=true:=by rfl)(h2:Zh b=true:=by rfl)(hdb:(x == ("__debug__" : Str))=false:=by decide) :
  PE X (.Call (.Name x p) [a,b] [] pos) (tX .F X.K E (Quz i wb)):=by
 refine PE.imp (QbT (E:=E) G hr hg hm hk hb .nil Yb (Qel ha (Qel h ZP h2) h1) hdb (YZ h1) (by rw[YZ h2];rfl)) λσ H Q ⟨F,δ,R,EX,rel,hw,k,o⟩=>?_
 unfold Quz at hw;split at hw
 ·rename_i hd
  obtain⟨x,hx⟩:=rel.lt hd;obtain⟨l,ns,rfl,sq,np,n63⟩:=rel.sl i _ _ hx hd;refine⟨_,hx,F,δ,_,EX,rel,hw,λd hd2 v H' rel' kp vk=>?_,o⟩;cases d<;>first | exact(show False from hd2).elim | skip
  rw[DP.int vk];exact⟨l,ns,_,rfl,QlB rel' sq np,Z7 n63 (by decide),hd2.1,λc=>k _ (hd2.2 c) _ H' rel' kp ⟨.int _,Y1⟩⟩
 ·exact hw.elim
end
section
variable{P:QC}{w:Ja}{K:PySem.W.Frag}{mg:Str->Option Value}{base:Heap}
def Qfk(K:PySem.W.Frag):Sp:=λvs H Q _=>∃(a:Addr)(ns:List Int),vs=[.ref a]/\SqL K H a (ns.map V.int)/\ns.length<=63/\∀H',Q (.bl true) H'
def Qxs:Qeb:=⟨λ_=>False,λd=>d=.bool true,λd=>d=.bool true,λ_=>False,λ_=>False,XF⟩
theorem Qzw{x qual:Str}{st:Yt}{f:Addr}{fd:QP}{N:List Str}{p:Str}{k:Nat}(F:Fun K x qual st f fd)(S:JA N [p] (Qx st))
  (hbody:∀(cdv:Value)(A:Q2)(outer:List Env)(s:Shared)(H:Hp)(E:XK),Room k (A.deeper (envOfC qual (Qx st) s.heap.objs.size f cdv)) ->
   ∃wd,PSs (cxOf CX0 P w K mg base N qual (Qx st) f cdv A outer s H E).nox (JO st) (tS K E0 wd)/\wd Qxs (stD N [.scr])):FnOk P w K mg base CX0 (k+1) f fd [p] (Qfk K):=by
 refine F.ok S (λvs H Q E h=>?_) λcdv A outer s H vs Q E hr h=>?_
 ·obtain⟨a,ns,rfl,_⟩:=h;rfl
 ·obtain⟨wd,hp,hw⟩:=hbody cdv A outer s H E hr;obtain⟨a,ns,rfl,sq,n63,k⟩:=h;have get0:∀(i:Nat) o y,(L2.start N [V.ref a])[i]? = some o->(stD N [.scr])[i]? = some y->y≠.no->o=some (.ref a)/\y=.scr:=λi o y h1 h2 hy=>by
   cases i with
   |zero=>cases h1;cases h2;exact⟨rfl,rfl⟩
   |succ i=>
    unfold stD at h2;rw[Ji (by simp),Qb5] at h2;split at h2
    ·exact absurd (QB h2).symm hy
    ·cases h2
  have noav:∀b,¬Av (⟨H,λ_=>False,λ_=>False⟩:Fm) (L2.start N [V.ref a]) (stD N [.scr]) b:=λb z=>by
   rcases z with z | ⟨i,h1,h2⟩
   ·exact z
   ·rcases h2 with h2 | ⟨ds,h2⟩
    ·cases(get0 i _ _ h1 h2 (λz=>by cases z)).2
    ·cases(get0 i _ _ h1 h2 (λz=>by cases z)).2
  refine⟨_,hp,⟨H,λ_=>False,λ_=>False⟩,_,_,?_,hw,?_⟩
  ·exact{
    len:=by unfold L2.start stD;simp
    dom:=λ_ h=>h.elim
    dom0:=λ_ h=>h.elim
    pt0:=λ_ h=>h.elim
    kx:=λ_ _ _ e=>e
    sl:=λi o y h1 h2=>by
     cases y with
     |no=>trivial
     |scr=>
      obtain⟨rfl,_⟩:=get0 i _ _ h1 h2 (λz=>by cases z);exact⟨a,ns,rfl,sq,λz=>z,n63⟩
     |v d=>cases(get0 i _ _ h1 h2 (λz=>by cases z)).2
     |own d=>cases(get0 i _ _ h1 h2 (λz=>by cases z)).2
     |pk d=>cases(get0 i _ _ h1 h2 (λz=>by cases z)).2
     |pot=>cases(get0 i _ _ h1 h2 (λz=>by cases z)).2
    inj:=λi j b ds h1 h2 _=>by cases(get0 i _ _ h2 h1 (λz=>by cases z)).2 }
  ·exact{
    nx:=⟨λ_ h=>h.elim⟩
    rt:=λd h v H' ke dv=>by cases(show d=.bool true from h);cases dv;exact k H'
    rtF:=λd h v H' ke dv _=>by cases(show d=.bool true from h);cases dv;exact k H'
    bk:=⟨λ_ h=>h.elim⟩
    ct:=⟨λ_ h=>h.elim⟩
    ex:=Qma }
end
theorem QhP{α:Type}{p:α->Prop}:∀x∈([]:List α),p x:=λ_ h=>nomatch h
theorem Zk{α:Type}{p:α->Prop}{a:α}{l:List α}(h:p a)(t:∀x∈l,p x):∀x∈a::l,p x:=λx hx=>by
 rcases Qv.mp hx with z | z
 ·rw[z];exact h
 ·exact t x z
theorem QxQ{b c:Bool}{R:Qb->Prop}(h:R (.bool (b&&c))):if b=true then R (.bool c) else R (.bool false):=by
 cases b
 ·exact Qua h
 ·exact QrH h
theorem QuN{b c:Bool}{R:Qb->Prop}{Pk:Prop}(h:R (.bool (b&&c)))(k:b=true->R (.bool c)->Pk):if b=true then Pk else R (.bool false):=by
 cases b
 ·exact Qua h
 ·exact QrH (k rfl h)
theorem ifF{c:Bool}{A B:Prop}(h:c=false)(k:B):if c=true then A else B:=by subst h;exact k
theorem ifT{c:Bool}{A B:Prop}(h:c=true)(k:A):if c=true then A else B:=by subst h;exact k
theorem ifC{c:Bool}{A B:Prop}(t:c=true->A)(f:c=false->B):if c=true then A else B:=by
 cases c
 ·exact f rfl
 ·exact t rfl
theorem all_map{α:Type}(l:List α)(g:α->Bool):(l.map g).all id=l.all g:=by
 rw[List.all_map];rfl
theorem QiX{ds:List Qb}{Q:Qb->Prop}{g:Qb->Bool}{items:List Qb}(h:ds=[.list (items.map λd=>.bool (g d))])(q:Q (.bool (items.all g))):Qym ds Q:=by
 subst h;unfold Qym;refine⟨items.map g,?_,by rw[all_map];exact q⟩;rw[show items.map (λd=>Qda (g d))=(items.map g).map Qda by rw[Jo];rfl,Qnv]
end Dl
namespace L2
section
variable{X:Cx}
end
end L2
namespace Dl
open L2 _root_.Rd Rk
section
variable{X:Cx}{E:XK}
variable{e:Q3}{w:DE}{p p2 pos pos2:Pos}
end
theorem QxP{ds:List Qb}{i:Int}(h0:0<=i)(h1:i<ds.length):∃d,d∈ds/\atI ds i=some d:=by
 obtain⟨j,rfl⟩:∃j:Nat,i=j:=⟨i.toNat,by omega⟩
 have hj:j<ds.length:=by omega
 exact⟨ds[j],Qaf hj,Ys (Qf hj)⟩
theorem Qt9{ds:List Qb}{i:Int}{Q:Qb->Prop}(h0:0<=i)(h1:i<ds.length)(q:∀d∈ds,Q d):∃d,atI ds i=some d/\Q d:=by
 obtain⟨d,hd,e⟩:=QxP h0 h1;exact⟨d,e,q d hd⟩
theorem QeT(xs:List Qb)(lo hi:Option Int):(cutD xs lo hi).length<=xs.length:=by
 unfold cutD;rw[Jr,Yo];omega
theorem QjP{xs:List Qb}{lo hi:Option Int}{d:Qb}(h:d∈cutD xs lo hi):d∈xs:=QaX (Qdc h)
structure QE (m:Md) (X:Cx) (E:XK) (e:Q3) (w:DE):Prop where h:PE X e (tX m X.K E w)
structure QT (X:Cx) (E:XK) (e:Q3) (w:DT):Prop where h:PT X e (tT X.K E w)
structure QW (X:Cx) (E:XK) (e:Q3) (w:DT):Prop where h:PW X e (tT X.K E w)
structure QTs (X:Cx) (E:XK) (es:List Q3) (w:DT):Prop where h:PTs X es (tT X.K E w)
structure QA (n:Nat) (m:Md) (X:Cx) (E:XK) (es:List Q3) (w:DAr):Prop where h:PA X es (tAr n m X.K E w)
structure QAs (X:Cx) (E:XK) (es:List Q3) (w:DSl):Prop where h:PA X es (tAs X.K E w)
structure QO (X:Cx) (E:XK) (o:Option Q3) (w:DO):Prop where h:PO X o (tO X.K E w)
structure QG (ix:List Nat) (X:Cx) (tg:Q3) (w:DG):Prop where h:PG X tg (tG ix X.K w)
structure QI (m:Md) (X:Cx) (E:XK) (tg it:Q3) (w:DI):Prop where h:PI X tg it (tI m X.K E w)
structure QS (X:Cx) (E:XK) (st:Yt) (w:DS):Prop where h:PS X st (tS X.K E w)
structure QSs (X:Cx) (E:XK) (sts:List Yt) (w:DS):Prop where h:PSs X sts (tS X.K E w)
section
variable{X:Cx}{E:XK}
theorem Z9{e:Q3}{w:DE}(h:QE .F X E e w):QE .D X E e w:=⟨toD h.h⟩
theorem J7{e:Q3}{w:DE}(h:QE .D X E e w):QE .P X E e w:=⟨toP h.h⟩
theorem Jm{e:Q3}{w:DE}(h:QE .F X E e w):QE .P X E e w:=⟨QAL h.h⟩
theorem qv(i:Nat){x:Str}{pos:Pos}(hN:X.N[i]? = some x:=by rfl)(hv:Vis X.env.scope x:=by first | exact Jp rfl | exact JF (Jp rfl) | exact JF (JF rfl))(hd:(x == ("__debug__" : Str))=false:=by decide)(hcd:(x == ("__classdict__" : Str))=false:=by decide):QE .D X E (.Name x pos) (QzM i):=⟨Qws (pv i hN hv hd hcd)⟩
theorem qp(i:Nat){x:Str}{pos:Pos}(hN:X.N[i]? = some x:=by rfl)(hv:Vis X.env.scope x:=by first | exact Jp rfl | exact JF (Jp rfl) | exact JF (JF rfl))(hd:(x == ("__debug__" : Str))=false:=by decide)(hcd:(x == ("__classdict__" : Str))=false:=by decide):QE .P X E (.Name x pos) (dPk i):=⟨Qzn (pv i hN hv hd hcd)⟩
theorem Zg{i:Int}{j pos}:QE .D X E (.Constant (.int i) j pos) (dC (.int i)):=⟨QwA⟩
theorem Qrt{b:Bool}{j pos}:QE .D X E (.Constant (.bool b) j pos) (dC (.bool b)):=⟨Qzr⟩
theorem QsU{j pos}:QE .D X E (.Constant .none j pos) (dC .none):=⟨Qwx⟩
theorem Qd7{x:Str}{j pos}(h:Qav (.str x)=true:=by decide +kernel):QE .D X E (.Constant (.str x) j pos) (dC (.str x)):=⟨Qwu h⟩
theorem Qjh{x:Str}(i:Int){u:Value}{pos:Pos}(hg:Gl X x)(hm:X.mg x=some u)(r:RelV (.int i) u)(hd:(x == ("__debug__" : Str))=false:=by decide):QE .D X E (.Name x pos) (dC (.int i)):=⟨QwD (Qiv hg hm r hd) λ_ _=>.int i⟩
theorem Y8{a b:Q3}{wa wb:DE}{pos:Pos}{r:R2}{rD:Qb->Qb->(Qb->Prop)->Prop}{op:Qed}(ho:OpR X (binaryOp op) r)(hd:OpD r rD)(ha:QE .P X E a wa)(hb:QE .P X E b wb):QE .F X E (.BinOp a op b pos) (dOp rD wa wb):=⟨QwE ho hd ha.h hb.h⟩
theorem Qkk{a b:Q3}{wa wb:DE}{pos:Pos}{r:R2}{rD:Qb->Qb->(Qb->Prop)->Prop}{op:QfK}(ho:OpR X (compareOp op) r)(hd:OpD r rD)(ha:QE .P X E a wa)(hb:QE .P X E b wb)(hm:behindInMarks op b=false):QE .F X E (.Compare a [op] [b] pos) (dOp rD wa wb):=⟨QwC ho hd ha.h hb.h hm⟩
theorem Qcr{a b:Q3}{wa wb:DE}{pos:Pos}{r:R2}{rD:Qb->Qb->(Qb->Prop)->Prop}{op:QfK}(ho:OpR X (compareOp op) r)(hd:OpD r rD)(ha:QE .P X E a wa)(hb:QE .P X E b wb)(hm:behindInMarks op b=false):QT X E (.Compare a [op] [b] pos) (dTst (dOp rD wa wb)):=⟨Qtg ho hd ha.h hb.h hm⟩
theorem Qov{a b:Q3}{wa wb:DE}{pos:Pos}{r:R2}{rD:Qb->Qb->(Qb->Prop)->Prop}(ho:IxR X r)(hd:QuP r rD)(ha:QE .P X E a wa)(hb:QE .P X E b wb)(hs:QgC b):QE .D X E (.Subscript a b pos) (dOp rD wa wb):=⟨Qzp ho hd ha.h hb.h hs⟩
theorem QsV{a:Q3}{wa:DE}{pos:Pos}(ha:QE .P X E a wa):QE .F X E (.UnaryOp .USub a pos) (dUn QAi wa):=⟨Qwy ha.h⟩
theorem QA0{a b c:Q3}{wa wb wc:DE}{pos:Pos}{op op':QfK}{p q:Int->Int->Bool}(ho:OpR X (compareOp op) (rI0 λi j=>.bl (p i j)))(ho':OpR X (compareOp op') (rI0 λi j=>.bl (q i j)))(ha:QE .P X E a wa)(hb:QE .P X E b wb)(hc:QE .P X E c wc)(hm:lastMarks [op,op'] [b,c]=false:=by with_unfolding_all rfl):QE .F X E (.Compare a [op,op'] [b,c] pos) (dCh p q wa wb wc):=⟨Qzq ho ho' ha.h hb.h hc.h hm⟩
theorem Qzf{a b c:Q3}{wa wb wc:DE}{pos:Pos}{op op':QfK}{p q:Int->Int->Bool}(ho:OpR X (compareOp op) (rI0 λi j=>.bl (p i j)))(ho':OpR X (compareOp op') (rI0 λi j=>.bl (q i j)))(ha:QE .P X E a wa)(hb:QE .P X E b wb)(hc:QE .P X E c wc)(hm:lastMarks [op,op'] [b,c]=false:=by with_unfolding_all rfl):QT X E (.Compare a [op,op'] [b,c] pos) (dTst (dCh p q wa wb wc)):=⟨Qwq ho ho' ha.h hb.h hc.h hm⟩
theorem Qez{e:Q3}{w:DE}(h:QE .P X E e w)(he:∀whole,isTrue e X.env whole=(do let v <- whole;standAt e.pos;holding [v] (truthy v)):=by intro _;rfl):QT X E e (dTst w):=⟨Qte h.h he⟩
theorem QsX{a b:Q3}{rest:List Q3}{pos:Pos}{wa wb:DE}(ha:QE .P X E a wa)(hb:QE .D X E (.BoolOp .And (b::rest) pos) wb):QE .D X E (.BoolOp .And (a::b::rest) pos) (QxI wa wb):=⟨QwF ha.h hb.h⟩
theorem Qv5{a:Q3}{pos:Pos}{ta:DT}(ha:QT X E a ta):QW X E (.BoolOp .Or [a] pos) ta:=⟨Qtd ha.h⟩
theorem Qze{a b:Q3}{rest:List Q3}{pos:Pos}{ta tb:DT}(ha:QT X E a ta)(hb:QW X E (.BoolOp .Or (b::rest) pos) tb):QW X E (.BoolOp .Or (a::b::rest) pos) (dOr ta tb):=⟨Qwp ha.h hb.h⟩
theorem QAf{a b:Q3}{rest:List Q3}{pos:Pos}{wa wb:DE}(ha:QE .P X E a wa)(hb:QE .D X E (.BoolOp .Or (b::rest) pos) wb):QE .D X E (.BoolOp .Or (a::b::rest) pos) (QAv wa wb):=⟨Qzo ha.h hb.h⟩
theorem QAZ{e:Q3}{t:DT}(h:QW X E e t):QT X E e t:=⟨PW.pt h.h⟩
theorem Qfo{a:Q3}{pos:Pos}{ta:DT}(ha:QT X E a ta):QT X E (.UnaryOp .Not a pos) (QAw ta):=⟨Qtf ha.h⟩
theorem QlQ{op}{a:Q3}{pos:Pos}{w:DE}(h:QE .D X E a w):QE .D X E (.BoolOp op [a] pos) w:=⟨Qwv h.h⟩
theorem Qzg{a:Q3}{pos:Pos}{wa:DE}(ha:QE .P X E a wa):QE .D X E (.UnaryOp .Not a pos) (QxF wa):=⟨Qww ha.h⟩
theorem J6{m:Md}:QA 0 m X E [] QAx:=⟨Qtp⟩
theorem QaG{n:Nat}{e:Q3}{es:List Q3}{we:DE}{wr:DAr}(he:QE .D X E e we)(hr:QA n .D X E es wr)(hs:Zh e=true:=by rfl):QA (n+1) .D X E (e::es) (Qnb we wr):=⟨Ql6 he.h hr.h hs⟩
theorem QdU{n:Nat}{e:Q3}{es:List Q3}{we:DE}{wr:DAr}(he:QE .P X E e we)(hr:QA n .P X E es wr)(hs:Zh e=true:=by rfl):QA (n+1) .P X E (e::es) (Qnb we wr):=⟨Ql5 he.h hr.h hs⟩
theorem Qd6{n:Nat}{es:List Q3}{w:DAr}{x1}{pos:Pos}(h:QA n .D X E es w)(hn:n<=1000:=by decide):QE .F X E (.Tuple es x1 pos) (QAr w):=⟨Qwt h.h hn⟩
theorem Qd8{n:Nat}{es:List Q3}{w:DAr}{pos:Pos}(h:QA n .D X E es w)(hn:n<=1000:=by decide):QE .F X E (.List es pos) (QAy w):=⟨Qwz h.h hn⟩
theorem Qzh{pos:Pos}:QE .D X E (.Dict [] [] pos) (dC (.dict [])):=⟨QwB⟩
theorem YF{x:Str}{bid:String}{p pos:Pos}{e:Q3}{es:List Q3}{n:Nat}{wr:DAr}{r:List V->Hp->VK->Prop}{rD:List Qb->(Qb->Prop)->Prop}(hc:CallR X (.builtin bid) r)(hd:QcG r rD)(hg:Gl X x)(hm:X.mg x=none)(hv:bootBuiltins x=some (.builtin bid))(ha:QA n .P X E (e::es) wr)(hn:x ≠ "__name__" := by decide)(hdb:(x == ("__debug__" : Str))=false:=by decide)(he:starEach (e::es) X.env=(false,eval e X.env)::starEach es X.env:=by rfl)(hpl:(backTo pos (starEach es X.env)).any (·.1)=false:=by rfl):QE .F X E (.Call (.Name x p) (e::es) [] pos) (dCB rD wr):=⟨Qo4 hc hd hg hm hv ha.h hn hdb he hpl⟩
theorem Qej{x:Str}{T:String}{p pos:Pos}{e:Q3}{es:List Q3}{n:Nat}{wr:DAr}{r:List V->Hp->VK->Prop}{rD:List Qb->(Qb->Prop)->Prop}(hc:CallR X (.type T) r)(hd:QcG r rD)(hg:Gl X x)(hm:X.mg x=none)(hv:bootBuiltins x=some (.type T))(ha:QA n .P X E (e::es) wr)(hn:x ≠ "__name__" := by decide)(hdb:(x == ("__debug__" : Str))=false:=by decide)(he:starEach (e::es) X.env=(false,eval e X.env)::starEach es X.env:=by rfl)(hpl:(backTo pos (starEach es X.env)).any (·.1)=false:=by rfl):QE .F X E (.Call (.Name x p) (e::es) [] pos) (dCB rD wr):=⟨Ql7 hc hd hg hm hv ha.h hn hdb he hpl⟩
theorem QlR{e:Q3}{we:DE}{p pos pos2:Pos}{x:Str}(tn:Tn)(hg:Gl X "isinstance")(hm:X.mg "isinstance" = none)(he:QE .P X E e we)(hg2:Gl X x)(hm2:X.mg x=none)(hv:bootBuiltins x=some (.type tn.s))(hn:x ≠ "__name__" := by decide)(hd:(x == ("__debug__" : Str))=false:=by decide)(h1:Zh e=true:=by rfl):QE .F X E (.Call (.Name "isinstance" p) [e,.Name x pos2] [] pos) (QxG tn we):=⟨Qtr tn hg hm he.h (Qzs tn hg2 hm2 hv hn hd) h1 rfl⟩
theorem Qf8  : QO X E none dNo:=⟨QoV⟩
theorem Qf7{e:Q3}{we:DE}(he:QE .P X E e we):QO X E (some e) (dSo we):=⟨QoU he.h⟩
theorem Qga{e:Q3}{lo hi:Option Q3}{we:DE}{wl wh:DO}{p2 pos:Pos}(he:QE .P X E e we)(hl:QO X E lo wl)(hh:QO X E hi wh):QE .F X E (.Subscript e (.Slice lo hi none p2) pos) (dSl we wl wh):=⟨Qo1 he.h hl.h hh.h⟩
theorem JV  : QAs X E [] Qz2:=⟨Qtk⟩
theorem YL{e:Q3}{es:List Q3}{we:DE}{wr:DSl}(he:QE .D X E e we)(hr:QAs X E es wr)(hs:Zh e=true:=by rfl):QAs X E (e::es) (sV we wr):=⟨Qzm he.h hr.h hs⟩
theorem Qbj(i:Nat){x:Str}{pos:Pos}{es:List Q3}{wr:DSl}(hr:QAs X E es wr)(hN:X.N[i]? = some x:=by rfl)(hv:Vis X.env.scope x:=by first | exact Jp rfl | exact JF (Jp rfl) | exact JF (JF rfl))(hd:(x == ("__debug__" : Str))=false:=by decide)(hcd:(x == ("__classdict__" : Str))=false:=by decide):QAs X E (.Name x pos::es) (Qy4 i wr):=⟨Qti (pv i hN hv hd hcd) hr.h rfl⟩
theorem ZX{CX:CXT}{k:Nat}{f:Addr}{fd:QP}{ps:List Str}{x:Str}{p pos:Pos}{e:Q3}{es:List Q3}{fD:DF}{wa:DSl}(G:FnOk X.prog X.w X.K X.mg X.base CX k f fd ps (Zf false fD))(hr:Room k X.A)(hg:Gl X x)(hm:X.mg x=some (.ref f))(hk:PySem.W.keepIn X.K (.ref f)=true)(hb:Binds X.K fd ps [])(hx:Qb1 CX X E)(ha:QAs X E (e::es) wa)(hdb:(x == ("__debug__" : Str))=false:=by decide)(he:starEach (e::es) X.env=(false,eval e X.env)::starEach es X.env:=by rfl)(hpl:(backTo pos (starEach es X.env)).any (·.1)=false:=by rfl):QE .D X E (.Call (.Name x p) (e::es) [] pos) (Qne fD wa):=⟨Qtu G hr hg hm hk hb hx ha.h hdb he hpl⟩
theorem Yr{CX:CXT}{k:Nat}{f:Addr}{fd:QP}{ps:List Str}{x:Str}{p pos:Pos}{e:Q3}{es:List Q3}{fD:DF}{wa:DSl}(G:FnOk X.prog X.w X.K X.mg X.base CX k f fd ps (Zf true fD))(hr:Room k X.A)(hg:Gl X x)(hm:X.mg x=some (.ref f))(hk:PySem.W.keepIn X.K (.ref f)=true)(hb:Binds X.K fd ps [])(hx:Qb1 CX X E)(ha:QAs X E (e::es) wa)(hdb:(x == ("__debug__" : Str))=false:=by decide)(he:starEach (e::es) X.env=(false,eval e X.env)::starEach es X.env:=by rfl)(hpl:(backTo pos (starEach es X.env)).any (·.1)=false:=by rfl):QE .F X E (.Call (.Name x p) (e::es) [] pos) (Qne fD wa):=⟨Qo3 G hr hg hm hk hb hx ha.h hdb he hpl⟩
theorem QsW{CX:CXT}{k:Nat}{f:Addr}{fd:QP}{ps:List Str}{x:Str}{p pos:Pos}{e:Q3}{es:List Q3}{fD:DF}{n:Nat}{wr:DAr}(G:FnOk X.prog X.w X.K X.mg X.base CX k f fd ps (Zf true fD))(hr:Room k X.A)(hg:Gl X x)(hm:X.mg x=some (.ref f))(hk:PySem.W.keepIn X.K (.ref f)=true)(hb:Binds X.K fd ps [])(hx:Qb1 CX X E)(ha:QA n .P X E (e::es) wr)(hdb:(x == ("__debug__" : Str))=false:=by decide)(he:starEach (e::es) X.env=(false,eval e X.env)::starEach es X.env:=by rfl)(hpl:(backTo pos (starEach es X.env)).any (·.1)=false:=by rfl):QE .F X E (.Call (.Name x p) (e::es) [] pos) (Qnd fD wr):=⟨Qo2 G hr hg hm hk hb hx ha.h hdb he hpl⟩
theorem Qv9{k:Nat}{f:Addr}{fd:QP}{ps:List Str}{x y:Str}{p pos pos2:Pos}{b:Q3}{wb:DE}(i:Nat)(G:FnOk X.prog X.w X.K X.mg X.base CX0 k f fd ps (QcU X.K))(hr:Room k X.A)(hg:Gl X x)(hm:X.mg x=some (.ref f))(hk:PySem.W.keepIn X.K (.ref f)=true)(hb:Binds X.K fd ps [])(h:QE .P X E b wb)(hN:X.N[i]? = some y:=by rfl)(hv:Vis X.env.scope y:=by first | exact Jp rfl | exact JF (Jp rfl) | exact JF (JF rfl))(hd:(y == ("__debug__" : Str))=false:=by decide)(hcd:(y == ("__classdict__" : Str))=false:=by decide)(h2:Zh b=true:=by rfl)(hdb:(x == ("__debug__" : Str))=false:=by decide):QE .F X E (.Call (.Name x p) [.Name y pos2,b] [] pos) (Quz i wb):=⟨Qtt G hr hg hm hk hb (pv i hN hv hd hcd) h.h rfl h2 hdb⟩
theorem Qv8{y:Str}{p pos pos2:Pos}(i:Nat)(hg:Gl X "len")(hm:X.mg "len" = none)(hN:X.N[i]? = some y:=by rfl)(hv:Vis X.env.scope y:=by first | exact Jp rfl | exact JF (Jp rfl) | exact JF (JF rfl))(hd:(y == ("__debug__" : Str))=false:=by decide)(hcd:(y == ("__classdict__" : Str))=false:=by decide):QE .F X E (.Call (.Name "len" p) [.Name y pos2] [] pos) (Qux i):=⟨Qtq hg hm (pv i hN hv hd hcd) rfl⟩
theorem Y0(i:Nat){x:Str}{pos:Pos}(hN:X.N.Nodup)(hi:X.N[i]? = some x)(hx:Loc X.env.scope x)(hf:X.fn x=true∨X.env.scope.names.lookup x=some .local:=by first | exact .inl rfl | exact .inr rfl | assumption):QG [i] X (.Name x pos) (gN i):=⟨Qo0 (QeE hN hi hx hf)⟩
structure QGs (X:Cx) (es:List Q3) (is:List Nat):Prop where h:PGs X es (gNs is)
theorem QeC  : QGs X [] []:=⟨Qs8⟩
theorem Qah(i:Nat){is:List Nat}{x:Str}{pos:Pos}{es:List Q3}(h:QGs X es is)(hN:X.N.Nodup)(hi:X.N[i]? = some x)(hx:Loc X.env.scope x)(hf:X.fn x=true∨X.env.scope.names.lookup x=some .local:=by first | exact .inl rfl | exact .inr rfl | assumption)(hs:(assignEach (.Name x pos::es) X.env).map (·.2)=assign (.Name x pos) X.env::(assignEach es X.env).map (·.2):=by rfl):QGs X (.Name x pos::es) (i::is):=⟨QoH (QeE hN hi hx hf) h.h hs⟩
theorem QeB{es:List Q3}{k:Nat}{pos:Pos}{is:List Nat}(hc:X.calm=true)(h:QGs X es is)(hn:(assignEach es X.env).length=is.length:=by rfl)(hst:(assignEach es X.env).findIdx? (·.1)=none:=by rfl):QG is X (.Tuple es k pos) (gTN is):=⟨Qto (Qwi hc h.h hn hst) rfl⟩
theorem QeA{m:Md}{tg e:Q3}{w:DE}(h:QE m X E e w):QI m X E tg e (QAA w):=⟨QoZ h.h⟩
theorem Qrs{m:Md}{tg e:Q3}{w:DE}(h:QE m X E e w):QI m X E tg e (QAz w):=⟨Qtn h.h⟩
theorem QbR{m:Md}{tg e:Q3}{w:DE}{p pos:Pos}(hg:Gl X "range")(hm:X.mg "range" = none)(h:QE .P X E e w)(hs:Zh e=true:=by rfl):QI m X E tg (.Call (.Name "range" p) [e] [] pos) (QxD w):=⟨QoY hg hm h.h hs⟩
theorem Qou{m:Md}{e:Q3}{w:DE}{p pos tpos:Pos}{elts:List Q3}{x1}(hg:Gl X "enumerate")(hm:X.mg "enumerate" = none)(h:QE m X E e w)(hs:Zh e=true:=by rfl):QI m X E (.Tuple elts x1 tpos) (.Call (.Name "enumerate" p) [e] [] pos) (QAC w):=⟨Ql4 hg hm h.h hs⟩
theorem QsS{m:Md}{e e':Q3}{w w':DE}{p pos tpos:Pos}{elts:List Q3}{x1}(hg:Gl X "zip")(hm:X.mg "zip" = none)(h:QE m X E e w)(h':QE m X E e' w')(hs:Zh e=true:=by rfl)(hs':Zh e'=true:=by rfl):QI m X E (.Tuple elts x1 tpos) (.Call (.Name "zip" p) [e,e'] [] pos) (QAq w w'):=⟨QoX hg hm h.h h'.h hs hs'⟩
theorem Qf9{m:Md}{e:Q3}{w:DE}{p pos tpos:Pos}{elts:List Q3}{x1}(hg:Gl X "enumerate")(hm:X.mg "enumerate" = none)(h:QE m X E e w)(hs:Zh e=true:=by rfl):QI m X E (.Tuple elts x1 tpos) (.Call (.Name "enumerate" p) [e] [] pos) (QAB w):=⟨Ql3 hg hm h.h hs⟩
theorem QlP{m:Md}{e e':Q3}{w w':DE}{p pos tpos:Pos}{elts:List Q3}{x1}(hg:Gl X "zip")(hm:X.mg "zip" = none)(h:QE m X E e w)(h':QE m X E e' w')(hs:Zh e=true:=by rfl)(hs':Zh e'=true:=by rfl):QI m X E (.Tuple elts x1 tpos) (.Call (.Name "zip" p) [e,e'] [] pos) (QAp w w'):=⟨QoW hg hm h.h h'.h hs hs'⟩
theorem Qao  : QTs X E [] Qu1:=⟨QoN⟩
theorem Qf5{c:Q3}{t:DT}(h:QT X E c t):QTs X E [c] t:=⟨QoM h.h⟩
theorem QbD(M:List Str)(cap:List (Option Nat)){elt tg iter:Q3}{ifs:List Q3}{scope:YM}{pos:Pos}{ix:List Nat}{wi:DI}{wg:DG}{wt:DT}{we:DE}(hi:QI .P X E tg iter wi)(hb:∀cl ex s3 H3 C,QG ix (blk X M scope cl ex s3 H3 C) tg wg/\QTs (blk X M scope cl ex s3 H3 C) E0 ifs wt/\QE .D (blk X M scope cl ex s3 H3 C) E0 elt we)(hc:X.calm=true:=by rfl)(ok:QeV X.N X.env.scope M scope cap=true:=by rfl)(hf:QbX cap ix=true:=by rfl)(hs:∀x,foldedSetIterable iter X.env x=pure x:=by intro _;rfl):QE .F X E (.ListComp elt [⟨tg,iter,ifs,0⟩] scope pos) (dComp cap wi wg wt we):=⟨Qts hc ok hf hi.h (λcl ex s3 H3 C=>⟨(hb cl ex s3 H3 C).1.h,(hb cl ex s3 H3 C).2.1.h,(hb cl ex s3 H3 C).2.2.h⟩) hs⟩
theorem Qaw  : QSs X E [] QxB:=⟨QoO⟩
theorem JT{st:Yt}{w:DS}(h:QS X E st w):QSs X E [st] w:=⟨Qtj h.h⟩
theorem Je{st:Yt}{rest:List Yt}{w w':DS}(h:QS X E st w)(h':QSs X E rest w'):QSs X E (st::rest) (QAt w w'):=⟨QoT h.h h'.h⟩
theorem Qag{sts:List Yt}:QSs X E sts (λ_ _=>False):=⟨Ql2⟩
theorem QaB(i:Nat){x:Str}{e:Q3}{pos pos':Pos}{we:DE}(he:QE .D X E e we)(hN:X.N.Nodup)(hi:X.N[i]? = some x:=by rfl)(hx:Loc X.env.scope x:=by first | exact Jp rfl | exact JF rfl)(hs:swapsWith e (some (.Name x pos')) pos.line X.env=pure false:=by rfl)(hf:X.fn x=true∨X.env.scope.names.lookup x=some .local:=by first | exact .inl rfl | exact .inr rfl | assumption):QS X E (.Assign [.Name x pos'] e pos) (Qyl i we):=⟨Qiw (QaO hN hi hx he.h hs hf)⟩
theorem Qis(i:Nat){x:Str}{e:Q3}{pos pos':Pos}{we:DE}(he:QE .F X E e we)(hN:X.N.Nodup)(hi:X.N[i]? = some x:=by rfl)(hx:Loc X.env.scope x:=by first | exact Jp rfl | exact JF rfl)(hs:swapsWith e (some (.Name x pos')) pos.line X.env=pure false:=by rfl)(hf:X.fn x=true∨X.env.scope.names.lookup x=some .local:=by first | exact .inl rfl | exact .inr rfl | assumption):QS X E (.Assign [.Name x pos'] e pos) (Quv i we):=⟨Qjo (QaO hN hi hx he.h hs hf)⟩
theorem QsQ(i:Nat){x:Str}{e:Q3}{pos pos':Pos}{we:DE}(he:QE .F X E e we)(hN:X.N.Nodup)(hi:X.N[i]? = some x:=by rfl)(hx:Loc X.env.scope x:=by first | exact Jp rfl | exact JF rfl)(hs:swapsWith e (some (.Name x pos')) pos.line X.env=pure false:=by rfl)(hf:X.fn x=true∨X.env.scope.names.lookup x=some .local:=by first | exact .inl rfl | exact .inr rfl | assumption):QS X E (.Assign [.Name x pos'] e pos) (QxC i we):=⟨QoP (QaO hN hi hx he.h hs hf)⟩
theorem QaN{e:Q3}{pos:Pos}{we:DE}(h:QE .D X E e we):QS X E (.Return (some e) pos) (QAu we):=⟨Qth h.h⟩
theorem QbQ{e:Q3}{pos:Pos}{we:DE}(h:QE .F X E e we):QS X E (.Return (some e) pos) (QxE we):=⟨QoR h.h⟩
theorem QlN(i:Nat){x:Str}{pos pos2:Pos}(hN:X.N[i]? = some x:=by rfl)(hv:Vis X.env.scope x:=by first | exact Jp rfl | exact JF (Jp rfl) | exact JF (JF rfl))(hd:(x == ("__debug__" : Str))=false:=by decide)(hcd:(x == ("__classdict__" : Str))=false:=by decide):QS X E (.Return (some (.Name x pos)) pos2) (Quw i):=⟨QoQ (pv i hN hv hd hcd)⟩
theorem Qd5{c:Q3}{a b:List Yt}{pos:Pos}{t:DT}{w w':DS}(hc:QT X E c t)(ha:QSs X E a w)(hb:QSs X E b w'):QS X E (.If c a b pos) (dIf t w w'):=⟨Qwr hc.h ha.h hb.h⟩
theorem Qv7(i:Nat){x:Str}{e:Q3}{we:DE}{op:Qed}{ti:TIp}{rD:Qb->Qb->(Qb->Prop)->Prop}{pos pos':Pos}(ho:PIp X op ti)(hd:QuP ti rD)(he:QE .P X E e we)(hN:X.N.Nodup)(hi:X.N[i]? = some x:=by rfl)(hx:Loc X.env.scope x:=by first | exact Jp rfl | exact JF rfl)(hf:X.fn x=true∨X.env.scope.names.lookup x=some .local:=by first | exact .inl rfl | exact .inr rfl | assumption):QS X E (.AugAssign (.Name x pos') op e pos) (QzN i rD we):=⟨Qtm hd (Qwd hN hi hx he.h (PIp.len ho) hf)⟩
theorem Qhb{tg iter:Q3}{body:List Yt}{pos:Pos}{ix:List Nat}{wi:DI}{wg:DG}{wb:DS}(hp:PassesOwn (model X.prog X.w) X.A X.env X.xe)(hc:X.calm=true)(hi:QI .D X E tg iter wi)(hg:QG ix X tg wg)(hb:QSs X E body wb)(hs:∀x,foldedSetIterable iter X.env x=pure x:=by intro _;rfl):QS X E (.For tg iter body [] pos) (dFor wi wg wb):=⟨Qtl hp hc hi.h hg.h hb.h hs⟩
theorem Qf6{x:Str}{C:Addr}{e0:Q3}{we:DE}{np cpos pos:Pos}(hxe:∀e s1,wpAny (model X.prog X.w) X.A (leaving X.env e) (λ_ s2=>Rx.CXE X.prog X.w X.outer X.H₀ X.s₀ E e s2) (λe' s2=>Rx.CXE X.prog X.w X.outer X.H₀ X.s₀ E e' s2) s1->X.xe e s1)(hm:X.mg x=some (.ref C))(q:PySem.W.excIn X.K C Rx.mroV "ValueError.__new__" = true)(ha:QE .P X E e0 we)(hstk:X.stack=X.env::X.outer:=by rfl)(hfr:X.env.frame=some X.env.locals:=by rfl)(hex:X.ex=[]:=by rfl)(hc:X.calm=true:=by rfl)(hg:Gl X x:=by rfl)(he:starEach [e0] X.env=[(false,eval e0 X.env)]:=by rfl)(hd:(x == ("__debug__" : Str))=false:=by decide):QS X E (.Raise (some (.Call (.Name x np) [e0] [] cpos)) none pos) (QrV C we):=⟨Ql1 (Rx.QoA hxe hstk hfr hex hc hg hm q ha.h he hd)⟩
theorem Qax{e:Q3}{we:DE}{pos:Pos}(he:QE .P X E e we)(hs:swapsWith e none pos.line X.env=pure false:=by rfl):QS X E (.Expr e pos) (Quy we):=⟨QoS (Qs0 he.h hs)⟩
end
section
variable{P:QC}{w:Ja}{K:PySem.W.Frag}{mg:Str->Option Value}{base:Heap}
theorem okQ{x qual:Str}{st:Yt}{f:Addr}{fd:QP}{N ps:List Str}{k:Nat}{fD:DF}(fr:Bool)(F:Fun K x qual st f fd)(S:JA N ps (Qx st))(len:∀args R EX,fD args R EX->args.length=ps.length)
  (hbody:∀(cdv:Value)(A:Q2)(outer:List Env)(s:Shared)(H:Hp)(E:XK),Room k (A.deeper (envOfC qual (Qx st) s.heap.objs.size f cdv)) ->
   ∃wd,QSs (cxOf CX0 P w K mg base N qual (Qx st) f cdv A outer s H E).nox E0 (JO st) wd/\∀args R EX,fD args R EX->wd (Qm2 fr R XF) (stD N args)):FnOk P w K mg base CX0 (k+1) f fd ps (Zf fr fD):=
 okD fr F S len λcdv A outer s H E hr=>let ⟨wd,h,q⟩:=hbody cdv A outer s H E hr;⟨wd,h.h,q⟩
theorem QrC{x qual:Str}{st:Yt}{f:Addr}{fd:QP}{N ps:List Str}{k:Nat}{fD:DF}(fr:Bool)(F:Fun K x qual st f fd)(S:JA N ps (Qx st))(len:∀args R EX,fD args R EX->args.length=ps.length)
  (hbody:∀(cdv:Value)(A:Q2)(outer:List Env)(s:Shared)(H:Hp)(E:XK),Room k (A.deeper (envOfC qual (Qx st) s.heap.objs.size f cdv)) ->
   ∃wd,QSs (cxOf (Rx.CXE P w) P w K mg base N qual (Qx st) f cdv A outer s H E) E (JO st) wd/\∀args R EX,fD args R EX->wd (Qm2 fr R EX) (stD N args)):FnOk P w K mg base (Rx.CXE P w) (k+1) f fd ps (Zf fr fD):=
 QA2 fr F S len λcdv A outer s H E hr=>let ⟨wd,h,q⟩:=hbody cdv A outer s H E hr;⟨wd,h.h,q⟩
theorem QA1{x qual:Str}{st:Yt}{f:Addr}{fd:QP}{N:List Str}{p:Str}{k:Nat}(F:Fun K x qual st f fd)(S:JA N [p] (Qx st))
  (hbody:∀(cdv:Value)(A:Q2)(outer:List Env)(s:Shared)(H:Hp)(E:XK),Room k (A.deeper (envOfC qual (Qx st) s.heap.objs.size f cdv)) ->
   ∃wd,QSs (cxOf CX0 P w K mg base N qual (Qx st) f cdv A outer s H E).nox E0 (JO st) wd/\wd Qxs (stD N [.scr])):FnOk P w K mg base CX0 (k+1) f fd [p] (Qfk K):=
 Qzw F S λcdv A outer s H E hr=>let ⟨wd,h,q⟩:=hbody cdv A outer s H E hr;⟨wd,h.h,q⟩
end
structure GOk (wg:DG):Prop where h:∀d δ Q,wg d δ Q->wg d δ λδ'=>(∀(j:Nat) x,δ'[j]? = some x->(∃e,x=.v e)∨δ[j]? = some x)/\Q δ'
theorem QjI(i:Nat):GOk (gN i):=⟨λd δ Q h=>⟨λj x e=>by
 by_cases z:j=i
 ·subst z;exact .inl ⟨d,set_eq e⟩
 ·rw[QbC z] at e;exact .inr e,h⟩⟩
theorem QmT{cap:List (Option Nat)}{ix:List Nat}(hf:QbX cap ix=true){i:Nat}(hi:i∈ix):cap[i]? = some none:=by
 have:=Zi.mp hf i hi;split at this
 ·assumption
 ·cases this
theorem Qen{cap:List (Option Nat)}{ix:List Nat}(hf:QbX cap ix=true){δ:Sts}{i:Nat}{x:Sl}(h:(Qep cap δ)[i]? = some x)(hx:x≠.no):i∉ix:=λz=>by
 rcases Qgv h with⟨_,e⟩ | ⟨j,hj,_⟩
 ·exact hx e
 ·rw[QmT hf z] at hj;cases hj
section
variable{K:PySem.W.Frag}{σ σ4:L2.St}{δ δ4:Sts}{cap:List (Option Nat)}{ix:List Nat}{A1:Addr->Prop}{H3 H5 H6:Hp}
theorem QrL(hP:∀a,Yj σ δ a->A1 a)(hf:QbX cap ix=true)(j4:∀j,j∉ix->σ4[j]? = (Qdg cap σ)[j]?)(gk:∀(j:Nat) x,δ4[j]? = some x->(∃e,x=.v e)∨(Qep cap δ)[j]? = some x){a:Addr}(h:Av (inF A1 cap σ δ H3) σ4 δ4 a):A1 a:=by
 rcases h with z | ⟨i,h1,h2⟩
 ·exact z
 ·refine(QjH (cap:=cap) (H:=H3) hP).mp ?_
  rcases h2 with h2 | ⟨ds,h2⟩
  ·rcases gk i _ h2 with⟨e,z⟩ | z
   ·cases z
   ·exact .inr ⟨i,by rw[<- j4 i (Qen hf z (λz=>by cases z))];exact h1,.inl z⟩
  ·rcases gk i _ h2 with⟨e,z⟩ | z
   ·cases z
   ·exact .inr ⟨i,by rw[<- j4 i (Qen hf z (λz=>by cases z))];exact h1,.inr ⟨ds,z⟩⟩
theorem Quf(hP:∀a,Yj σ δ a->A1 a)(hf:QbX cap ix=true)(j4:∀j,j∉ix->σ4[j]? = (Qdg cap σ)[j]?)(gk:∀(j:Nat) x,δ4[j]? = some x->(∃e,x=.v e)∨(Qep cap δ)[j]? = some x)
  (ri:Rel K (inF A1 cap σ δ H6) (Qdg cap σ) H6 (Qep cap δ))(r5:Rel K (inF A1 cap σ δ H3) σ4 H5 δ4)(kk:∀a o,¬A1 a->H5 a=some o->H6 a=some o):Rel K (inF A1 cap σ δ H6) σ4 H6 δ4 where
 len:=r5.len
 dom:=ri.dom
 dom0:=ri.dom0
 pt0:=ri.pt0
 kx:=ri.kx
 sl:=λi o x h1 h2=>by
  have iv:∀{a:Addr},Av (inF A1 cap σ δ H6) σ4 δ4 a->A1 a:=λ{a} z=>QrL hP hf j4 gk z
  rcases gk i x h2 with⟨d,rfl⟩ | hx
  ·obtain⟨v,e,q⟩:=r5.sl i o _ h1 h2;exact⟨v,e,q.mv (λa o n e=>kk a o (λz=>n (.inl z)) e) λa z=>.inl (.inl (iv z))⟩
  ·by_cases hn:x=.no
   ·subst hn;trivial
   ·have h1':(Qdg cap σ)[i]? = some o:=by rw[<- j4 i (Qen hf hx hn)];exact h1
    have h:=ri.sl i o x h1' hx;cases x with
    |no=>trivial
    |v d=>obtain⟨v',e,q'⟩:=h;exact⟨v',e,q'.mv (λ_ _ _ e=>e) λa z=>.inl (.inl (iv z))⟩
    |own ds=>obtain⟨l,xs,e,e2,q',f⟩:=h;exact⟨l,xs,e,e2,q'.mv (λ_ _ _ e=>e) λa z=>.inl (.inl (iv z)),f⟩
    |pk ds=>obtain⟨l,xs,e,e2,q',f⟩:=h;exact⟨l,xs,e,e2,q'.mv (λ_ _ _ e=>e) λa z=>.inl (.inl (iv z)),f⟩
    |pot=>exact h
    |scr=>exact h
 inj:=λi j a ds h1 h2 _=>by
  rcases gk i _ h1 with⟨e,z⟩ | z
  ·cases z
  ·rcases Qgv z with⟨_,e⟩ | ⟨j,hj,e⟩
   ·cases e
   ·exfalso
    cases e2:δ[j]? with
    |none=>rw[e2] at e;cases e
    |some y=>rw[e2] at e;cases y<;>cases e
end
theorem Qn8{K:PySem.W.Frag}{F:Fm}{σ:L2.St}{δ:Sts}{H1 H3:Hp}{cap:List (Option Nat)}{ix:List Nat}{wg:DG}{wt:DT}{A1:Addr->Prop}{x:V}{d:Qb}{inner:L2.St->Hp->(Hp->Prop)->Prop}{kk:Hp->Prop}{T:Sts->Prop}{N:Prop}(gok:GOk wg)
  (hf:QbX cap ix=true)(rel:Rel K F σ H1 δ)(hA:∀a,Av F σ δ a->A1 a)(hN:∀a,A1 a->Av F σ δ a∨H1 a=none)(dm:∀a,A1 a->∃xs,H3 a=some (.lst xs))(kp:Kp σ δ H1 H3)(dx:DA A1 H3 x d)
  (h:wg d (Qep cap δ) λδ4=>wt δ4 (λb=>if b=true then T δ4 else N) XF)
  (hT:∀σ4 δ4 H5,T δ4->Rel K (inF A1 cap σ δ H3) σ4 H5 δ4->Kp σ δ H3 H5->(∀j,j∉ix->σ4[j]? = (Qdg cap σ)[j]?)->σ4.length=(Qdg cap σ).length->(∀(j:Nat) x,δ4[j]? = some x->(∃e,x=.v e)∨(Qep cap δ)[j]? = some x)->inner σ4 H5 kk)(hF:N->∀H5,Kp σ δ H3 H5->kk H5) :
  bOf (Qdg cap σ) (tG ix K wg) (tT K E0 wt) inner x H3 kk:=by
 have ri:=QmJ (cap:=cap) rel hA hN dm kp;have iv:∀{a:Addr},Av (inF A1 cap σ δ H3) (Qdg cap σ) (Qep cap δ) a->A1 a:=λ{a}=>(QjH λa z=>hA a (Y5 z)).mp
 refine⟨inF A1 cap σ δ H3,Qep cap δ,d,_,ri,dx.mv (λ_ _ _ e=>e) λa z=>.inl (iv z),gok.h _ _ _ h,λδ4 ⟨g4,h4⟩ σ4 r4 st4 l4 j4=>⟨QrY hf l4 j4,inF A1 cap σ δ H3,δ4,_,XF,r4,h4,λb hb H5 r5 kp5=>?_,Qma⟩⟩;have pots:∀{b:Addr},Yj σ4 δ4 b->Yj σ δ b:=λz=>QiM r4 (λb o _ e1 e2=>by rw[e2] at e1;cases e1) z
 have K5:Kp σ δ H3 H5:=by
  refine⟨λb o n e=>kp5.1 b o (λz=>n (pots z)) e,λb hb=>?_⟩;by_cases z:Yj σ4 δ4 b
  ·exact kp5.2 b z
  ·obtain⟨n,e⟩:=kp.2 b hb;exact⟨n,kp5.1 _ _ z e⟩
 exact QcZ hb (λz=>hT σ4 δ4 H5 z r5 K5 j4 l4 g4) λz=>hF z H5 K5
theorem Qut{K:PySem.W.Frag}{σ σ4:L2.St}{δ δ4:Sts}{H1 H3 H5:Hp}{cap:List (Option Nat)}{we:DE}{A1:Addr->Prop}{p:Addr}{acc:List Qb}{kk:Hp->Prop}{G:Qb->Prop}
  (hpA:A1 p)(hP:∀a,Yj σ δ a->A1 a)(hp1:H1 p=none)(hpn:¬Yj σ δ p)(lp:Lp σ δ A1 p H1 H5 acc)(hl:acc.length<sizeLine)(r5:Rel K (inF A1 cap σ δ H3) σ4 H5 δ4)(pots:∀b,Yj σ4 δ4 b->Yj σ δ b)
  (h:we δ4 G XF)(hk:∀e,G e->∀H',Lp σ δ A1 p H1 H' (acc++[e])->(∀b o,¬A1 b->H5 b=some o->H' b=some o)->kk H'):Qu2 p (tX .D K E0 we) σ4 H5 kk:=by
 refine⟨inF A1 cap σ δ H3,δ4,G,XF,r5,h,λe he v H6 r6 kp6 dv=>?_,Qma⟩;have k56:Kp σ δ H5 H6:=by
  refine⟨λb o n e=>kp6.1 b o (λz=>n (pots b z)) e,λb hb=>?_⟩;by_cases z:Yj σ4 δ4 b
  ·exact kp6.2 b z
  ·obtain⟨n,e⟩:=lp.kp.2 b hb;exact⟨n,kp6.1 _ _ z e⟩
 obtain⟨k6,ys,e6,q6⟩:=lp.step hP hpn k56;have up:∀{b:Addr}{o:HO},¬A1 b->H6 b=some o->upd H6 p (.lst (ys++[v])) b=some o:=λ{b o} n e=>by rw[JG (λz=>n (by rw[z];exact hpA))];exact e
 refine⟨ys,e6,by rw[q6.length];exact hl,hk e he _ ⟨⟨λb o n e=>?_,λb hb=>?_⟩,ys++[v],JB,DAs.app (q6.mv (λ_ _=>up) λa z=>.inl z) (.cons (DA.mv dv (λa o n e=>up (λz=>n (.inl z)) e) λa z=>.inl (.inl z)) .nil)⟩ λb o n e=>up n (kp6.1 b o (λz=>n (hP b (pots b z))) e)⟩
 ·rw[JG (λz=>by rw[z,hp1] at e;cases e)];exact k6.1 b o n e
 ·rw[JG (λz=>hpn (by rw[<- z];exact hb))];exact k6.2 b hb
def Qps:Nat:=1000000
@[irreducible] def InR(items2:List Qb)(wg2:DG)(wt2:DT)(we:DE)(δ4:Sts)(acc:List Qb)(N:List Qb->Prop):Prop:=∃Jv:Nat->List Qb->Prop,Jv 0 acc /\
 (∀(j:Nat) acc2 d2,items2[j]? = some d2->Jv j acc2->acc2.length<Qps/\wg2 d2 δ4 λδ5=>wt2 δ5 (λb=>if b=true then we δ5 (λe=>Jv (j+1) (acc2++[e])) XF else Jv (j+1) acc2) XF)/\∀acc2,Jv items2.length acc2->N acc2
@[irreducible] def QjY(items:List Qb)(wg:DG)(wt:DT)(wi2:DI)(wg2:DG)(wt2:DT)(we:DE)(δ:Sts)(Q:Qb->Prop):Prop:=∃Iv:Nat->List Qb->Prop,Iv 0 [] /\
 (∀(i:Nat) acc d,items[i]? = some d->Iv i acc->wg d δ λδ4=>wt δ4 (λb=>if b=true then wi2 δ4 (λitems2=>InR items2 wg2 wt2 we δ4 acc (Iv (i+1))) XF else Iv (i+1) acc) XF)/\∀acc,Iv items.length acc->Q (.list acc)
def Qnc(cap:List (Option Nat))(wi:DI)(wg:DG)(wt:DT)(wi2:DI)(wg2:DG)(wt2:DT)(we:DE):DE:=λδ Q EX=>wi δ (λitems=>QjY items wg wt wi2 wg2 wt2 we (Qep cap δ) Q) EX
section
variable{X:Cx}{E:XK}
theorem Qpr:Qps<=sizeLine:=Jb (by decide) Qmy
end
section
variable{X:Cx}{E:XK}
end
theorem Qxj{items2:List Qb}{wg2:DG}{wt2:DT}{we:DE}{δ4:Sts}{acc:List Qb}{N:List Qb->Prop}(G:Qb->Option Qb)(hl:acc.length+items2.length<Qps)
  (h:∀d∈items2,∀(k1:Prop)(k2:Qb->Prop),(G d=none->k1)->(∀e,G d=some e->k2 e)->wg2 d δ4 λδ5=>wt2 δ5 (λb=>if b=true then we δ5 k2 XF else k1) XF)(q:N (acc++items2.filterMap G)) :
  InR items2 wg2 wt2 we δ4 acc N:=by
 unfold InR;refine⟨λi acc2=>acc2=acc++(items2.take i).filterMap G,by simp,λi acc2 d hd e=>?_,λacc2 e=>by rw[e,ZJ];exact q⟩;have e:acc2=acc++(items2.take i).filterMap G:=e;have hs:(items2.take (i+1)).filterMap G=(items2.take i).filterMap G++(G d).toList:=by
  rw[ZO,hd,ZG];cases e2:G d<;>simp[e2]
 refine⟨?_,h d (QK hd) _ _ (λe2=>?_) λe' e2=>?_⟩
 ·have:=Qh4 G (items2.take i);have h2:(items2.take i).length<=items2.length:=by rw[Jr];exact QfI _ _
  rw[e,Qw];omega
 ·show acc2=acc++(items2.take (i+1)).filterMap G;rw[hs,e2,e];simp
 ·show acc2++[e']=acc++(items2.take (i+1)).filterMap G;rw[hs,e2,e];simp
theorem Qxi{items2:List Qb}{wg2:DG}{we:DE}{δ4:Sts}{acc:List Qb}{N:List Qb->Prop}(G:Qb->Qb)(hl:acc.length+items2.length<Qps)
  (h:∀d∈items2,∀(k2:Qb->Prop),k2 (G d)->wg2 d δ4 λδ5=>we δ5 k2 XF)(q:N (acc++items2.map G)):InR items2 wg2 Qu1 we δ4 acc N:=by
 refine Qxj (λd=>some (G d)) hl (λd hd k1 k2 _ h2=>?_) (by rw[show items2.filterMap (λd=>some (G d))=items2.map G from by rw[<- List.filterMap_eq_map];rfl];exact q);have hh:=h d hd k2 (h2 _ rfl);simp only[Qu1,if_true];exact hh
def QlL:List V->Hp->VK->Prop:=λxs H Q=>∃l ns,xs=[.ref l]/\H l=some (.lst ((ns:List Int).map V.int))/\ns.length<64 /\
 ∀t ms H2,Same H H2->H t=none->H2 t=some (.lst ((ms:List Int).map V.int))->ms.Perm ns->ms.Pairwise (·<=·)->Q (.ref t) H2
section
open Rs PySem.W PySem.Calls
variable{X:Cx}
theorem QiT:CallR X (.builtin "sorted") QlL:=by
 intro pins s σ H xs us Q I r h;obtain⟨l,ns,rfl,hl,h64,q⟩:=h;obtain⟨u,rfl,ru⟩:=vals1 r;cases ru;obtain⟨hz,its,n,rv,ho⟩:=I.hok l _ hl;have li:=rv.length;rw[Qe] at li;refine QdQ (.inl rfl) ho rfl rfl (by omega) λh' kp P E' hP=>?_
 have hn:(h'.push (seqObj "list" its.toArray 0)).get? h'.objs.size=some (seqObj "list" its.toArray 0):=QD _ rfl;refine list_sort_tree (s:={ s with heap:=h'.push (seqObj "list" its.toArray 0) }) hn (Qgn rv) (by omega) λout ns' ia pm pw=>hP _ ?_
 have I1:Inv X pins σ H { s with heap:=h' }:=I.kept (t':=s.toks) kp;have hf:H h'.objs.size=none:=I1.hok.fresh (Qj _);obtain⟨e,he⟩:∃e,(sortedHeap (h'.push (seqObj "list" its.toArray 0)) h'.objs.size its out).get? h'.objs.size=some (seqObj "list" out e):=sortedHeap_at hn
 have rv':=QgB ia;have lp:=pm.length_eq;have I2:Inv X pins σ (upd H h'.objs.size (.lst (ns'.map V.int))) { s with heap:=sortedHeap (h'.push (seqObj "list" its.toArray 0)) h'.objs.size its out }:=
  I1.laid (t':=s.toks) (λb x e'=>(sortedHeap_old (QF (Qp e')) (QR (Qp e') (by rw[size_push'];exact Nat.le_succ _))).trans (Qd _ e')) (Qj _) (show ObjOk X.prog X.w _ _ _ (.lst _) from⟨by rw[Qe];exact Z8 (Rk.QbU (by omega)),out.toList,e,rv',by rw[he]⟩)
 exact⟨.ref h'.objs.size,_,I2,rfl,q _ ns' _ (JC hf) hf JB pm pw⟩
def Qrr(K:PySem.W.Frag):List V->Hp->VK->Prop:=λxs H Q=>Qrq K xs H Q∨QlL xs H Q
theorem QkJ:CallR X (.builtin "sorted") (Qrr X.K):=by
 intro pins s σ H xs us Q I r h;rcases h with h | h
 ·exact QkI pins s σ H xs us Q I r h
 ·exact QiT pins s σ H xs us Q I r h
end
@[irreducible] def Qlx:List Qb->(Qb->Prop)->Prop
 |[.list ds],Q=>∃ns,Qcu ds=some ns/\ns.length<64/\∀ms:List Int,ms.Perm ns->ms.Pairwise (·<=·)->Q (.list (ms.map .int))
 |[.tuple ds],Q=>∃ns,Qcu ds=some ns/\ns.length<64/\∀ms:List Int,ms.Perm ns->ms.Pairwise (·<=·)->Q (.list (ms.map .int))
 |_,_=>False
theorem Qcc{A:Addr->Prop}{H:Hp}:∀ms:List Int,DAs A H (ms.map V.int) (ms.map .int)
 |[]=>.nil
 |m::ms=>.cons (.int m) (Qcc ms)
theorem QuE{K:PySem.W.Frag}:QcG (Qrr K) Qlx:=λA P H vs ds R Q ln dm q h k=>by
 unfold Qlx at h;split at h
 ·obtain⟨v,rfl,hv⟩:=pd1 q;obtain⟨bs,hb,h64,hR⟩:=h;rw[QiL hb] at hv;obtain⟨l,xs,rfl,e,qq⟩:=hv.list;rw[Qcf qq] at e;exact .inr ⟨l,bs,rfl,e,h64,λt ms H2 s n e2 pm pw=>k _ (hR ms pm pw) _ H2 s (QdV dm s n e2 (Qcc ms)) (QaQ n)⟩
 ·obtain⟨v,rfl,hv⟩:=pd1 q;obtain⟨bs,hb,h64,hR⟩:=h;rw[QiL hb] at hv;obtain⟨l,xs,rfl,e,qq⟩:=hv.tuple;rw[Qcf qq] at e;exact .inl ⟨l,bs,rfl,SqT.of e,h64,λt ms H2 s n e2 pm pw=>k _ (hR ms pm pw) _ H2 s (QdV dm s n e2 (Qcc ms)) (QaQ n)⟩
 ·exact h.elim
theorem QsB{ds:List Qb}{Q:Qb->Prop}{ns:List Int}(h:Qcu ds=some ns)(h64:ns.length<64)(k:∀ms:List Int,ms.Perm ns->ms.Pairwise (·<=·)->Q (.list (ms.map .int))):Qlx [.list ds] Q/\Qlx [.tuple ds] Q:=by
 unfold Qlx;exact⟨⟨ns,h,h64,k⟩,ns,h,h64,k⟩
end Dl
namespace PySem
namespace AutoSeq1
open PyProof
end AutoSeq1
end PySem
namespace L2
end L2
namespace Dl
open L2 _root_.Rd Rk
section
variable{X:Cx}{E:XK}
end
theorem Qng{K:PySem.W.Frag}{E:XK}{cap:List (Option Nat)}{ix:List Nat}{wi:DI}{wg:DG}{wt:DT}{we:DE}(hf:QbX cap ix=true)(σ:L2.St)(H:Hp)(Q:VK)(h:tX .F K E (dComp cap wi wg wt we) σ H Q) :
  tComp cap (tI .P K E wi) (tG ix K wg) (tT K E0 wt) (tX .D K E0 we) σ H Q:=by
 obtain⟨F,δ,R,EX,rel,hw,k,o⟩:=h;refine⟨F,δ,_,EX,rel,hw,λitems hC J H1 rel1 kp1 ⟨ln,it⟩ p hp=>?_,o⟩;unfold QiY at hC;obtain⟨Iv,i0,step,fin⟩:=hC;have hpn:¬Yj σ δ p:=λz=>by obtain⟨xs,e⟩:=rel1.isl (Y5 (F:=F) z);rw[hp] at e;cases e
 let A1:Addr->Prop:=λa=>Av F σ δ a∨a=p
 have hP:∀a,Yj σ δ a->A1 a:=λa z=>.inl (Y5 z)
 have hN:∀a,A1 a->Av F σ δ a∨H1 a=none:=λa z=>z.elim .inl λz=>.inr (by rw[z];exact hp)
 have dmK:∀{H2:Hp},Kp σ δ H1 H2->(∃ys,H2 p=some (.lst ys))->∀a,A1 a->∃xs,H2 a=some (.lst xs):=λ{H2} k2 e2 a z=>by
  rcases z with z | z
  ·exact(rel1.kp k2).isl z
  ·rw[z];exact e2
 refine Qdy items.length (λi H2=>i<=items.length/\∃acc,Iv i acc/\acc.length<=i/\Lp σ δ A1 p H1 H2 acc) ⟨Qu _,[],i0,Qj _,Kp.same rel1 (JC hp),[],JB,.nil⟩ (λi H2 hi ⟨_,acc,iv,hl,lp⟩=>?_) λH2 ⟨_,acc,iv,hl,lp⟩=>?_
 ·obtain⟨k2,ys,e2,q2⟩:=lp;obtain⟨go,_⟩:=it H2 A1 (λb o n e=>k2.1 b o n e) hN (dmK k2 ⟨ys,e2⟩);have hd:items[i]? = some items[i]:=Qf hi;obtain⟨g1,g2⟩:=go i _ hd;refine⟨g1,λx H3 y kk hk=>?_⟩;obtain⟨s3,dx⟩:=g2 x H3 y;have k23:=Kp.same (rel1.kp k2) s3;have lp3:Lp σ δ A1 p H1 H3 acc:=Lp.step hP hpn ⟨k2,ys,e2,q2⟩ k23;refine Qlm hf rel1 (λa z=>.inl z) hN (dmK lp3.kp ⟨ys,s3 _ _ e2⟩) lp3.kp dx (step i acc _ hd iv) (λσ4 δ4 H5 h5 r5 k5 pots=>?_) λh5 H5 k5=>hk _ ⟨hi,acc,h5,by omega,lp3.step hP hpn k5⟩
  exact QrR (.inr rfl) hP hp hpn (lp3.step hP hpn k5) (by omega) r5 pots h5 λe he H' lp'=>hk _ ⟨hi,acc++[e],he,by rw[Qw];show _+1<=_;omega,lp'⟩
 ·obtain⟨k2,ys,e2,q2⟩:=lp;obtain⟨_,st⟩:=it H2 A1 (λb o n e=>k2.1 b o n e) hN (dmK k2 ⟨ys,e2⟩);refine⟨st,k _ (fin acc iv) (.ref p) H2 (rel1.kp k2) (kp1.trans k2) ⟨.lst (λz=>?_) e2 (q2.mv (λ_ _ _ e=>e) λa z=>.inl (.inl z)),λl e1 _=>?_⟩⟩
  ·obtain⟨xs,e⟩:=rel1.isl z;rw[hp] at e;cases e
  ·cases e1;exact Qbv kp1 hp
theorem QAo{K:PySem.W.Frag}{E:XK}{w:DE}(σ:L2.St)(H:Hp)(Q:VK)(h:tX .D K E w σ H Q):tX .F K E w σ H Q:=by
 obtain⟨F,δ,R,EX,rel,hw,k,o⟩:=h;exact⟨F,δ,R,EX,rel,hw,λd hd v H' r kp vk=>k d hd v H' r kp vk.1,o⟩
section
variable{X:Cx}{E:XK}
theorem QsR(M:List Str)(cap:List (Option Nat))(i:Nat){elt tg iter:Q3}{ifs:List Q3}{scope:YM}{pos py spos:Pos}{y:Str}{ix:List Nat}{wi:DI}{wg:DG}{wt:DT}{we:DE}(hN:X.N.Nodup)(hi:QI .P X E tg iter wi)(hb:∀cl ex s3 H3 C,QG ix (blk X M scope cl ex s3 H3 C) tg wg/\QTs (blk X M scope cl ex s3 H3 C) E0 ifs wt/\QE .D (blk X M scope cl ex s3 H3 C) E0 elt we)(hiy:X.N[i]? = some y:=by rfl)(hly:X.env.scope.names.lookup y=some .local:=by rfl)(hc:X.calm=true:=by rfl)(ok:QeV X.N X.env.scope M scope cap=true:=by rfl)(hf:QbX cap ix=true:=by rfl)(hs:∀x,foldedSetIterable iter X.env x=pure x:=by intro _;rfl)(hsw:swapsWith (.ListComp elt [⟨tg,iter,ifs,0⟩] scope pos) (some (.Name y py)) spos.line X.env=pure true:=by rfl):QS X E (.Assign [.Name y py] (.ListComp elt [⟨tg,iter,ifs,0⟩] scope pos) spos) (Qyl i (dComp cap wi wg wt we)):=
 ⟨Qiw (PS.imp (PS.imp (QoB hN hiy hly hc ok hi.h (λcl ex s3 H3 C=>⟨(hb cl ex s3 H3 C).1.h,(hb cl ex s3 H3 C).2.1.h,(hb cl ex s3 H3 C).2.2.h⟩) hs hsw) λD σ H q=>Qng (E:=E) hf σ H _ q) λD σ H q=>QAo σ H _ q)⟩
end
theorem QfA{K:PySem.W.Frag}{E:XK}{cap:List (Option Nat)}{ix ix2:List Nat}{wi wi2:DI}{wg wg2:DG}{wt wt2:DT}{we:DE}(gok:GOk wg)(hf:QbX cap ix=true)(hf2:QbX cap ix2=true)(hd:ix2.all (λi => !ix.contains i)=true)(σ:L2.St)(H:Hp)(Q:VK)(h:tX .F K E (Qnc cap wi wg wt wi2 wg2 wt2 we) σ H Q) :
  Qrg cap (tI .P K E wi) (tG ix K wg) (tT K E0 wt) (tI .D K E0 wi2) (tG ix2 K wg2) (tT K E0 wt2) (tX .D K E0 we) σ H Q:=by
 obtain⟨F,δ,R,EX,rel,hw,k,o⟩:=h;refine⟨F,δ,_,EX,rel,hw,λitems hC J H1 rel1 kp1 ⟨ln,it⟩ p hp=>?_,o⟩;unfold QjY at hC;obtain⟨Iv,i0,step,fin⟩:=hC;have hpn:¬Yj σ δ p:=λz=>by obtain⟨xs,e⟩:=rel1.isl (Y5 (F:=F) z);rw[hp] at e;cases e
 let A1:Addr->Prop:=λa=>Av F σ δ a∨a=p
 have hP:∀a,Yj σ δ a->A1 a:=λa z=>.inl (Y5 z)
 have hN:∀a,A1 a->Av F σ δ a∨H1 a=none:=λa z=>z.elim .inl λz=>.inr (by rw[z];exact hp)
 have dmK:∀{H2:Hp},Kp σ δ H1 H2->(∃ys,H2 p=some (.lst ys))->∀a,A1 a->∃xs,H2 a=some (.lst xs):=λ{H2} k2 e2 a z=>by
  rcases z with z | z
  ·exact(rel1.kp k2).isl z
  ·rw[z];exact e2
 refine Qdy items.length (λi H2=>i<=items.length/\∃acc,Iv i acc/\Lp σ δ A1 p H1 H2 acc) ⟨Qu _,[],i0,Kp.same rel1 (JC hp),[],JB,.nil⟩ (λi H2 hi ⟨_,acc,iv,lp⟩=>?_) λH2 ⟨_,acc,iv,lp⟩=>?_
 ·obtain⟨k2,ys,e2,q2⟩:=lp;obtain⟨go,_⟩:=it H2 A1 (λb o n e=>k2.1 b o n e) hN (dmK k2 ⟨ys,e2⟩);have hd':items[i]? = some items[i]:=Qf hi;obtain⟨g1,g2⟩:=go i _ hd';refine⟨g1,λx H3 y kk hk=>?_⟩;obtain⟨s3,dx⟩:=g2 x H3 y;have k23:=Kp.same (rel1.kp k2) s3;have lp3:Lp σ δ A1 p H1 H3 acc:=Lp.step hP hpn ⟨k2,ys,e2,q2⟩ k23;refine Qn8 gok hf rel1 (λa z=>.inl z) hN (dmK lp3.kp ⟨ys,s3 _ _ e2⟩) lp3.kp dx (step i acc _ hd' iv) (λσ4 δ4 H5 h5 r5 k5 j4 l4 g4=>?_) λh5 H5 k5=>hk _ ⟨hi,acc,h5,lp3.step hP hpn k5⟩
  have av4:∀{H:Hp}{a:Addr},Av (inF A1 cap σ δ H) σ4 δ4 a->A1 a:=λ{H a} z=>QrL hP hf j4 g4 z
  refine⟨inF A1 cap σ δ H3,δ4,_,XF,r5,h5,λitems2 hJ J2 H7 rel7 kp7 ⟨ln2,it2⟩=>?_,Qma⟩;unfold InR at hJ;obtain⟨Jv,z0,step2,fin2⟩:=hJ;have pots4:∀{b:Addr},Yj σ4 δ4 b->Yj σ δ b:=λ{b} z=>by
   obtain⟨j,z1,z2⟩:=z;rcases g4 j _ z2 with⟨e,z⟩ | z
   ·cases z
   ·exact QcD ⟨j,by rw[<- j4 j (Qen hf z (λz=>by cases z))];exact z1,z⟩
  have k57:Kp σ δ H5 H7:=by
   refine⟨λb o n e=>kp7.1 b o (λz=>n (pots4 z)) e,λb hb=>?_⟩;by_cases z:Yj σ4 δ4 b
   ·exact kp7.2 b z
   ·obtain⟨n,e⟩:=k5.2 b hb;exact⟨n,kp7.1 _ _ z e⟩
  refine Qdy items2.length (λj H8=>j<=items2.length/\∃acc2,Jv j acc2/\Lp σ δ A1 p H1 H8 acc2/\∀b o,¬A1 b->H7 b=some o->H8 b=some o) ⟨Qu _,acc,z0,(lp3.step hP hpn k5).step hP hpn k57,λ_ _ _ e=>e⟩ (λj H8 hj ⟨_,acc2,jv,lp8,s78⟩=>?_) λH8 ⟨_,acc2,jv,lp8,s78⟩=>?_
  ·obtain⟨ys8,e8,q8⟩:=lp8.at_;obtain⟨go2,_⟩:=it2 H8 A1 (λb o n e=>s78 b o (λz=>n (.inl z)) e) (λb z=>.inl (.inl z)) (dmK lp8.kp ⟨ys8,e8⟩);have hd2:items2[j]? = some items2[j]:=Qf hj;obtain⟨g3,g5⟩:=go2 j _ hd2;refine⟨g3,λx2 H9 y2 kk2 hk2=>?_⟩;obtain⟨s9,dx2⟩:=g5 x2 H9 y2;have k89:=Kp.same (rel1.kp lp8.kp) s9;have lp9:Lp σ δ A1 p H1 H9 acc2:=lp8.step hP hpn k89;have ri:=QmJ (cap:=cap) rel1 (λa z=>.inl z) hN (dmK lp9.kp ⟨ys8,s9 _ _ e8⟩) lp9.kp;have r9:=Quf hP hf j4 g4 ri r5 λa o n e=>s9 _ _ (s78 a o n (k57.1 a o (λz=>n (hP a z)) e))
   obtain⟨hl2,hw2⟩:=step2 j acc2 _ hd2 jv;refine⟨inF A1 cap σ δ H9,δ4,_,_,r9,dx2.mv (λ_ _ _ e=>e) λa z=>.inl (av4 z),hw2,λδ5 h6 σ5 r10 st5 l5 j5=>⟨Qn4 l5 λi v e=>?_,inF A1 cap σ δ H9,δ5,_,XF,r10,h6,λb hb H10 r11 kp11=>?_,Qma⟩⟩
   ·by_cases z:i∈ix2
    ·have n1:i∉ix:=λz2=>by
      have:=Zi.mp hd i z;simp[z2] at this
     rw[j4 i n1] at e;rcases Qgu e with⟨_,e2⟩ | ⟨j,hj2,_⟩
     ·cases e2
     ·rw[QmT hf2 z] at hj2;cases hj2
    ·rw[j5 i z];exact e
   ·have pots:∀{b:Addr},Yj σ5 δ5 b->Yj σ δ b:=λz=>QiM r10 (λb o _ e1 e2=>by rw[e2] at e1;cases e1) z
    have K10:Kp σ δ H9 H10:=by
     refine⟨λb o n e=>kp11.1 b o (λz=>n (pots z)) e,λb hb=>?_⟩;by_cases z:Yj σ5 δ5 b
     ·exact kp11.2 b z
     ·obtain⟨n,e⟩:=lp9.kp.2 b hb;exact⟨n,kp11.1 _ _ z e⟩
    have s710:∀b o,¬A1 b->H7 b=some o->H10 b=some o:=λb o n e=>K10.1 b o (λz=>n (hP b z)) (s9 _ _ (s78 b o n e))
    refine QcZ hb (λz=>?_) λz=>hk2 _ ⟨hj,acc2,z,lp9.step hP hpn K10,s710⟩
    exact Qut (.inr rfl) hP hp hpn (lp9.step hP hpn K10) (QR hl2 Qpr) r11 (λb=>pots) z λe he H' lp' kk'=>hk2 _ ⟨hj,acc2++[e],he,lp',λb o n e=>kk' b o n (s710 b o n e)⟩
  ·obtain⟨ys8,e8,q8⟩:=lp8.at_;obtain⟨_,st2⟩:=it2 H8 A1 (λb o n e=>s78 b o (λz=>n (.inl z)) e) (λb z=>.inl (.inl z)) (dmK lp8.kp ⟨ys8,e8⟩);exact⟨st2,hk _ ⟨hi,acc2,fin2 acc2 jv,lp8⟩⟩
 ·obtain⟨k2,ys,e2,q2⟩:=lp;obtain⟨_,st⟩:=it H2 A1 (λb o n e=>k2.1 b o n e) hN (dmK k2 ⟨ys,e2⟩);refine⟨st,k _ (fin acc iv) (.ref p) H2 (rel1.kp k2) (kp1.trans k2) ⟨.lst (λz=>?_) e2 (q2.mv (λ_ _ _ e=>e) λa z=>.inl (.inl z)),λl e1 _=>?_⟩⟩
  ·obtain⟨xs,e⟩:=rel1.isl z;rw[hp] at e;cases e
  ·cases e1;exact Qbv kp1 hp
section
variable{X:Cx}{E:XK}
theorem QlO(M:List Str)(cap:List (Option Nat))(i:Nat){elt tg iter tg2 iter2:Q3}{ifs ifs2:List Q3}{scope:YM}{pos py spos:Pos}{y:Str}{ix ix2:List Nat}{wi wi2:DI}{wg wg2:DG}{wt wt2:DT}{we:DE}(hN:X.N.Nodup)(gok:GOk wg)(hi:QI .P X E tg iter wi)(hb:∀cl ex s3 H3 C,QG ix (blk X M scope cl ex s3 H3 C) tg wg/\QTs (blk X M scope cl ex s3 H3 C) E0 ifs wt/\QI .D (blk X M scope cl ex s3 H3 C) E0 tg2 iter2 wi2/\QG ix2 (blk X M scope cl ex s3 H3 C) tg2 wg2/\QTs (blk X M scope cl ex s3 H3 C) E0 ifs2 wt2/\QE .D (blk X M scope cl ex s3 H3 C) E0 elt we)(hiy:X.N[i]? = some y:=by rfl)(hly:X.env.scope.names.lookup y=some .local:=by rfl)(hc:X.calm=true:=by rfl)(ok:QeV X.N X.env.scope M scope cap=true:=by rfl)(hf:QbX cap ix=true:=by rfl)(hf2:QbX cap ix2=true:=by rfl)(hd:ix2.all (λi => !ix.contains i)=true:=by rfl)(hs:∀x,foldedSetIterable iter X.env x=pure x:=by intro _;rfl)(hs2:∀env x,foldedSetIterable iter2 env x=pure x:=by intro _ _;rfl)(hsw:swapsWith (.ListComp elt [⟨tg,iter,ifs,0⟩,⟨tg2,iter2,ifs2,0⟩] scope pos) (some (.Name y py)) spos.line X.env=pure true:=by rfl):QS X E (.Assign [.Name y py] (.ListComp elt [⟨tg,iter,ifs,0⟩,⟨tg2,iter2,ifs2,0⟩] scope pos) spos) (Quv i (Qnc cap wi wg wt wi2 wg2 wt2 we)):=
 ⟨Qjo (PS.imp (Qhc hN hiy hly hc ok hi.h (λcl ex s3 H3 C=>⟨(hb cl ex s3 H3 C).1.h,(hb cl ex s3 H3 C).2.1.h,(hb cl ex s3 H3 C).2.2.1.h,(hb cl ex s3 H3 C).2.2.2.1.h,(hb cl ex s3 H3 C).2.2.2.2.1.h,(hb cl ex s3 H3 C).2.2.2.2.2.h⟩) hs hs2 hsw) λD σ H q=>QfA (E:=E) gok hf hf2 hd σ H _ q)⟩
theorem Qot(M:List Str)(cap:List (Option Nat))(i:Nat){elt tg iter tg2 iter2:Q3}{ifs ifs2:List Q3}{scope:YM}{pos py spos:Pos}{y:Str}{ix ix2:List Nat}{wi wi2:DI}{wg wg2:DG}{wt wt2:DT}{we:DE}(hN:X.N.Nodup)(gok:GOk wg)(hi:QI .P X E tg iter wi)(hb:∀cl ex s3 H3 C,QG ix (blk X M scope cl ex s3 H3 C) tg wg/\QTs (blk X M scope cl ex s3 H3 C) E0 ifs wt/\QI .D (blk X M scope cl ex s3 H3 C) E0 tg2 iter2 wi2/\QG ix2 (blk X M scope cl ex s3 H3 C) tg2 wg2/\QTs (blk X M scope cl ex s3 H3 C) E0 ifs2 wt2/\QE .D (blk X M scope cl ex s3 H3 C) E0 elt we)(hiy:X.N[i]? = some y:=by rfl)(hly:X.env.scope.names.lookup y=some .local:=by rfl)(hc:X.calm=true:=by rfl)(ok:QeV X.N X.env.scope M scope cap=true:=by rfl)(hf:QbX cap ix=true:=by rfl)(hf2:QbX cap ix2=true:=by rfl)(hd:ix2.all (λi => !ix.contains i)=true:=by rfl)(hs:∀x,foldedSetIterable iter X.env x=pure x:=by intro _;rfl)(hs2:∀env x,foldedSetIterable iter2 env x=pure x:=by intro _ _;rfl)(hsw:swapsWith (.ListComp elt [⟨tg,iter,ifs,0⟩,⟨tg2,iter2,ifs2,0⟩] scope pos) (some (.Name y py)) spos.line X.env=pure true:=by rfl):QS X E (.Assign [.Name y py] (.ListComp elt [⟨tg,iter,ifs,0⟩,⟨tg2,iter2,ifs2,0⟩] scope pos) spos) (Qyl i (Qnc cap wi wg wt wi2 wg2 wt2 we)):=
 ⟨Qiw (PS.imp (PS.imp (Qhc hN hiy hly hc ok hi.h (λcl ex s3 H3 C=>⟨(hb cl ex s3 H3 C).1.h,(hb cl ex s3 H3 C).2.1.h,(hb cl ex s3 H3 C).2.2.1.h,(hb cl ex s3 H3 C).2.2.2.1.h,(hb cl ex s3 H3 C).2.2.2.2.1.h,(hb cl ex s3 H3 C).2.2.2.2.2.h⟩) hs hs2 hsw) λD σ H q=>QfA (E:=E) gok hf hf2 hd σ H _ q) λD σ H q=>QAo σ H _ q)⟩
end
def rkD:Qb->Nat
 |.int _=>0
 |.tuple _=>1
 |_=>2
def QiP(i j:Int):Ordering:=if i<j then .lt else if i=j then .eq else .gt
def QBb(i j:Nat):Ordering:=if i<j then .lt else if i=j then .eq else .gt
def thn(o:Ordering)(p:Ordering):Ordering:=match o with
 |.eq=>p
 |o=>o
mutual
def QcC:Qb->Qb->Ordering
 |.int i,.int j=>QiP i j
 |.tuple a,.tuple b=>QbZ a b
 |x,y=>QBb (rkD x) (rkD y)
def QbZ:List Qb->List Qb->Ordering
 |[],[]=>.eq
 |[],_::_=>.lt
 |_::_,[]=>.gt
 |x::xs,y::ys=>thn (QcC x y) (QbZ xs ys)
end
def isL:Ordering->Bool
 |.lt=>true
 |_=>false
def ltD(x y:Qb):Bool:=isL (QcC x y)
def Qt1(x y:List Qb):Bool:=isL (QbZ x y)
def sw:Ordering->Ordering
 |.lt=>.gt
 |.gt=>.lt
 |.eq=>.eq
def Qfy:Ordering->Bool
 |.gt=>false
 |_=>true
theorem Qvx(a b:Ordering):sw (thn a b)=thn (sw a) (sw b):=by cases a<;>rfl
theorem QuA(i j:Int):QiP j i=sw (QiP i j):=by
 unfold QiP;by_cases h:i<j
 ·rw[if_neg (by omega),if_neg (by omega),if_pos h];rfl
 ·by_cases h2:i=j
  ·rw[if_neg (by omega),if_pos h2.symm,if_neg h,if_pos h2];rfl
  ·rw[if_pos (by omega),if_neg h,if_neg h2];rfl
theorem QuB(i j:Int):Qfy (QiP i j)=decide (i<=j):=by
 unfold QiP;by_cases h:i<j
 ·rw[if_pos h];exact(decide_eq_true (by omega)).symm
 ·by_cases h2:i=j
  ·rw[if_neg h,if_pos h2];exact(decide_eq_true (by omega)).symm
  ·rw[if_neg h,if_neg h2];exact(decide_eq_false (by omega)).symm
mutual
theorem QdF:∀(x y:Qb),QcC y x=sw (QcC x y)
 |.int i,.int j=>QuA i j
 |.tuple a,.tuple b=>QjT a b
 |.int _,.tuple _=>rfl
 |.tuple _,.int _=>rfl
 |.int _,.none=>rfl
 |.int _,.bool _=>rfl
 |.int _,.str _=>rfl
 |.int _,.list _=>rfl
 |.int _,.dict _=>rfl
 |.tuple _,.none=>rfl
 |.tuple _,.bool _=>rfl
 |.tuple _,.str _=>rfl
 |.tuple _,.list _=>rfl
 |.tuple _,.dict _=>rfl
 |.none,y=>by cases y<;>rfl
 |.bool _,y=>by cases y<;>rfl
 |.str _,y=>by cases y<;>rfl
 |.list _,y=>by cases y<;>rfl
 |.dict _,y=>by cases y<;>rfl
theorem QjT:∀(xs ys:List Qb),QbZ ys xs=sw (QbZ xs ys)
 |[],[]=>rfl
 |[],_::_=>rfl
 |_::_,[]=>rfl
 |x::xs,y::ys=>by
  show thn (QcC y x) (QbZ ys xs)=sw (thn (QcC x y) (QbZ xs ys));rw[QdF x y,QjT xs ys,Qvx]
end
theorem Qw8{a c:Ordering}(hab:Qfy a=true)(h:Qfy (sw c)=true->Qfy (sw a)=true)(ha:a=.lt):c=.lt:=by
 subst ha;cases c with
 |lt=>rfl
 |eq=>cases h rfl
 |gt=>cases h rfl
mutual
theorem Qgs:∀(x y z:Qb),Qfy (QcC x y)=true->Qfy (QcC y z)=true->Qfy (QcC x z)=true
 |.int i,.int j,.int k,h1,h2=>by
  have h1:Qfy (QiP i j)=true:=h1;have h2:Qfy (QiP j k)=true:=h2;show Qfy (QiP i k)=true;rw[QuB] at h1 h2 ⊢;have a:=of_decide_eq_true h1;have b:=of_decide_eq_true h2;exact decide_eq_true (by omega)
 |.tuple a,.tuple b,.tuple c,h1,h2=>QjS a b c h1 h2
 |.int _,y,.tuple _,h1,h2=>rfl
 |.int _,.tuple _,.int _,h1,h2=>by cases h2
 |.tuple _,.int _,z,h1,h2=>by cases h1
 |.tuple _,.tuple _,.int _,h1,h2=>by cases h2
 |.int _,y,.none,_,_=>rfl
 |.int _,y,.bool _,_,_=>rfl
 |.int _,y,.str _,_,_=>rfl
 |.int _,y,.list _,_,_=>rfl
 |.int _,y,.dict _,_,_=>rfl
 |.tuple _,y,.none,_,_=>rfl
 |.tuple _,y,.bool _,_,_=>rfl
 |.tuple _,y,.str _,_,_=>rfl
 |.tuple _,y,.list _,_,_=>rfl
 |.tuple _,y,.dict _,_,_=>rfl
 |.int _,.none,.int _,h1,h2=>by cases h2
 |.int _,.bool _,.int _,h1,h2=>by cases h2
 |.int _,.str _,.int _,h1,h2=>by cases h2
 |.int _,.list _,.int _,h1,h2=>by cases h2
 |.int _,.dict _,.int _,h1,h2=>by cases h2
 |.tuple _,.none,.int _,h1,h2=>by cases h2
 |.tuple _,.bool _,.int _,h1,h2=>by cases h2
 |.tuple _,.str _,.int _,h1,h2=>by cases h2
 |.tuple _,.list _,.int _,h1,h2=>by cases h2
 |.tuple _,.dict _,.int _,h1,h2=>by cases h2
 |.tuple _,.none,.tuple _,h1,h2=>by cases h2
 |.tuple _,.bool _,.tuple _,h1,h2=>by cases h2
 |.tuple _,.str _,.tuple _,h1,h2=>by cases h2
 |.tuple _,.list _,.tuple _,h1,h2=>by cases h2
 |.tuple _,.dict _,.tuple _,h1,h2=>by cases h2
 |.none,y,z,h1,h2=>by cases y<;>cases z<;>first | rfl | (cases h1;done) | (cases h2;done)
 |.bool _,y,z,h1,h2=>by cases y<;>cases z<;>first | rfl | (cases h1;done) | (cases h2;done)
 |.str _,y,z,h1,h2=>by cases y<;>cases z<;>first | rfl | (cases h1;done) | (cases h2;done)
 |.list _,y,z,h1,h2=>by cases y<;>cases z<;>first | rfl | (cases h1;done) | (cases h2;done)
 |.dict _,y,z,h1,h2=>by cases y<;>cases z<;>first | rfl | (cases h1;done) | (cases h2;done)
 termination_by x y z=>sizeOf x+sizeOf y+sizeOf z
theorem QjS:∀(xs ys zs:List Qb),Qfy (QbZ xs ys)=true->Qfy (QbZ ys zs)=true->Qfy (QbZ xs zs)=true
 |[],_,[],_,_=>rfl
 |[],_,_::_,_,_=>rfl
 |_::_,[],_,h1,_=>by cases h1
 |_::_,_::_,[],_,h2=>by cases h2
 |x::xs,y::ys,z::zs,h1,h2=>by
  have h1:Qfy (thn (QcC x y) (QbZ xs ys))=true:=h1;have h2:Qfy (thn (QcC y z) (QbZ ys zs))=true:=h2;show Qfy (thn (QcC x z) (QbZ xs zs))=true;have a1:Qfy (QcC x y)=true:=by cases e:QcC x y<;>rw[e] at h1<;>first | rfl | cases h1
  have a2:Qfy (QcC y z)=true:=by cases e:QcC y z<;>rw[e] at h2<;>first | rfl | cases h2
  have a3:=Qgs x y z a1 a2;cases e1:QcC x y with
  |gt=>rw[e1] at a1;cases a1
  |lt=>
   have:QcC x z=.lt:=Qw8 (a:=QcC x y) a1 (λq=>by
    rw[<- QdF x z] at q;rw[<- QdF x y];exact Qgs y z x a2 q) e1
   rw[this];rfl
  |eq=>
   cases e2:QcC y z with
   |gt=>rw[e2] at a2;cases a2
   |lt=>
    have:QcC x z=.lt:=Qw8 (a:=QcC y z) a2 (λq=>by
     rw[<- QdF x z] at q;rw[<- QdF y z];exact Qgs z x y q a1) e2
    rw[this];rfl
   |eq=>
    rw[e1] at h1;rw[e2] at h2;cases e3:QcC x z with
    |gt=>rw[e3] at a3;cases a3
    |lt=>rfl
    |eq=>exact QjS xs ys zs h1 h2
 termination_by x y z=>sizeOf x+sizeOf y+sizeOf z
end
theorem Qxh(o:Ordering):isL (sw o) = !Qfy o:=by cases o<;>rfl
theorem QrD(x y:Qb):ltD y x = !Qfy (QcC x y):=by unfold ltD;rw[QdF x y,Qxh]
theorem Qpq(x y:Qb)(h:ltD x y=true):ltD y x=false:=by
 rw[QrD];unfold ltD at h;cases e:QcC x y<;>rw[e] at h<;>first | rfl | cases h
theorem Qw6(x y z:Qb)(h1:ltD y x=false)(h2:ltD z y=false):ltD z x=false:=by
 rw[QrD] at h1 h2 ⊢;rw[Qgs x y z (by simpa using h1) (by simpa using h2)];rfl
mutual
def Qk0:Qb->Qb->Bool
 |.int _,.int _=>true
 |.tuple a,.tuple b=>Qc3 a b
 |_,_=>false
def Qc3:List Qb->List Qb->Bool
 |x::xs,y::ys=>Qk0 x y&&Qc3 xs ys
 |_,_=>true
end
def isE:Ordering->Bool
 |.eq=>true
 |_=>false
theorem Quc(a b:Ordering):isE (thn a b)=(isE a&&isE b):=by cases a<;>rfl
mutual
theorem Qm0:∀(x y:Qb),Qk0 x y=true->JD x y=isE (QcC x y)
 |.int i,.int j,_=>by
  show(i == j)=isE (QiP i j);unfold QiP;by_cases h:i=j
  ·subst h;simp[isE]
  ·rw[beq_eq_false_iff_ne.mpr h];split
   ·rfl
   ·rfl
 |.tuple a,.tuple b,h=>QmZ a b h
 |.int _,.tuple _,h=>by cases h
 |.tuple _,.int _,h=>by cases h
 |.int _,.none,h=>by cases h
 |.int _,.bool _,h=>by cases h
 |.int _,.str _,h=>by cases h
 |.int _,.list _,h=>by cases h
 |.int _,.dict _,h=>by cases h
 |.tuple _,.none,h=>by cases h
 |.tuple _,.bool _,h=>by cases h
 |.tuple _,.str _,h=>by cases h
 |.tuple _,.list _,h=>by cases h
 |.tuple _,.dict _,h=>by cases h
 |.none,y,h=>by cases y<;>cases h
 |.bool _,y,h=>by cases y<;>cases h
 |.str _,y,h=>by cases y<;>cases h
 |.list _,y,h=>by cases y<;>cases h
 |.dict _,y,h=>by cases y<;>cases h
theorem QmZ:∀(xs ys:List Qb),Qc3 xs ys=true->QuT xs ys=isE (QbZ xs ys)
 |[],[],_=>rfl
 |[],_::_,_=>rfl
 |_::_,[],_=>rfl
 |x::xs,y::ys,h=>by
  have h:=Qs.mp (show(Qk0 x y&&Qc3 xs ys)=true from h);show(JD x y&&QuT xs ys)=isE (thn (QcC x y) (QbZ xs ys));rw[Qm0 x y h.1,QmZ xs ys h.2,Quc]
end
end Dl
namespace Rt
open PySem.Calls Dl
theorem QeP:∀{ds:List Qb}{d:Qb},d∈ds->d.depth<=Jl ds
 |x::ds,d,h=>by
  show d.depth<=max x.depth (Jl ds);rcases Qv.mp h with z | z
  ·subst z;exact Nat.le_max_left _ _
  ·exact Jb (QeP z) (QfJ _ _)
theorem readsAll_len{h:Heap}:∀{vs:List Value}{ds:List Qb}{as:List Addr},YS h vs ds as->vs.length=ds.length
 |_,_,_,.nil=>rfl
 |_,_,_,.cons _ r=>by rw[Qy,Qy,readsAll_len r]
section
open PySem.SeqAt
open PySem.AutoSeq1 (wpAny_loadPart')
open PySem.MeetsSeq PySem.MeetsSeq2 PySem.MeetsSeq3
theorem QdP{l b:Addr}{items items2:Array Value}{n n2:Nat}{dd dd2:Option Addr}{sl sl2:Array (Option Value)}{ds es:List Qb}{as bs:List Addr}{N:Nat}(hk:Qc3 ds es=true)(hc1:Jc ds=true)(hc2:Jc es=true)(hd:Jl ds<=N)
  (ih:∀(x y:Qb)(A:Q2)(s:Shared)(v u:Value)(p q:List Addr),Qbf s.heap v x p->Qbf s.heap u y q->x.canLay0=true->y.canLay0=true->Qk0 x y=true->x.depth<=N->A.units+2*N+2<cLine->∀(prog:QC)(w:Ja)(E Q:Value->Shared->Prop),Q (.bool (ltD x y)) s->wpAny (model prog w) A (richCompare .Lt v u) Q E s) :
  Meets (Yn.«tuple.__lt__» ⟨[.ref l,.ref b],[]⟩)
   (λA R s=>s.heap.get? l=some { cls:=.type "tuple",dict:=dd,data:=.seq items n,slots:=sl }/\s.heap.get? b=some { cls:=.type "tuple",dict:=dd2,data:=.seq items2 n2,slots:=sl2 }/\YS s.heap items.toList ds as/\YS s.heap items2.toList es bs/\A.units+2*N+4<cLine /\
    R (.ok (.ret (.bool (Qt1 ds es)))) s):=
 .of_wp λprog w A R s h=>by
  obtain⟨hp,g,d,tk,os⟩:=s;obtain⟨hl,hb,hr1,hr2,hu,h⟩:=h;have f2:=AutoSeq1.sub_tuple_tuple;have hu1:A.in1.units+2*N+2<cLine:=by show A.units+1+2*N+2<cLine;omega
  have z1:items.size=ds.length:=by rw[<- readsAll_len hr1];simp
  have z2:items2.size=es.length:=by rw[<- readsAll_len hr2];simp
  wp_walk using Z4 hl,Z4 hb,Qc7 _ (λrest b s'=>b.1=none/\s'=⟨hp,g,d,tk,os⟩/\∃(vs ws:List Value)(xs ys:List Qb)(p q:List Addr),rest=vs.zip ws /\
   YS hp vs xs p/\YS hp ws ys q/\Qc3 xs ys=true/\Jc xs=true/\Jc ys=true/\Jl xs<=N/\xs.length+items2.size=ys.length+items.size/\R (.ok (.ret (.bool (Qt1 xs ys)))) ⟨hp,g,d,tk,os⟩) _
  case turn=>
   rintro⟨y,x⟩ rest b s' ⟨hb',rfl,vs,ws,xs,ys,p,q,hz,hvi,hwi,hkk,c1,c2,hdd,hlen,hR⟩;cases hvi with
   |nil=>rw[List.zip_nil_left] at hz;cases hz
   |@cons v0 vs0 d1 ds1 as1 as2 r1 hvi'=>
    cases hwi with
    |nil=>rw[List.zip_nil_right] at hz;cases hz
    |@cons u0 us0 d2 ds2 bs1 bs2 r2 hwi'=>
     rw[Qee] at hz;injection hz with hyx hrest
     injection hyx with hy hx
     subst hy hx;have hkk:=Qs.mp (show(Qk0 d1 d2&&Qc3 ds1 ds2)=true from hkk);simp only[Jc,JS] at c1 c2;have dm1:d1.depth<=N:=Jb (QeP (ds:=d1::ds1) (.head _)) hdd;have dm2:Jl ds1<=N:=Jb (show Jl ds1<=max d1.depth (Jl ds1) from QfJ _ _) hdd;simp only[Qy] at hlen;have he:=Qe1 d1 d2 A.in1 ⟨hp,g,d,tk,os⟩ y x _ _ r1 r2 c1.1 c2.1 (by omega);have hR:R (.ok (.ret (.bool (isL (thn (QcC d1 d2) (QbZ ds1 ds2)))))) ⟨hp,g,d,tk,os⟩:=hR;rw[Qm0 d1 d2 hkk.1] at he;have hri:=λE Q=>ih d1 d2 A.in1 ⟨hp,g,d,tk,os⟩ y x _ _ r1 r2 c1.1 c2.1 hkk.1 dm1 hu1 prog w E Q
     unfold ltD at hri;cases e1:QcC d1 d2 with
     |lt=>
      rw[e1] at he hR hri;refine wpAny_bind (he prog w _ _ ?_)
      wp_walk using hri
      exact⟨_,rfl,hR⟩
     |gt=>
      rw[e1] at he hR hri;refine wpAny_bind (he prog w _ _ ?_)
      wp_walk using hri
      exact⟨_,rfl,hR⟩
     |eq=>
      rw[e1] at he hR;refine wpAny_bind (he prog w _ _ ?_)
      wp_walk
      exact⟨rfl,rfl,_,_,_,_,_,_,hrest,hvi',hwi',hkk.2,c1.2,c2.2,dm2,by omega,hR⟩
  case fin=>
   rintro⟨b1,b2⟩ s' ⟨hb',rfl,vs,ws,xs,ys,p,q,hz,hvi,hwi,hkk,c1,c2,hdd,hlen,hR⟩;simp only at hb';subst hb';have hv:Qt1 xs ys=decide (items.size<items2.size):=by
    cases hvi with
    |nil=>
     cases hwi with
     |nil=>
      simp only[QcK] at hlen;exact(decide_eq_false (by omega)).symm
     |cons r2 hw=>
      simp only[QcK,Qy] at hlen;exact(decide_eq_true (by omega)).symm
    |cons r1 hv=>
     cases hwi with
     |nil=>
      simp only[QcK,Qy] at hlen;exact(decide_eq_false (by omega)).symm
     |cons r2 hw=>
      rw[Qee] at hz;cases hz
   rw[hv] at hR
   wp_walk
   exact⟨_,rfl,by simpa [QyP] using hR⟩
  case h=>
   exact⟨rfl,rfl,items.toList,items2.toList,ds,es,as,bs,rfl,hr1,hr2,hk,hc1,hc2,hd,by omega,h⟩
end
end Rt
namespace Rt
open PySem.Calls PySem.W Dl
mutual
def okK:Qb->Bool
 |.int _=>true
 |.tuple ds=>QiA ds
 |_=>false
def QiA:List Qb->Bool
 |[]=>true
 |d::ds=>okK d&&QiA ds
end
mutual
theorem Qdu{h h':Heap}(k:∀b o,h.get? b=some o->h'.get? b=some o):∀(d:Qb)(v:Value)(as:List Addr),okK d=true->Qbf h v d as->Qbf h' v d as
 |.int _,_,_,_,.int i t=>.int i t
 |.tuple ds,_,_,hk,.tuple (vs:=vs) e c d r=>.tuple (k _ _ e) c d (QaE k ds _ _ hk r)
 |.none,_,_,hk,_=>by cases hk
 |.bool _,_,_,hk,_=>by cases hk
 |.str _,_,_,hk,_=>by cases hk
 |.list _,_,_,hk,_=>by cases hk
 |.dict _,_,_,hk,_=>by cases hk
theorem QaE{h h':Heap}(k:∀b o,h.get? b=some o->h'.get? b=some o):∀(ds:List Qb)(vs:List Value)(as:List Addr),QiA ds=true->YS h vs ds as->YS h' vs ds as
 |[],_,_,_,.nil=>.nil
 |d::ds,_,_,hk,.cons r rs=>by
  have hk:=Qs.mp (show(okK d&&QiA ds)=true from hk);exact .cons (Qdu k d _ _ hk.1 r) (QaE k ds _ _ hk.2 rs)
end
theorem QvW:∀(N:Nat)(x y:Qb)(A:Q2)(s:Shared)(v u:Value)(p q:List Addr),Qbf s.heap v x p->Qbf s.heap u y q->x.canLay0=true->y.canLay0=true->Qk0 x y=true->x.depth<=N->A.units+2*N+2<cLine->∀(prog:QC)(w:Ja)(E Q:Value->Shared->Prop),Q (.bool (ltD x y)) s->wpAny (model prog w) A (richCompare .Lt v u) Q E s:=by
 intro N;have intz:∀(i j:Int)(A:Q2)(s:Shared)(v u:Value)(p q:List Addr),Qbf s.heap v (.int i) p->Qbf s.heap u (.int j) q->∀(prog:QC)(w:Ja)(E Q:Value->Shared->Prop),Q (.bool (ltD (.int i) (.int j))) s->wpAny (model prog w) A (richCompare .Lt v u) Q E s:=by
  intro i j A s v u p q r1 r2 prog w E Q h;cases r1;cases r2;refine HT.Qor A s i _ j _ prog w E Q ?_
  have e:ltD (.int i) (.int j)=decide (i<j):=by
   show isL (QiP i j)=_;unfold QiP;by_cases z:i<j
   ·rw[if_pos z,decide_eq_true z];rfl
   ·rw[if_neg z,decide_eq_false z];split<;>rfl
  rw[e] at h;exact h
 induction N with
 |zero=>
  intro x y A s v u p q r1 r2 c1 c2 hk hd hu prog w E Q h;cases x<;>cases y<;>first | (cases hk;done) | skip
  ·exact intz _ _ A s v u p q r1 r2 prog w E Q h
  ·unfold Qbg at hd;omega
 |succ N ih=>
  intro x y A s v u p q r1 r2 c1 c2 hk hd hu prog w E Q h;cases x<;>cases y<;>first | (cases hk;done) | skip
  ·exact intz _ _ A s v u p q r1 r2 prog w E Q h
  ·rename_i ds es
   cases r1 with
   |@tuple a o vs n _ _ ho hc hd' ra=>
    cases r2 with
    |@tuple b o2 vs2 n2 _ _ ho2 hc2 hd2 rb=>
     obtain⟨cls,dd,data,sl⟩:=o;obtain⟨cls2,dd2,data2,sl2⟩:=o2;simp only at hc hd' hc2 hd2;subst hc hd' hc2 hd2;have dd3:Jl ds<=N:=by unfold Qbg at hd;omega
     exact richCompare_meets_room (op:=.Lt) ⟨_,ho,rfl⟩ ⟨_,ho2,rfl⟩ PySem.F.slot_tuple_lt PySem.F.entry_tuple_lt (PySem.F.args_tuple_lt_2 _ _) (QdP (N:=N) hk c1 c2 dd3 ih)
      ⟨ho,ho2,ra,rb,by omega,show Z3 (Qt1 ds es)≠QkR/\Q (.bool (Qt1 ds es)) s from⟨(λx=>nomatch x),h⟩⟩ (by omega)
theorem Qkp{N:Nat}{ds es:List Qb}{A:Q2}{s:Shared}{v u:Value}{p q:List Addr}(r1:Qbf s.heap v (.tuple ds) p)(r2:Qbf s.heap u (.tuple es) q)(c1:Jc ds=true)(c2:Jc es=true)(hk:Qc3 ds es=true)(hd:Jl ds<=N)(hu:A.units+2*N+4<cLine){prog:QC}{w:Ja}{E:Value->Shared->Prop}{C:Bool->Shared->Prop}(h:C (Qt1 ds es) s):wpAny (model prog w) A (oneLt' true v u) C E s:=by
 cases r1 with
 |@tuple a o vs n _ _ ho hc hd' ra=>
  cases r2 with
  |@tuple b o2 vs2 n2 _ _ ho2 hc2 hd2 rb=>
   obtain⟨cls,dd,data,sl⟩:=o;obtain⟨cls2,dd2,data2,sl2⟩:=o2;simp only at hc hd' hc2 hd2;subst hc hd' hc2 hd2;rw[oneLt'_eq];simp only[if_true];refine wpAny_bind (wpAny_cRoomFor (by omega) ?_);refine wpAny_bind (wpAny_callSpecialIfBound?_slot ⟨_,ho,rfl⟩ PySem.F.slot_tuple_lt (QaW PySem.F.slot_tuple_lt ⟨_,ho,rfl⟩ PySem.F.entry_tuple_lt (PySem.F.args_tuple_lt_2 _ _) (QdP (N:=N) hk c1 c2 hd λx y=>QvW N x y) ⟨ho,ho2,ra,rb,hu,?_⟩));exact Zc h
section
variable{prog:QC}{w:Ja}{A:Q2}{E:Value->Shared->Prop}{s:Shared}
theorem QrB{N:Nat}{x y:Qb}{v u:Value}{p q:List Addr}(r1:Qbf s.heap v x p)(r2:Qbf s.heap u y q)(c1:x.canLay0=true)(c2:y.canLay0=true)(hk:Qk0 x y=true)(hd:x.depth<=N)(hu:A.units+2*N+2<cLine){C:Bool->Shared->Prop}(h:C (ltD x y) s):wpAny (model prog w) A (oneLt' false v u) C E s:=by
 refine kat_one v u ?_
 exact QvW N x y A s v u p q r1 r2 c1 c2 hk hd hu prog w E _ h
theorem Qmv(i j:Int):ltD (.int i) (.int j)=decide (i<j):=by
 show isL (QiP i j)=_;unfold QiP;by_cases z:i<j
 ·rw[if_pos z,decide_eq_true z];rfl
 ·rw[if_neg z,decide_eq_false z];split<;>rfl
def Quh:List Qb->Prop
 |.int _::_=>True
 |_=>False
theorem QrF{b:Bool}{n1 n2 N:Nat}{C:Bool->Shared->Prop}(hu:A.units+2*N+2<cLine):∀(vs us:List Value)(xs ys:List Qb)(p q:List Addr)(i:Nat),YS s.heap vs xs p->YS s.heap us ys q->Jc xs=true->Jc ys=true->Qc3 xs ys=true->Jl xs<=N->(b=true->i=0->Quh xs)->xs.length+n2=ys.length+n1 ->
  C (Qt1 xs ys) s->KatLex prog w A b (decide (n1<n2)) C (vs.zip us) i s
 |[],us,xs,ys,p,q,i,r1,r2,c1,c2,hk,hd,hb,hl,h=>by
  cases r1;refine kat_nil ?_
  cases r2 with
  |nil=>rw[show decide (n1<n2)=false from decide_eq_false (by simp at hl;omega)];exact h
  |cons r rs=>rw[show decide (n1<n2)=true from decide_eq_true (by simp at hl;omega)];exact h
 |v::vs,[],xs,ys,p,q,i,r1,r2,c1,c2,hk,hd,hb,hl,h=>by
  cases r2;cases r1;refine kat_nil ?_
  rw[show decide (n1<n2)=false from decide_eq_false (by simp at hl;omega)];exact h
 |v::vs,u::us,xs,ys,p,q,i,r1,r2,c1,c2,hk,hd,hb,hl,h=>by
  cases r1 with
  |@cons _ _ d1 ds1 as1 as2 r1 rs1=>
   cases r2 with
   |@cons _ _ d2 ds2 bs1 bs2 r2 rs2=>
    have hk:=Qs.mp (show(Qk0 d1 d2&&Qc3 ds1 ds2)=true from hk);simp only[Jc,JS] at c1 c2;have dm1:d1.depth<=N:=Jb (QeP (ds:=d1::ds1) (.head _)) hd;have dm2:Jl ds1<=N:=Jb (show Jl ds1<=max d1.depth (Jl ds1) from QfJ _ _) hd;have h:C (isL (thn (QcC d1 d2) (QbZ ds1 ds2))) s:=h;have one:C (ltD d1 d2) s->wpAny (model prog w) A (oneLt' (b&&i == 0) v u) C (λ_ _=>False) s:=λhc=>by
     cases e:(b&&i == 0) with
     |false=>exact QrB (N:=N) r1 r2 c1.1 c2.1 hk.1 dm1 hu hc
     |true=>
      have e:=Qs.mp e;have hh:=hb e.1 (beq_iff_eq.mp e.2);cases d1<;>first | exact hh.elim | skip
      cases d2<;>first | (cases hk.1;done) | skip
      cases r1;cases r2;rw[Qmv] at hc;exact oneLt_int hc
    refine kat_cons (Qe1 d1 d2 A s v u _ _ r1 r2 c1.1 c2.1 (by omega) prog w _ _ ?_);rw[Qm0 d1 d2 hk.1];cases e1:QcC d1 d2 with
    |lt=>rw[e1] at h;exact kat_no (one (by unfold ltD;rw[e1];exact h))
    |gt=>rw[e1] at h;exact kat_no (one (by unfold ltD;rw[e1];exact h))
    |eq=>
     rw[e1] at h;refine kat_yes (QrF hu vs us ds1 ds2 _ _ (i+1) rs1 rs2 c1.2 c2.2 hk.2 dm2 (λ_ z=>by omega) (by simp only[Qy] at hl;omega) h)
def QpX(ds:List Qb)(κ:Yd):Prop:=κ=general'∨κ=oneType'∨κ=tuples' false∨(κ=tuples' true/\∀d∈ds,∃es,d=.tuple es/\Quh es)
theorem Qxc{N:Nat}{ds:List Qb}{κ:Yd}{x y:Qb}{v u:Value}{p q:List Addr}(su:QpX ds κ)(hx:x∈ds)(r1:Qbf s.heap v x p)(r2:Qbf s.heap u y q)(c1:x.canLay0=true)(c2:y.canLay0=true)(hk:Qk0 x y=true)(tb:∀b,κ=tuples' b->∃es,x=.tuple es)(hd:x.depth<=N)(hu:A.units+2*N+4<cLine){C:Bool->Shared->Prop}(h:C (ltD x y) s) :
  wpAny (model prog w) A (keyLt' κ v u) C E s:=by
 have tup:∀b,κ=tuples' b->(b=true->∃es,x=.tuple es/\Quh es)->wpAny (model prog w) A (keyLt' κ v u) C E s:=λb hb hh=>by
  subst hb;obtain⟨es,rfl⟩:=tb b rfl;cases y<;>first | (cases hk;done) | skip
  rename_i fs
  cases r1 with
  |@tuple a o vs n _ _ ho hc hd' ra=>
   cases r2 with
   |@tuple b2 o2 vs2 n2 _ _ ho2 hc2 hd2 rb=>
    have dd3:Jl es<=N:=by unfold Qbg at hd;omega
    refine kat_lt ho hd' ho2 hd2 (QrF (N:=N) (by omega) _ _ es fs _ _ 0 ra rb c1 c2 hk dd3 (λe _=>?_) ?_ h)
    ·obtain⟨es',e',hh⟩:=hh e;cases e';exact hh
    ·have e1:=readsAll_len ra;have e2:=readsAll_len rb;rw[Qc] at e1 e2;omega
 rcases su with rfl | rfl | rfl | ⟨rfl,hall⟩
 ·exact QrB (N:=N) r1 r2 c1 c2 hk hd (by omega) h
 ·cases x<;>cases y<;>first | (cases hk;done) | skip
  ·cases r1;cases r2;rw[Qmv] at h;exact oneLt_int h
  ·have dd3:∀{es:List Qb},(Zm es).depth<=N->Jl es<=N:=λ{es} h=>by unfold Qbg at h;omega
   exact Qkp (N:=N) r1 r2 c1 c2 hk (dd3 hd) hu h
 ·exact tup false rfl λe=>by cases e
 ·exact tup true rfl λ_=>hall x hx
end
section
variable{M:Qj6}{A:Q2}{E:Value->Shared->Prop}{s:Shared}
theorem Qfw{α β:Type}{f:α->Sem β}{g:α->β}:∀(l:List α){Q:List β->Shared->Prop},(∀v∈l,∀(Q':β->Shared->Prop),Q' (g v) s->wpAny M A (f v) Q' E s)->Q (l.map g) s->wpAny M A (l.mapM f) Q E s
 |[],_,_,h=>by rw[List.mapM_nil];exact wpAny_pure h
 |x::l,Q,hf,h=>by
  rw[List.mapM_cons];exact wpAny_bind (hf x (.head _) _ (wpAny_bind (Qfw l (Q:=λbs s'=>wpAny M A (pure (g x::bs)) Q E s') (λv hv=>hf v (.tail _ hv)) (wpAny_pure h))))
end
def Qh0(h:Heap)(v:Value):Option Value:=match v with
 |.ref a=>(match h.get? a with
  |some o=>(match o.data with
   |.seq xs _=>xs[0]?
   |_=>none)
  |none=>none)
 |_=>none
def tyV(h:Heap)(v:Value):Value:=match v with
 |.int _ _=>.type "int"
 |.ref a=>(match h.get? a with
  |some o=>o.cls
  |none=>.none)
 |_=>.none
theorem YV:∀{ds:List Qb},QiA ds=true->∀d∈ds,okK d=true
 |x::ds,h,d,hd=>by
  have h:=Qs.mp (show(okK x&&QiA ds)=true from h);rcases Qv.mp hd with z | z
  ·rw[z];exact h.1
  ·exact YV h.2 d z
theorem Qmk:∀{ds:List Qb},(∀d∈ds,okK d=true)->QiA ds=true
 |[],_=>rfl
 |x::ds,h=>by
  show(okK x&&QiA ds)=true;rw[h x (.head _),Qmk λd hd=>h d (.tail _ hd)];rfl
theorem ZW{h:Heap}:∀{vs:List Value}{ds:List Qb}{as:List Addr},YS h vs ds as->∀v∈vs,∃d∈ds,∃bs,Qbf h v d bs
 |_,_,_,.cons (d:=d) r rs,v,hv=>by
  rcases Qv.mp hv with z | z
  ·rw[z];exact⟨d,.head _,_,r⟩
  ·obtain⟨d',hd,bs,r'⟩:=ZW rs v z;exact⟨d',.tail _ hd,bs,r'⟩
theorem QcV{h:Heap}:∀{vs:List Value}{ds:List Qb}{as:List Addr},YS h vs ds as->∀d∈ds,∃v∈vs,∃bs,Qbf h v d bs
 |_,_,_,.cons (d:=d) (v:=v) r rs,d',hd=>by
  rcases Qv.mp hd with z | z
  ·rw[z];exact⟨v,.head _,_,r⟩
  ·obtain⟨v',hv,bs,r'⟩:=QcV rs d' z;exact⟨v',.tail _ hv,bs,r'⟩
section
variable{prog:QC}{w:Ja}{A:Q2}{E:Value->Shared->Prop}{s:Shared}
theorem Qid{v:Value}{d:Qb}{bs:List Addr}(r:Qbf s.heap v d bs)(hk:okK d=true){Q:Value->Shared->Prop}(q:Q (tyV s.heap v) s):wpAny (model prog w) A (typeOf v) Q E s:=by
 cases r<;>first | (cases hk;done) | skip
 ·exact wpAny_pure q
 ·rename_i a o vs n xs ho hc hd ra
  refine wpAny_typeOf_ref ho ?_
  have e:tyV s.heap (.ref a)=o.cls:=by unfold tyV;simp only[ho]
  rw[e] at q;exact q
theorem QjF{vs:List Value}{ds:List Qb}{as:List Addr}{Q:Yd->Shared->Prop}(ra:YS s.heap vs ds as)(hk:QiA ds=true)(ht:∀d∈ds,∃es,d=.tuple es)(h:∀κ,QpX ds κ->Q κ s):wpAny (model prog w) A (keyKind' vs.toArray) Q E s:=by
 have rd:=ZW ra;have fs:∀v∈vs,∀(Q':Option Value->Shared->Prop),Q' (Qh0 s.heap v) s->wpAny (model prog w) A (firstOfTuple' v) Q' E s:=λv hv Q' q=>by
  obtain⟨d,hd,bs,r⟩:=rd v hv;obtain⟨es,rfl⟩:=ht d hd;cases r with
  |@tuple a o xs n _ _ ho hc hd' r'=>
   rw[kas_first_eq];refine wpAny_bind (wpAny_typeOf_ref ho ?_);rw[hc];rw[if_neg (by decide)];refine wpAny_bind (Qr8 ho hd' (wpAny_pure ?_));have e:Qh0 s.heap (.ref a)=xs[0]? := by unfold Qh0;simp only[ho,hd']
   rw[<- e];exact q
 rw[keyKind'_eq,Qaz,map_eq_pure_bind];refine wpAny_bind (wpAny_bind (Qfw (g:=Qh0 s.heap) vs fs (wpAny_pure ?_)));by_cases z:((vs.map (Qh0 s.heap)).toArray.all λx=>x.isSome)=true
 ·rw[if_pos z];refine wpAny_bind (wpAny_rule ?_);have hfm:((vs.map (Qh0 s.heap)).toArray.filterMap id)=(vs.filterMap (Qh0 s.heap)).toArray:=by simp[Qbr]
  have heads:∀u∈vs.filterMap (Qh0 s.heap),∃d bs,Qbf s.heap u d bs/\okK d=true:=λu hu=>by
   obtain⟨v,hv,e⟩:=Zs.mp hu;obtain⟨d,hd,bs,r⟩:=rd v hv;obtain⟨es,rfl⟩:=ht d hd;have ko:=YV hk _ hd;cases r with
   |@tuple a o xs n _ _ ho hc hd' r'=>
    have e2:Qh0 s.heap (.ref a)=xs[0]? := by unfold Qh0;simp only[ho,hd']
    rw[e2] at e;have hm:u∈xs.toList:=by rw[<- Q8] at e;exact QK e
    obtain⟨d2,hd2,bs2,r2⟩:=ZW r' u hm;exact⟨d2,bs2,r2,YV ko _ hd2⟩
  rw[hfm,Qj0,Qaz,map_eq_pure_bind];refine wpAny_bind (wpAny_bind (wpAny_bind (Qfw (g:=tyV s.heap) _ (λu hu Q' q=>?_) (wpAny_pure ?_))))
  ·obtain⟨d,bs,r,ko⟩:=heads u hu;exact Qid r ko q
  ·have fin:∀o:Option Value,(o.any (· != Z2 "tuple")=true->∀u∈vs.filterMap (Qh0 s.heap),tyV s.heap u≠Z2 "tuple")->Q (tuples' (o.any (· != Z2 "tuple"))) s:=λo ho=>by
    cases e:o.any (· != Z2 "tuple") with
    |false=>exact h _ (.inr (.inr (.inl rfl)))
    |true=>
     refine h _ (.inr (.inr (.inr ⟨rfl,λd hd=>?_⟩)));obtain⟨es,rfl⟩:=ht d hd;obtain⟨v,hv,bs,r⟩:=QcV ra _ hd;refine⟨es,rfl,?_⟩;have ko:=YV hk _ hd;cases r with
     |@tuple a oo xs n _ _ ho' hc hd' r'=>
      have e2:Qh0 s.heap (.ref a)=xs[0]? := by unfold Qh0;simp only[ho',hd']
      have some1:(Qh0 s.heap (.ref a)).isSome=true:=by
       have z':=Qeg.mp z (Qh0 s.heap (QQ a)) (by simp;exact⟨_,hv,rfl⟩);exact z'
      rw[e2] at some1;obtain⟨u,hu⟩:=QgS.mp some1;have hl:=(Z1.mp hu).1;have nt:=ho e u (Zs.mpr ⟨_,hv,by rw[e2];exact hu⟩);have hu':xs.toList[0]? = some u:=by rw[Q8];exact hu
      cases hx:xs.toList with
      |nil=>rw[hx] at hu';cases hu'
      |cons u0 us=>
       rw[hx] at hu' r';have e0:u0=u:=by simpa using hu'
       subst e0;cases r' with
       |@cons _ _ d1 ds1 as1 as2 r1 rs1=>
        have ko1:=(Qs.mp (show(okK d1&&QiA ds1)=true from ko)).1;cases r1<;>first | (cases ko1;done) | skip
        ·trivial
        ·rename_i a2 o2 vs2 n2 xs2 ho2 hc2 hd2 ra2
         exfalso
         apply nt
         unfold tyV;simp only[ho2];exact hc2
   cases hg:((vs.filterMap (Qh0 s.heap)).map (tyV s.heap)).toArray[0]? with
   |none=>exact wpAny_pure (wpAny_pure (fin none λe=>by cases e))
   |some t=>
    dsimp only
    refine wpAny_pure (wpAny_pure (fin _ λe u hu=>?_));split at e
    ·rename_i hall
     have ne:(t != Z2 "tuple")=true:=e;have te:(tyV s.heap u == t)=true:=by
      have:=Qeg.mp hall (tyV s.heap u) (by simp;exact⟨u,by simpa using Zs.mp hu,rfl⟩);exact this
     rw[eq_of_beq te]
     simpa using ne
    ·cases e
 ·rw[if_neg z];split
  ·exact wpAny_pure (h _ (.inl rfl))
  ·rw[Qj0,Qaz,map_eq_pure_bind];refine wpAny_bind (wpAny_bind (wpAny_bind (Qfw (g:=tyV s.heap) _ (λv hv Q' q=>?_) (wpAny_pure ?_))))
   ·obtain⟨d,hd,bs,r⟩:=rd v hv;exact Qid r (YV hk _ hd) q
   ·have fin:∀b:Bool,wpAny (model prog w) A (pure (if b=true then oneType' else general')) Q E s:=λb=>by
     cases b
     ·exact wpAny_pure (h _ (.inl rfl))
     ·exact wpAny_pure (h _ (.inr (.inl rfl)))
    split
    ·exact wpAny_pure (fin _)
    ·exact wpAny_pure (fin _)
end
end Rt
namespace Rt
open PySem.Calls PySem.W Dl Rs
section
variable{prog:QC}{w:Ja}{A:Q2}{E:Value->Shared->Prop}{s:Shared}
def prs(vs:List Value):Array Keyed:=vs.toArray.zip vs.toArray
theorem Qek(vs:List Value):(prs vs).toList=vs.zip vs:=by unfold prs;rw[Qra]
theorem Qs1(vs:List Value):(prs vs).toList.map (·.2)=vs:=by rw[Qek];exact Qsi (Qj _)
theorem QcT:∀{vs:List Value}{p:Keyed},p∈vs.zip vs->p.1=p.2/\p.2∈vs
 |v::vs,p,h=>by
  rw[Qee] at h;rcases Qv.mp h with z | z
  ·rw[z];exact⟨rfl,.head _⟩
  ·exact⟨(QcT z).1,.tail _ (QcT z).2⟩
theorem Qgl{a:Addr}{vs:List Value}{n:Nat}{P:PySem.Fin->Shared->Prop}(ho:s.heap.get? a=some (seqObj "list" vs.toArray n))(hz:vs.length<=sizeLine){c:Keyed->Keyed->Bool}(oc:Ord c)
  (hkind:∀h':Heap,Kept a s.heap h'->∀(Q':Yd->Shared->Prop)(E':Value->Shared->Prop),(∀κ,Asks prog w A { s with heap:=h' } κ (prs vs) c->Q' κ { s with heap:=h' })->wpAny (model prog w) A (keyKind' vs.toArray) Q' E' { s with heap:=h' })
  (h:∀arr:Array Keyed,arr.Perm (prs vs)->Sg c arr 0 arr.size->∀(h':Heap)(e:Nat),Kept a s.heap h'->h'.get? a=some (seqObj "list" (arr.toList.map (·.2)).toArray e)->P (.done (.ret .none)) { s with heap:=h' }) :
  wpAny (model prog w) A (Yn.«list.sort» ⟨[.ref a],[]⟩) P E s:=by
 have ha:a<s.heap.objs.size:=Qp ho;obtain⟨e1,ho1⟩:∃e1,(s.heap.update a (J4 λ_=>(#[]:Array Value))).get? a=some (seqObj "list" #[] e1):=⟨_,QbH ho λ_=>#[]⟩
 have K3:Kept a s.heap (((s.heap.update a (J4 λ_=>(#[]:Array Value))).push (seqObj "tuple" vs.toArray 0)).push (seqObj "list" #[] 0)):=(Qb7 _).trans ((QcW _).trans (QcW _));have ho6:(((s.heap.update a (J4 λ_=>(#[]:Array Value))).push (seqObj "tuple" vs.toArray 0)).push (seqObj "list" #[] 0)).get? a=some (seqObj "list" #[] e1):=Qd _ (Qd _ ho1);rw[list_sort_plain];refine wpAny_bind (Qr8 ho rfl ?_);refine wpAny_bind (Qbo ho rfl ?_ (by rw[Qr];exact hz) (Qu _));refine wpAny_bind (QcM ho1 rfl ?_);refine wpAny_bind (Qk1 ?_ (by show vs.length<=_;exact hz));refine wpAny_bind (QfE ?_ (Qu _));refine JL ?_
 show wpAny (model prog w) A _ P E { s with heap:=((s.heap.update a (J4 λ_=>(#[]:Array Value))).push (seqObj "tuple" vs.toArray 0)).push (seqObj "list" #[] 0) }
 dsimp only
 generalize (((s.heap.update a (J4 λ_=>(#[]:Array Value))).push (seqObj "tuple" vs.toArray 0)).push (seqObj "list" #[] 0))=h3 at K3 ho6 ⊢;have out:∀arr:Array Keyed,arr.map (·.2)=(arr.toList.map (·.2)).toArray:=λarr=>by
  apply Qb6.mp
  rw[Qrb]
 have psz:(prs vs).size=vs.length:=by rw[<- Qc,Qek,List.length_zip,Qk9]
 by_cases h2:vs.toArray.size<2
 ·rw[if_pos h2,if_pos h2];refine wpAny_bind (wpAny_pure ?_);rw[Qp0];refine wpAny_bind (wpAny_pure ?_)
  dsimp only
  have f:Sg c (prs vs) 0 (prs vs).size:=λi j _ hij hj=>by
   rw[psz] at hj;rw[Qr] at h2;rw[show i=j by omega];exact oc.irr _
  refine wpAny_bind (QcM ho6 rfl ?_);refine wpAny_bind (Qbo ho6 rfl ?_ (Qu _) (by rw[Qde];show(prs vs).size<=_;rw[(Qeh (prs vs)).size_eq,psz];omega));simp only[bne_self_eq_false,Zw,if_false];show wpAny _ _ (ret JI) _ _ { s with heap:=h3.update a (J4 λ_=>Array.map (λx=>x.snd) (prs vs)) };rw[out];exact wpAny_pure (h (prs vs) (Qeh (prs vs)) (f) _ _ (K3.trans (Qb7 _)) (QbH ho6 λ_=>_))
 ·rw[if_neg h2,if_neg h2];refine wpAny_bind (hkind h3 K3 _ _ λκ hA=>?_);refine wpAny_bind (wpAny_mono (Qh8 (a₀:=prs vs) (κ:=κ) (st:=QnN κ (prs vs) #[] 7 none) (Q:=λ_ st'=>SB κ (prs vs) st'/\Sg c (arrOf st') 0 (prs vs).size) hA ⟨Qeh _,rfl,rfl⟩ rfl λst' b g=>⟨b,g⟩) ?_ λ_ _ e=>e);rintro⟨⟨⟩,st'⟩ s' ⟨rfl,b,g⟩
  dsimp only
  rw[b.failed];have g2:Sg c (arrOf st') 0 (arrOf st').size:=by rw[b.size];exact g
  refine wpAny_bind (QcM ho6 rfl ?_);refine wpAny_bind (Qbo ho6 rfl ?_ (Qu _) (by rw[Qde];show(arrOf st').size<=_;rw[(b.perm).size_eq,psz];omega));simp only[bne_self_eq_false,Zw,if_false];show wpAny _ _ (ret JI) _ _ { s with heap:=h3.update a (J4 λ_=>Array.map (λx=>x.snd) (arrOf st')) };rw[out];exact wpAny_pure (h (arrOf st') (b.perm) (g2) _ _ (K3.trans (Qb7 _)) (QbH ho6 λ_=>_))
open Classical in
noncomputable def rdV (h:Heap) (v:Value):Qb:=if q:∃d as,Qbf h v d as/\d.canLay0=true then q.choose else .none
theorem QlH{h:Heap}{v:Value}{d:Qb}{as:List Addr}(r:Qbf h v d as)(c:d.canLay0=true):rdV h v=d:=by
 unfold rdV;have q:∃d as,Qbf h v d as/\d.canLay0=true:=⟨d,as,r,c⟩
 rw[dif_pos q];obtain⟨as',r',c'⟩:=q.choose_spec;exact(QaU d _ v as as' c r r').symm
theorem Qhf{α β:Type}(f:α->β){l m:List β}(p:l.Perm m):∀{T:List α},m=T.map f->∃T':List α,T'.Perm T/\l=T'.map f:=by
 induction p with
 |nil=>intro T e;exact⟨T,Z0 _,e⟩
 |@cons x l1 l2 _ ih=>
  intro T e;cases T with
  |nil=>cases e
  |cons t T=>
   rw[Jd] at e;injection e with e1 e2
   obtain⟨T',p',e'⟩:=ih e2;exact⟨t::T',p'.cons t,by rw[Jd,<- e1,<- e']⟩
 |@swap x y l=>
  intro T e;cases T with
  |nil=>cases e
  |cons t T=>
   cases T with
   |nil=>rw[Jd] at e;injection e with e1 e2;cases e2
   |cons t2 T=>
    rw[Jd,Jd] at e;injection e with e1 e2
    injection e2 with e3 e4
    exact⟨t2::t::T,Qe6 t t2 T,by rw[Jd,Jd,<- e1,<- e3,<- e4]⟩
 |@trans l1 l2 l3 _ _ ih1 ih2=>
  intro T e;obtain⟨T2,p2,e2⟩:=ih2 e;obtain⟨T1,p1,e1⟩:=ih1 e2;exact⟨T1,p1.trans p2,e1⟩
end
mutual
theorem Qnh:∀(d:Qb),Qk0 d d=true->okK d=true
 |.int _,_=>rfl
 |.tuple ds,h=>QjR ds h
 |.none,h=>by cases h
 |.bool _,h=>by cases h
 |.str _,h=>by cases h
 |.list _,h=>by cases h
 |.dict _,h=>by cases h
theorem QjR:∀(ds:List Qb),Qc3 ds ds=true->QiA ds=true
 |[],_=>rfl
 |d::ds,h=>by
  have h:=Qs.mp (show(Qk0 d d&&Qc3 ds ds)=true from h);show(okK d&&QiA ds)=true;rw[Qnh d h.1,QjR ds h.2];rfl
end
mutual
theorem QeG:∀(d:Qb),okK d=true->d.canLay0=true
 |.int _,_=>rfl
 |.tuple ds,h=>Qjs ds h
 |.none,h=>by cases h
 |.bool _,h=>by cases h
 |.str _,h=>by cases h
 |.list _,h=>by cases h
 |.dict _,h=>by cases h
theorem Qjs:∀(ds:List Qb),QiA ds=true->Jc ds=true
 |[],_=>rfl
 |d::ds,h=>by
  have h:=Qs.mp (show(okK d&&QiA ds)=true from h);simp only[Jc,QeG d h.1,Qjs ds h.2,Bool.and_self]
end
structure QjX (ds:List Qb):Prop where
 cmp:∀x∈ds,∀y∈ds,Qk0 x y=true
 dep:∀x∈ds,x.depth<=20
end Rt
namespace L2
open PySem.Calls _root_.Rd _root_.Rk _root_.Rs Rt Dl
structure Trp where
 x:V
 v:Value
 d:Qb
theorem Qvw{H:Hp}:∀{xs:List V}{ds:List Qb}{vs:List Value},Dats H xs ds->Vals xs vs->∃T:List Trp,xs=T.map (·.x)/\vs=T.map (·.v)/\ds=T.map (·.d)/\∀t∈T,Dat H t.x t.d/\RelV t.x t.v
 |_,_,_,.nil,.nil=>⟨[],rfl,rfl,rfl,λ_ h=>nomatch h⟩
 |_,_,_,.cons q qs,.cons r rs=>by
  obtain⟨T,e1,e2,e3,h⟩:=Qvw qs rs;refine⟨⟨_,_,_⟩::T,by rw[e1];rfl,by rw[e2];rfl,by rw[e3];rfl,λt ht=>?_⟩;rcases Qv.mp ht with z | z
  ·rw[z];exact⟨q,r⟩
  ·exact h t z
theorem Qrd{H:Hp}:∀{T:List Trp},(∀t∈T,Dat H t.x t.d/\RelV t.x t.v)->Dats H (T.map (·.x)) (T.map (·.d))/\Vals (T.map (·.x)) (T.map (·.v))
 |[],_=>⟨.nil,.nil⟩
 |t::T,h=>by
  obtain⟨a,b⟩:=Qrd (T:=T) λt ht=>h t (.tail _ ht)
  exact⟨.cons (h t (.head _)).1 a,.cons (h t (.head _)).2 b⟩
section
variable{X:Cx}
end
end L2
namespace Dl
open L2 _root_.Rd Rk Rt
end Dl
namespace L2
open PySem.Calls _root_.Rd _root_.Rk Rt
section
variable{X:Cx}
end
end L2
namespace Dl
open L2 _root_.Rd Rk Rt
section
variable{X:Cx}{E:XK}
end
end Dl
namespace Rk
open L2 _root_.Rd Dl
def inW(d:Qb)(a b:Int):Bool:=match d with
 |.int i=>decide (a<=i)&&decide (i<=b)
 |_=>false
theorem Qxk{i a b:Int}(h1:a<=i)(h2:i<=b):inW (.int i) a b=true:=by
 show(decide (a<=i)&&decide (i<=b))=true;rw[decide_eq_true h1,decide_eq_true h2];rfl
theorem Qug{d:Qb}{a b:Int}(h:inW d a b=true):∃i,d=.int i/\a<=i/\i<=b:=by
 cases d<;>first | (cases h;done) | skip
 rename_i i
 have h:=Qs.mp (show(decide (a<=i)&&decide (i<=b))=true from h);exact⟨i,rfl,of_decide_eq_true h.1,of_decide_eq_true h.2⟩
def Qev:DF:=λargs R _=>∃d a b,args=[.v d,.v (.int a),.v (.int b)]/\R (.bool (inW d a b))
theorem Qgg(ns:List Int):nds (ns.map Qh)=true:=QtR.mpr λd hd=>by
 obtain⟨i,_,rfl⟩:=QL.mp hd;rfl
end Rk
namespace Rx
open PySem.Calls L2
section
variable{X:Cx}{e:Q3}{st:Yt}{rest:List Yt}{pos:Pos}{te:TX}{t u:TSX}
end
end Rx
namespace L2
open Dl
theorem FnOk.nofr{P:QC}{w:Ja}{K:PySem.W.Frag}{mg:Str->Option Value}{base:Heap}{CX:CXT}{k:Nat}{f:Addr}{fd:QP}{ps:List Str}{fD:DF}(F:FnOk P w K mg base CX k f fd ps (Zf true fD)):FnOk P w K mg base CX k f fd ps (Zf false fD):=
 F.imp λvs H Q E ⟨A,pt,args,R,EX,h1,h2,h3,h4,h5,h6⟩=>⟨A,pt,args,R,EX,h1,h2,h3,h4,λd hd v H' kq dv _=>h5 d hd v H' kq dv (λz=>by cases z),h6⟩
end L2
namespace Dl
open L2 _root_.Rd Rk
def tXx(m:Md)(K:PySem.W.Frag)(w:DE):Rx.TX:=λσ H Q Ex=>∃(F:Fm)(δ:Sts)(R:Qb->Prop)(EX:XP),Rel K F σ H δ/\w δ R EX/\(∀d,R d->∀v H',Rel K F σ H' δ->Kp σ δ H H'->Vok m F σ δ H H' v d->Q v H')/\∀C,EX C->∀H',Rel K F σ H' δ->Kp σ δ H H'->Ex C H'
structure EndsX (K:PySem.W.Frag) (F:Fm) (σ:L2.St) (H:Hp) (δ:Sts) (DD:Qeb) (D:L2.Ends) (Ex:Addr->Hp->Prop):Prop where
 nx:∀δ',DD.nx δ'->δ'=δ/\∀H',Rel K F σ H' δ->Kp σ δ H H'->D.nx σ H'
 rt:∀d,DD.rt d->∀v H',Ke F H'->DA F.A0 H' v d->D.rt v H'
 rtF:∀d,DD.rtF d->∀v H',Ke F H'->DA F.A0 H' v d->FrV F.H0 H' v->D.rt v H'
 ex:∀C,DD.ex C->∀H',Rel K F σ H' δ->Kp σ δ H H'->Ex C H'
def tSx(K:PySem.W.Frag)(w:DS):Rx.TSX:=λD σ H Ex=>∃(F:Fm)(δ:Sts)(DD:Qeb),Rel K F σ H δ/\w DD δ/\EndsX K F σ H δ DD D Ex
structure QX (m:Md) (X:Cx) (e:Q3) (w:DE):Prop where h:Rx.PEX X e (tXx m X.K w)
structure QSX (X:Cx) (st:Yt) (w:DS):Prop where h:Rx.PSX X st (tSx X.K w)
structure QSXs (X:Cx) (sts:List Yt) (w:DS):Prop where h:Rx.QxU X sts (tSx X.K w)
theorem EndsX.step{K:PySem.W.Frag}{F:Fm}{σ:L2.St}{H H1:Hp}{δ:Sts}{DD:Qeb}{D:L2.Ends}{Ex:Addr->Hp->Prop}(h:EndsX K F σ H δ DD D Ex)(k:Kp σ δ H H1):EndsX K F σ H1 δ DD D Ex:=
 ⟨λδ' h'=>⟨(h.nx δ' h').1,λH' r k'=>(h.nx δ' h').2 H' r (k.trans k')⟩,h.rt,h.rtF,λC hC H' r k'=>h.ex C hC H' r (k.trans k')⟩
section
variable{X:Cx}
theorem PEX.imp{e:Q3}{t t':Rx.TX}(h:Rx.PEX X e t)(i:∀σ H Q Ex,t' σ H Q Ex->t σ H Q Ex):Rx.PEX X e t':=λpins s σ H Q Ex I q=>h pins s σ H Q Ex I (i σ H Q Ex q)
theorem PSX.imp{e:Yt}{t t':Rx.TSX}(h:Rx.PSX X e t)(i:∀D σ H Ex,t' D σ H Ex->t D σ H Ex):Rx.PSX X e t':=λpins s σ H D Ex I q=>h pins s σ H D Ex I (i D σ H Ex q)
variable{k:Nat}{f:Addr}{fd:QP}{ps:List Str}{x:Str}{p pos:Pos}{e:Q3}{es:List Q3}{fD:DF}{wa:DSl}
theorem Qnq{m:Md}{fr:Bool}{K:PySem.W.Frag}{F:Fm}{σ:L2.St}{δ:Sts}{H H1:Hp}{R:Qb->Prop}{EX:XP}{Q:VK}{Ex:Addr->Hp->Prop}{vs:List V}{args:List Sl}(hm:∀{v:V}{d:Qb}{H':Hp},DA (Av F σ δ) H' v d->(fr=true->FrV H H' v)->Vok m F σ δ H H' v d)
  (k:∀d,R d->∀v H',Rel K F σ H' δ->Kp σ δ H H'->Vok m F σ δ H H' v d->Q v H')(kx:∀C,EX C->∀H',Rel K F σ H' δ->Kp σ δ H H'->Ex C H')(rel1:Rel K F σ H1 δ)(kp1:Kp σ δ H H1)(q:Yu (QhS (Av F σ δ) (Yj σ δ) H1) vs args)(ha:fD args R EX) :
  Zf fr fD vs H1 Q λcv _ H2=>∃C,cv=.ref C/\Ex C H2:=by
 refine⟨Av F σ δ,Yj σ δ,args,R,EX,λa ha=>rel1.isl ha,λp hp=>⟨Y5 hp,(Kp.refl rel1).2 p hp⟩,q,ha,λd hd v H' kq dv fr=>?_,λC hC H' kq=>⟨C,rfl,kx C hC H' (rel1.kp kq) (kp1.trans kq)⟩⟩;exact k d hd v H' (rel1.kp kq) (kp1.trans kq) (hm dv λz l e1 e2=>Qbv kp1 (fr z l e1 e2))
structure QFs (X:Cx) (es:List Q3) (fs:List (Addr×DF)):Prop where h:PA X.nox es (λσ H Q=>Q (fs.map λp=>V.ref p.1) H)
theorem QrO:QFs X [] []:=⟨ZP⟩
theorem Qcz{fs:List (Addr×DF)}{n:Str}{npos:Pos}(f:Addr)(fD:DF)(hg:Gl X.nox n)(hm:X.nox.mg n=some (.ref f))(hr:QFs X es fs)(hd:(n == ("__debug__" : Str))=false:=by decide):QFs X (.Name n npos::es) ((f,fD)::fs):=
 ⟨Qel (X:=X.nox) (Qiv (v:=.ref f) hg hm rfl hd) hr.h rfl⟩
def QxH(fs:List (Addr×DF))(wk:DE)(wa:DSl):DE:=λδ Q EX=>wk δ (λd=>match d with
 |.int i=>∃p,atI fs i=some p/\wa δ (λargs=>p.2 args Q EX) XF
 |_=>False) XF
theorem QuL{α β:Type}{xs:List α}{i:Int}{a:α}(g:α->β)(h:atI xs i=some a):atI (xs.map g) i=some (g a):=by
 unfold atI at h ⊢;rw[Qe];cases e:ixN xs.length i with
 |none=>rw[e] at h;cases h
 |some j=>rw[e] at h;show(xs.map g)[j]? = _;rw[Qz,show xs[j]? = some a from h];rfl
theorem QpU{α:Type}{xs:List α}{i:Int}{a:α}(h:atI xs i=some a):a∈xs:=by
 unfold atI at h;cases e:ixN xs.length i with
 |none=>rw[e] at h;cases h
 |some j=>rw[e] at h;exact QK h
theorem Qle{fs:List (Addr×DF)}{ls:List Q3}{ix:Q3}{wk:DE}{lpos spos:Pos}(hl:QFs X ls fs)(hM:∀q∈fs,Rx.QAH X q.1 (Zf false q.2))(hk:QE .P X.nox E0 ix wk)(ha:QAs X.nox E0 (e::es) wa)(hn:fs.length<=1000:=by simp)(hix:QgC ix:=by exact λ_ _=>rfl)(hex:X.ex=[]:=by rfl)
  (hfe:eval (.Call (.Subscript (.List ls lpos) ix spos) (e::es) [] pos) X.env=(do callWith pos (<- eval (.Subscript (.List ls lpos) ix spos) X.env) [] (backTo pos (starEach (e::es) X.env)) (backToKw pos (keywordEach [] X.env))):=by rfl)
  (he:starEach (e::es) X.env=(false,eval e X.env)::starEach es X.env:=by rfl)(hpl:(backTo pos (starEach es X.env)).any (·.1)=false:=by rfl) :
  QX .D X (.Call (.Subscript (.List ls lpos) ix spos) (e::es) [] pos) (QxH fs wk wa):=by
 refine⟨PEX.imp (Rx.QlX (M:=λf sp=>∃q∈fs,f=q.1/\sp=Zf false q.2) (λf sp ⟨q,hq,e1,e2⟩=>by rw[e1,e2];exact hM q hq) (Qiu (X:=X.nox) QdB (Qbt hl.h) hk.h hix) hex ha.h hfe he hpl) λσ H Q Ex ⟨F,δ,R,EX,rel,hw,k,kx⟩=>?_⟩;refine⟨by rw[Qe];exact hn,λl H0 s0 n0 e0=>⟨F,δ,_,XF,rel.same s0,hw,λd hd v H1 rel1 kp1 vk=>?_,Qma⟩⟩;cases d<;>first | exact(show False from hd).elim | skip
 obtain⟨q,hq,hw2⟩:=hd;have npl:¬Yj σ δ l:=λz=>by obtain⟨xs,e⟩:=rel.isl (Y5 (F:=F) z);rw[n0] at e;cases e
 refine⟨l,_,_,.ref q.1,rfl,DP.int vk,SqL.of (kp1.1 _ _ npl e0),QuL (λp:Addr×DF=>V.ref p.1) hq,q.1,_,rfl,⟨q,QpU hq,rfl,rfl⟩,?_⟩;have K1:=(Kp.same rel s0).trans kp1;exact⟨F,δ,_,XF,rel1,hw2,λargs ha vs H2 rel2 kp2 qa=>Qnq (m:=.D) (λh _=>h) k kx rel2 (K1.trans kp2) qa ha,Qma⟩
theorem Qlr{w:DE}(h:QX .D X e w)(hs:swapsWith e none pos.line X.env=pure false:=by rfl):QSX X (.Expr e pos) (Quy w):=by
 refine⟨PSX.imp (Rx.Qoy h.h hs) λD σ H Ex ⟨F,δ,DD,rel,hw,en⟩=>?_⟩;exact⟨F,δ,_,DD.ex,rel,hw,λd hd v H' r' kp vk=>(en.nx δ hd).2 H' r' kp,en.ex⟩
def QBa(t:DT)(a b:DS):DS:=λD δ=>t δ (λc=>if c=true then a D δ else b D δ) XF
theorem Qy1{c:Q3}{a b:List Yt}{t:DT}{w w':DS}(hc:QT X.nox E0 c t)(ha:QSXs X a w)(hb:QSXs X b w'):QSX X (.If c a b pos) (QBa t w w'):=by
 refine⟨PSX.imp (Rx.Qwc hc.h ha.h hb.h) λD σ H Ex ⟨F,δ,DD,rel,hw,en⟩=>?_⟩;exact⟨F,δ,_,XF,rel,hw,λb hb H' r' kp=>QcZ hb (λz=>⟨F,δ,DD,r',z,en.step kp⟩) λz=>⟨F,δ,DD,r',z,en.step kp⟩,Qma⟩
theorem Qig{st:Yt}{w:DS}(h:QSX X st w):QSXs X [st] w:=⟨Rx.Qox h.h⟩
def QA9(ks:Addr->Str->Prop)(w:DS):DS:=λD δ=>w { D with nx:=λδ'=>δ'=δ/\D.nx δ,ex:=λC=>∃wd,ks C wd/\Qav (.str wd)=true/\D.rt (.str wd) } δ
structure QH (X:Cx) (i:Nat) (hx:Q3) (sp:Sp):Prop where h:∀e,PE (Rx.mkd X e) hx (λσ H Q=>(Qe8 (QhZ i) Qsx) σ H λvs H1=>sp vs H1 Q E0)
theorem QsT{i:Nat}{sp:Sp}{y:Str}{pos2:Pos}(G:Rx.FnM X.prog X.w X.K X.mg X.base 1 f fd ps sp)(hr:Room 1 X.A)(hm:X.mg x=some (.ref f))(hk:PySem.W.keepIn X.K (.ref f)=true)(hb:Binds X.K fd ps [])(hg:Gl X x:=by rfl)(hN:X.N[i]? = some y:=by rfl)(hv:Vis X.env.scope y:=by first | exact Jp rfl | exact JF (Jp rfl) | exact JF (JF rfl))(hd:(y == ("__debug__" : Str))=false:=by decide)(hcd:(y == ("__classdict__" : Str))=false:=by decide)(hdb:(x == ("__debug__" : Str))=false:=by decide) :
  QH X i (.Call (.Name x p) [.Name y pos2] [] pos) sp:=⟨λe=>Rx.QoL (X:=Rx.mkd X e) G (Rx.Room.m hr e) hg hm hk hb (Qel (X:=Rx.mkd X e) (pv (X:=Rx.mkd X e) i hN hv hd hcd) ZP rfl) hdb rfl rfl⟩
theorem Qv6{E:XK}{R:Addr}{i:Nat}{n r:Str}{body:List Yt}{hx:Q3}{w:DS}{ks:Addr->Str->Prop}{sp:Sp}{np hp hpos pos:Pos}(hb:QSXs X body w)(hN:X.N.Nodup)(hm:X.mg r=some (.ref R))(hh:QH X i hx sp)
  (hk:∀{C:Addr}{wd:Str},ks C wd->∀{H1:Hp}{Q:VK}{σ:L2.St},i < σ.length->(∀H',Same H1 H'->Q (.str wd) H')->Rx.ByC X.K C R/\∀a,H1 a=none->(Qe8 (QhZ i) Qsx) (σ.set i (some (.ref a))) (upd H1 a (Rx.exO a C)) λvs H2=>sp vs H2 Q E0)
  (hstk:X.stack=X.env::X.outer:=by rfl)(hfr:X.env.frame=some X.env.locals:=by rfl)(hi:X.N[i]? = some n:=by rfl)(hl:X.env.scope.names.lookup n=some .local:=by rfl)(hg:Gl X r:=by rfl)(hd:(r == ("__debug__" : Str))=false:=by decide) :
  QS X E (.Try body [.ExceptHandler (some (.Name r np)) (some n) [.Return (some hx) hp] hpos] [] [] pos) (QA9 ks w):=by
 refine⟨λpins s σ H D I ⟨F,δ,DD,rel,hw,en⟩=>Rx.QsZ hstk hfr hb.h hN hi hl hg hm hh.h hd pins s σ H D I ?_⟩;have hlen:i < σ.length:=by rw[I.len];exact(QM.mp hi).1
 refine⟨F,δ,_,rel,hw,λδ' ⟨e1,h1⟩=>⟨e1,λH' r' kp=>en.nx.go δ h1 σ H' r' (Stp.kp kp)⟩,en.rt,en.rtF,λC ⟨wd,hks,cl,hr⟩ H' r' kp=>?_⟩;exact hk hks hlen λH2 s2=>en.rt _ hr _ H2 (r'.same s2).ke (.str wd cl)
end
end Dl
namespace Rk
open L2 _root_.Rd Dl Rt
theorem QpL(d:Qb)(ds:List Qb):Dl.cutD (d::ds) (some 1) none=ds:=by
 unfold Dl.cutD;rw[HT.Qol,show(1:Int)=((1:Nat):Int) from rfl,HT.QsI];rw[Qbh (by rw[Qy];omega),List.drop_one,List.tail_cons,Qy,Qp3,ZJ]
theorem QcB{n:Nat}:∀{ds:List Qb},(∀d∈ds,d.depth<=n)->Jl ds<=n
 |[],_=>Qu _
 |d::ds,h=>by
  show max d.depth (Jl ds)<=n;exact Nat.max_le.mpr ⟨h d (.head _),QcB λd hd=>h d (.tail _ hd)⟩
def bdD(h w:Int)(cs:List (Int×Int)):Qb:=.tuple [.int h,.int w,.tuple (cs.map pairD)]
theorem QkM(ns:List Int):Qcu (ns.map Qh)=some ns:=Dl.ints_map ns
def Qoo(r n:Nat)(f:Nat->Nat->Bool):List (Int×Int):=((Qq n).filter (f r)).map λ(c:Nat)=>((r:Int),(c:Int))
def QeU(h w:Nat)(f:Nat->Nat->Bool):List (Int×Int):=(Qq h).flatMap λr=>Qoo r w f
theorem QiS(h w:Nat)(f:Nat->Nat->Bool):QeU (h+1) w f=QeU h w f++Qoo h w f:=by
 unfold QeU;rw[Qap,QdJ];simp
theorem Qon(r n:Nat)(f:Nat->Nat->Bool):(Qoo r n f).length<=n:=by
 unfold Qoo;rw[Qe];exact Jb (QkW _ _) (by rw[QN];exact Qj _)
theorem QfC(w:Nat)(f:Nat->Nat->Bool):∀h,(QeU h w f).length<=h*w
 |0=>Qu _
 |h+1=>by
  have:=QfC w f h;have:=Qon h w f;rw[QiS,Qw,Qk7];omega
theorem QuM(ns:List Int)(i:Int):((ns.map Qh).any λe=>JD e (.int i))=decide (i∈ns):=by
 rw[List.any_map,Qaq,List.any_eq_true,decide_eq_true_iff];constructor
 ·rintro⟨c,hc,h⟩;have:c=i:=by simpa [JD] using h
  rw[<- this];exact hc
 ·intro h;refine⟨i,h,?_⟩;show(i == i)=true;simp
def toI:Qb->Int
 |.int i=>i
 |_=>0
theorem QjG{ds:List Qb}{a b:Int}(h:ds.all (λd=>inW d a b)=true):ds=(ds.map toI).map Qh/\∀i∈ds.map toI,a<=i/\i<=b:=by
 constructor
 ·rw[Jo]
  conv=>lhs;rw[<- Qbe ds]
  refine J5 λd hd=>?_
  obtain⟨i,rfl,_⟩:=Qug (Zi.mp h d hd);rfl
 ·intro i hi;obtain⟨d,hd,rfl⟩:=QL.mp hi;obtain⟨i,rfl,h1,h2⟩:=Qug (Zi.mp h d hd);exact⟨h1,h2⟩
theorem Qn9(ns:List Int):(ns.map Qh).map toI=ns:=by
 rw[Jo]
 conv=>rhs;rw[<- Qbe ns]
 rfl
def nfI:List Int->Bool
 |x::y::r=>decide (x<=y)&&nfI (y::r)
 |_=>true
def Qyj:Qb->Bool
 |.tuple [.int a,.int b]=>decide (a<=b)
 |_=>false
theorem Qrc:∀ns:List Int,(QgJ (ns.map Qh) (Dl.cutD (ns.map Qh) (some 1) none)).all Qyj=nfI ns
 |[]=>by
  have h:(QgJ ([]:List Qb) (Dl.cutD [] (some 1) none))=[]:=by unfold QgJ;rfl
  rw[Qe5,h];rfl
 |[x]=>by rw[Jd,QpL];rfl
 |x::y::r=>by
  have ih:=Qrc (y::r);rw[Jd,QpL] at ih ⊢;show(Qyj (.tuple [.int x,.int y])&&(QgJ (Qh y::r.map Qh) (r.map Qh)).all Qyj)=_;rw[ih];rfl
theorem QiC:∀{ns:List Int}{a:Int},nfI ns=true->(∀b,ns.getLast? = some b->b<=a)->nfI (ns++[a])=true
 |[],_,_,_=>rfl
 |[x],a,_,h=>by
  show(decide (x<=a)&&true)=true;rw[decide_eq_true (h x rfl)];rfl
 |x::y::r,a,hn,h=>by
  have hn:=Qs.mp (show(decide (x<=y)&&nfI (y::r))=true from hn);show(decide (x<=y)&&nfI (y::r++[a]))=true;rw[hn.1,QiC hn.2 λb hb=>h b (by rw[List.getLast?_cons_cons];exact hb)];rfl
def Jf:Qb->Bool
 |.tuple ds=>(decide ((1:Int)<=ds.length)&&decide ((ds.length:Int)<=6))&&(ds.all (λd=>inW d 0 6)&&nfI (ds.map toI))
 |_=>false
structure Qaj (ns:List Int):Prop where
 l1:1<=ns.length
 l6:ns.length<=6
 bd:∀i∈ns,0<=i/\i<=6
 nf:nfI ns=true
def tI(ns:List Int):Qb:=.tuple (ns.map Qh)
theorem Qb9{d:Qb}(h:Jf d=true):∃ns,d=tI ns/\Qaj ns:=by
 cases d<;>first | (cases h;done) | skip
 rename_i ds
 have h:=Qs.mp (show((decide ((1:Int)<=ds.length)&&decide ((ds.length:Int)<=6))&&(ds.all (λd=>inW d 0 6)&&nfI (ds.map toI)))=true from h);have h1:=Qs.mp h.1;have h2:=Qs.mp h.2;obtain⟨e,b⟩:=QjG h2.1;refine⟨ds.map toI,by rw[tI,<- e],?_,?_,b,h2.2⟩
 ·rw[Qe];have:=of_decide_eq_true h1.1;omega
 ·rw[Qe];have:=of_decide_eq_true h1.2;omega
theorem QfQ{ns:List Int}(h:Qaj ns):Jf (tI ns)=true:=by
 show((decide ((1:Int)<=(ns.map Qh).length)&&decide (((ns.map Qh).length:Int)<=6))&&((ns.map Qh).all (λd=>inW d 0 6)&&nfI ((ns.map Qh).map toI)))=true;have a:=h.l1;have b:=h.l6;have e:(ns.map Qh).all (λd=>inW d 0 6)=true:=Zi.mpr λd hd=>by
  obtain⟨i,hi,rfl⟩:=QL.mp hd;exact Qxk (h.bd i hi).1 (h.bd i hi).2
 rw[Qe,Qn9,h.nf,decide_eq_true (by omega),decide_eq_true (by omega),e];rfl
def sH(ns:List Int):Nat:=(max (ns.getLastD 0) 1).toNat
def stF(ns:List Int):Nat->Nat->Bool:=λr c=>decide ((r:Int)<ns.getD c 0)
def stC(ns:List Int):List (Int×Int):=QeU (sH ns) ns.length (stF ns)
def sBd(ns:List Int):Qb:=bdD (sH ns) ns.length (stC ns)
def Qhm:DF:=λargs R _=>∃ns:List Int,args=[.v (tI ns)]/\R (.bool (nfI ns))
def QfR:DF:=λargs R _=>∃d,args=[.v d]/\R (.bool (Jf d))
def Qiq(C:Addr):DF:=λargs R EX=>∃d,args=[.v d]/\(Jf d=true->R .none)/\(Jf d=false->EX C)
theorem QvT{ns:List Int}(h:Qaj ns):1<=sH ns/\sH ns<=6:=by
 unfold sH;have:ns.getLastD 0<=6:=by
  cases e:ns.getLast? with
  |none=>rw[QbA,e];decide
  |some b=>rw[QbA,e];exact(h.bd b (List.mem_of_getLast? e)).2
 omega
theorem Qsz{ns:List Int}(h:Qaj ns):(stC ns).length<=36:=by
 have a:=QfC ns.length (stF ns) (sH ns);have b:sH ns*ns.length<=6*6:=Nat.mul_le_mul (QvT h).2 h.l6;unfold stC;omega
theorem Qum{α β:Type}{g:α->Option β}{p:α->Bool}{k:α->β}:∀{xs:List α},(∀x∈xs,g x=if p x=true then some (k x) else none)->xs.filterMap g=(xs.filter p).map k
 |[],_=>rfl
 |x::xs,h=>by
  have ih:=Qum (xs:=xs) λy hy=>h y (.tail _ hy)
  by_cases z:p x=true
  ·rw[List.filterMap_cons_some (by rw[h x (.head _),if_pos z]),ih,Qi1 z];rfl
  ·rw[List.filterMap_cons_none (by rw[h x (.head _),if_neg z]),ih,Qi2 z]
def Qyf(r:Int):Qb->Option Qb
 |.tuple [.int c,.int m]=>if r<m then some (pairD (r,c)) else none
 |_=>none
theorem QpI(ns:List Int)(r:Nat):(QcA (ns.map Qh)).filterMap (Qyf r)=(Qoo r ns.length (stF ns)).map pairD:=by
 unfold QcA Qoo;rw[Qbr,Qe,Jo];refine Qum λc hc=>?_
 have hc:=QV.mp hc;show Qyf r (.tuple [.int c,(ns.map Qh).getD c .none])=_;have e1:(ns.map Qh).getD c .none=.int (ns.getD c 0):=by
  rw[Qi,Qz,Qi,Qf hc];rfl
 rw[e1];show(if(r:Int)<ns.getD c 0 then some (pairD ((r:Int),(c:Int))) else none)=if decide ((r:Int)<ns.getD c 0)=true then _ else _
 by_cases z:(r:Int)<ns.getD c 0
 ·rw[if_pos z,if_pos (decide_eq_true z)];rfl
 ·rw[if_neg z,if_neg (by simpa using z)]
theorem Qt4{ns:List Int}(h:1<=ns.length):atI (ns.map Qh) (-1)=some (.int (ns.getLastD 0)):=by
 cases e:ns.getLast? with
 |none=>rw[List.getLast?_eq_none_iff] at e;subst e;exact absurd h (by decide)
 |some b=>
  obtain⟨xs,rfl⟩:=List.getLast?_eq_some_iff.mp e
  rw[Zu,QbA,e];exact QpV _ _
@[irreducible] def Qpp:List Qb->(Qb->Prop)->Prop:=Qt0
@[irreducible] def Qpo:List Qb->(Qb->Prop)->Prop:=QtY
theorem QpO:QcG (λxs H Q=>∃i j,xs=[.int i,.int j]/\Q (.int (if j > i then j else i)) H) Qpp:=by unfold Qpp;exact Qnm
theorem QpN:QcG (λxs H Q=>∃i j,xs=[.int i,.int j]/\Q (.int (if j<i then j else i)) H) Qpo:=by unfold Qpo;exact Qnl
theorem QtZ{i j k:Int}{Q:Qb->Prop}(e:(if j > i then j else i)=k)(h:Q (.int k)):Qpp [.int i,.int j] Q:=by
 unfold Qpp;show Q (.int (if j > i then j else i));rw[e];exact h
theorem Qgh{i j k:Int}{Q:Qb->Prop}(e:(if j<i then j else i)=k)(h:Q (.int k)):Qpo [.int i,.int j] Q:=by
 unfold Qpo;show Q (.int (if j<i then j else i));rw[e];exact h
def QsJ(ns:List Int):Qb->List Qb
 |.int r=>(Qoo r.toNat ns.length (stF ns)).map pairD
 |_=>[]
theorem Qjg(ns:List Int)(h:Nat):(QlG 0 h).flatMap (QsJ ns)=(QeU h ns.length (stF ns)).map pairD:=by
 unfold QlG QeU;rw[Qsk,Qsj]
 congr 1
 funext r
 show(Qoo (0+(r:Int)).toNat ns.length (stF ns)).map pairD=_;rw[show(0+(r:Int)).toNat=r by omega]
theorem Qy5{ns:List Int}:(if(1:Int) > ns.getLastD 0 then 1 else ns.getLastD 0)=(sH ns:Int):=by
 unfold sH;split<;>omega
theorem Qni{items:List Qb}{wg wg2:DG}{wt wt2:DT}{wi2:DI}{we:DE}{δ:Sts}{Q:Qb->Prop}(G:Qb->List Qb)(k:Nat)(hl:(items.flatMap G).length<=k)
  (h:∀d∈items,∀(acc:List Qb)(N:List Qb->Prop),acc.length+(G d).length<=k->N (acc++G d)->wg d δ λδ4=>wt δ4 (λb=>if b=true then wi2 δ4 (λitems2=>InR items2 wg2 wt2 we δ4 acc N) XF else N acc) XF)(q:Q (.list (items.flatMap G))) :
  QjY items wg wt wi2 wg2 wt2 we δ Q:=by
 unfold QjY;refine⟨λi acc=>acc=(items.take i).flatMap G,by simp,λi acc d hd e=>?_,λacc e=>by rw[e,ZJ];exact q⟩;have e:acc=(items.take i).flatMap G:=e;have hs:(items.take (i+1)).flatMap G=(items.take i).flatMap G++G d:=by
  rw[ZO,hd,QdJ];simp
 refine h d (QK hd) acc _ ?_ (by show acc++G d=_;rw[hs,e])
 have h1:(items.flatMap G).length=((items.take (i+1)).flatMap G).length+((items.drop (i+1)).flatMap G).length:=by
  rw[<- Qw,<- QdJ,Jn]
 rw[hs,<- e,Qw] at h1;omega
def hdL(ns:List Int):List Int:=(Qq ns.length).map λi=>ns.getD i 0 - (i:Int)
end Rk
namespace Rv
section
variable{prog:QC}{w:Ja}{A:Q2}{E:Value->Shared->Prop}{s:Shared}
end
end Rv
namespace L2
section
variable{X:Cx}{tg:Q3}
end
section
variable{X:Cx}
end
end L2
namespace Dl
open L2 _root_.Rd Rk
section
variable{X:Cx}{E:XK}{st:Yt}{i:Nat}{we:DE}
end
end Dl
namespace Rk
open L2 _root_.Rd Dl Rt
def Qdf(ns:List Nat):List Qb:=ns.map λ(c:Nat)=>.int (c:Int)
end Rk
namespace L2
section
variable{X:Cx}
end
end L2
namespace Dl
open L2 _root_.Rd Rk
end Dl
namespace Rk
open L2 _root_.Rd Dl Rt
theorem Qfz{α β:Type}{f g:α->List β}:∀{xs:List α},(∀x∈xs,f x=g x)->xs.flatMap f=xs.flatMap g
 |[],_=>rfl
 |x::xs,h=>by rw[QeZ,QeZ,h x (.head _),Qfz λy hy=>h y (.tail _ hy)]
def Bds(h w:Nat)(cs:List (Int×Int)):Prop:=h<=6/\w<=6/\∀p∈cs,0<=p.1/\p.1<h/\0<=p.2/\p.2<w
theorem Bds.nn{h w:Nat}{cs:List (Int×Int)}(b:Bds h w cs):∀p∈cs,0<=p.2:=λp hp=>(b.2.2 p hp).2.2.1
end Rk
namespace Dl
open L2 _root_.Rd Rk
section
variable{X:Cx}{E:XK}{st:Yt}{we:DE}
end
end Dl
namespace Rk
open L2 _root_.Rd Dl Rt
end Rk
namespace L2
section
variable{X:Cx}
end
end L2
namespace Dl
open L2 _root_.Rd Rk Rt
end Dl
namespace Rk
open L2 _root_.Rd Dl Rt
theorem getD_mem{ns:List Int}{c:Nat}(h:c<ns.length):ns.getD c 0∈ns:=by
 rw[Qi,Qf h];exact Qaf h
def Qir:DF:=λargs R _=>∃ns,args=[.v (tI ns)]/\Qaj ns/\R .none
def Qz1:DF:=λargs R _=>∃ns,args=[.v (tI ns)]/\Qaj ns/\R (sBd ns)
end Rk
namespace L2
open _root_.Rd
section
variable{X:Cx}
end
end L2
namespace Dl
open L2 _root_.Rd Rk Rt
section
variable{X:Cx}{E:XK}
end
end Dl
namespace Rk
open L2 _root_.Rd Dl Rt
def oth(n:Nat)(o:List Nat):List Nat:=(Qq n).filter λx => !decide (x∈o)
def ordsN(n:Nat):Nat->List (List Nat)
 |0=>[[]]
 |i+1=>(ordsN n i).flatMap λo=>(oth n o).map λx=>o++[x]
theorem QcX{n:Nat}:∀{i:Nat}{o:List Nat},o∈ordsN n i->o.length=i
 |0,o,h=>by rw[Jj.mp h];rfl
 |i+1,o,h=>by
  obtain⟨p,hp,ho⟩:=Qae.mp h;obtain⟨x,_,rfl⟩:=QL.mp ho;rw[Qw,QcX hp];rfl
theorem Qtv(n:Nat)(o:List Nat):(oth n o).length<=n:=by
 unfold oth;exact Jb (QkW _ _) (by rw[QN];exact Qj _)
theorem QmY{α β:Type}(g:α->List β)(n:Nat):∀xs:List α,(∀x∈xs,(g x).length<=n)->(xs.flatMap g).length<=xs.length*n
 |[],_=>by simp
 |x::xs,h=>by
  rw[QeZ,Qw,Qy,Qk7];have:=QmY g n xs λy hy=>h y (.tail _ hy)
  have:=h x (.head _);omega
theorem Qo7{n:Nat}(h6:n<=6):∀i,i<=6->(ordsN n i).length<=50000
 |i,hi=>by
  have q:∀i,(ordsN n i).length<=n^i:=λi=>by
   induction i with
   |zero=>exact Qj _
   |succ i ih=>
    refine Jb (QmY _ n _ λo _=>by rw[Qe];exact Qtv n o) ?_
    rw[Nat.pow_succ];exact Nat.mul_le_mul_right _ ih
  have a:=q i;have b:n^i<=6^i:=Nat.pow_le_pow_left h6 i;have c:6^i<=6^6:=Nat.pow_le_pow_right (by decide) hi;have e:(6:Nat)^6=46656:=rfl;omega
def tNn(o:List Nat):Qb:=.tuple (Qdf o)
def Qzt:DF:=λargs R _=>∃(n:Nat)(o:List Nat),args=[.v (.int n),.v (tNn o)]/\n<=6/\R (.list (Qdf (oth n o)))
def Qtw:DF:=λargs R _=>∃n:Nat,args=[.v (.int n)]/\n<=6/\R (.list ((ordsN n n).map tNn))
theorem Qiy{n:Nat}:∀{i:Nat}{o:List Nat},o∈ordsN n i->∀x∈o,x<n
 |0,o,h,x,hx=>by rw[Jj.mp h] at hx;cases hx
 |i+1,o,h,x,hx=>by
  obtain⟨p,hp,ho⟩:=Qae.mp h;obtain⟨y,hy,rfl⟩:=QL.mp ho;rcases Js.mp hx with z | z
  ·exact Qiy hp x z
  ·rw[Jj.mp z];exact QV.mp (ZU.mp hy).1
end Rk
namespace HT
section
open PySem.SeqAt
open PySem.AutoSeq1 (wpAny_loadPart')
open PySem.MeetsSeq PySem.MeetsSeq2 PySem.MeetsSeq3
end
section
variable{prog:QC}{w:Ja}{A:Q2}{E:Value->Shared->Prop}{s:Shared}
end
end HT
namespace L2
end L2
namespace Rk
open L2 _root_.Rd Dl Rt
end Rk
namespace Dl
open L2 _root_.Rd Rk Rt
end Dl
namespace Rk
open L2 _root_.Rd Dl Rt
theorem Qhh{n:Nat}{o:List Nat}(h:o∈ordsN n n):o.Perm (Qq n):=by
 have nd:∀{i:Nat}{o:List Nat},o∈ordsN n i->o.Nodup:=λ{i}=>by
  induction i with
  |zero=>intro o h;rw[Jj.mp h];exact .nil
  |succ i ih=>
   intro o h;obtain⟨p,hp,ho⟩:=Qae.mp h;obtain⟨x,hx,rfl⟩:=QL.mp ho;refine Qp6.mpr ⟨ih hp,by simp,λa ha b hb e=>?_⟩;rw[Jj.mp hb] at e;have:=(ZU.mp hx).2;rw[Qe0,decide_eq_false_iff_not] at this;exact this (by rw[<- e];exact ha)
 have p1:o.Perm ((Qq n).filter λx=>decide (x∈o)):=(QgT (nd h) (QbJ _ Qcl)).mpr λx=>by
  rw[ZU,QV];exact⟨λhx=>⟨Qiy h x hx,decide_eq_true hx⟩,λhx=>of_decide_eq_true hx.2⟩
 have l1:=p1.length_eq;have l2:=List.length_eq_countP_add_countP (λx=>decide (x∈o)) (l:=Qq n);rw[QN,List.countP_eq_length_filter,<- l1,QcX h] at l2;have l3:(Qq n).countP (λx=>decide (¬decide (x∈o)=true))=0:=by omega
 have al:(Qq n).filter (λx=>decide (x∈o))=Qq n:=List.filter_eq_self.mpr λx hx=>by
  have:=List.countP_eq_zero.mp l3 x hx
  simpa using this
 rw[al] at p1;exact p1
end Rk
namespace Zt
def f5(M x:Nat):Nat:=(x*5+1) % M
def it5(M:Nat):Nat->Nat->Nat
 |0,x=>x
 |n+1,x=>it5 M n (f5 M x)
theorem Qgm(M:Nat):∀(m n x:Nat),it5 M (m+n) x=it5 M n (it5 M m x)
 |0,n,x=>by rw[JU];rfl
 |m+1,n,x=>by rw[Qk8];exact Qgm M m n (f5 M x)
def QxJ(M:Nat):Nat->Nat->Nat->Nat
 |0,_,acc=>acc
 |n+1,x,acc=>QxJ M n (f5 M x) (acc ||| 2^x)
theorem QjQ(M j:Nat):∀(n x acc:Nat),(QxJ M n x acc).testBit j=true->acc.testBit j=true∨∃b,b<n/\it5 M b x=j
 |0,_,_,h=>.inl h
 |n+1,x,acc,h=>by
  rcases QjQ M j n (f5 M x) (acc ||| 2^x) h with z | ⟨b,hb,e⟩
  ·rw[Nat.testBit_or,QuX,Nat.testBit_two_pow] at z;rcases z with z | z
   ·exact .inl z
   ·exact .inr ⟨0,by omega,by show x=j;simpa using z⟩
  ·exact .inr ⟨b+1,by omega,e⟩
def QbV(M:Nat):Bool:=decide (QxJ M M 0 0=2^M - 1)&&decide (it5 M M 0=0)
theorem QrN:QbV 8=true:=by decide +kernel
theorem Quj:QbV 32=true:=by decide +kernel
theorem QpD:QbV 128=true:=by decide +kernel
theorem QpC:QbV 512=true:=by decide +kernel
theorem QmP:QbV 2048=true:=by decide +kernel
theorem QpB{M:Nat}(h:QbV M=true){i j:Nat}(hi:i<M)(hj:j<M):∃n,n<M/\it5 M n i=j:=by
 have h:=Qs.mp h;have h1:QxJ M M 0 0=2^M - 1:=of_decide_eq_true h.1;have h2:it5 M M 0=0:=of_decide_eq_true h.2;have all:∀k,k<M->∃b,b<M/\it5 M b 0=k:=λk hk=>by
  have:(QxJ M M 0 0).testBit k=true:=by rw[h1,Nat.testBit_two_pow_sub_one];exact decide_eq_true hk
  rcases QjQ M k M 0 0 this with z | z
  ·simp at z
  ·exact z
 obtain⟨a,ha,rfl⟩:=all i hi;obtain⟨b,hb,rfl⟩:=all j hj;by_cases z:a<=b
 ·exact⟨b - a,by omega,by rw[<- Qgm,show a+(b - a)=b by omega]⟩
 ·refine⟨M - a+b,by omega,?_⟩;rw[<- Qgm,show a+(M - a+b)=M+b by omega,Qgm,h2]
def Qcx(mask:Nat):Nat->Nat×Nat->Nat×Nat
 |0,p=>p
 |n+1,p=>Qcx mask n (Yf mask p.1 p.2)
theorem Qhs(mask:Nat):∀(m n:Nat)(p:Nat×Nat),Qcx mask (m+n) p=Qcx mask n (Qcx mask m p)
 |0,n,p=>by rw[JU];rfl
 |m+1,n,p=>by rw[Qk8];exact Qhs mask m n _
theorem Qhq(mask:Nat):∀(n:Nat)(p:Nat×Nat),(Qcx mask n p).2=p.2 / 32^n
 |0,p=>by show p.2=p.2 / 1;omega
 |n+1,p=>by
  show(Qcx mask n (Yf mask p.1 p.2)).2=_;rw[Qhq mask n];show p.2 / 32 / 32^n=_;rw[Nat.div_div_eq_div_mul,Nat.pow_succ,Qfc]
theorem Qhr(mask:Nat):∀(n i:Nat),Qcx mask n (i,0)=(it5 (mask+1) n i,0)
 |0,i=>rfl
 |n+1,i=>by
  show Qcx mask n (Yf mask i 0)=_;have:Yf mask i 0=(f5 (mask+1) i,0):=by
   show((i*5+1+0 / 32) % (mask+1),0 / 32)=_;simp[f5]
  rw[this,Qhr mask n];rfl
theorem QjB{mask:Nat}:∀(n:Nat)(p:Nat×Nat),p.1<mask+1->(Qcx mask n p).1<mask+1
 |0,_,h=>h
 |n+1,p,_=>QjB n _ (Qdb _ (Qbz _))
theorem Qfx{mask:Nat}(hg:QbV (mask+1)=true){i perturb j:Nat}(hi:i<mask+1)(hp:perturb<2^64)(hj:j<mask+1):∃n,n<mask+14/\(Qcx mask n (i,perturb)).1=j:=by
 have h13:=Qhq mask 13 (i,perturb);have:perturb / 32^13=0:=Nat.div_eq_of_lt (QR hp (by decide));rw[show(i,perturb).2=perturb from rfl,this] at h13;have hl:=QjB 13 (i,perturb) hi;obtain⟨n,hn,e⟩:=QpB hg hl hj;refine⟨13+n,by omega,?_⟩;rw[Qhs,show Qcx mask 13 (i,perturb)=((Qcx mask 13 (i,perturb)).1,0) from Prod.ext rfl h13,Qhr];exact e
def stps(t:SetTable):Nat->Zb->Zb
 |0,p=>p
 |n+1,p=>stps t n (t.advance p)
theorem YU(t:SetTable):∀(m n:Nat)(p:Zb),stps t (m+n) p=stps t n (stps t m p)
 |0,n,p=>by rw[JU];rfl
 |m+1,n,p=>by rw[Qk8];exact YU t m n _
def Qom(t:SetTable)(i perturb:Nat)(d:Option Nat):Zb:={ j:=i,more:=Jk t.mask i - i,i:=i,perturb:=perturb,dummy:=d }
theorem Qg0(t:SetTable):∀(m j i perturb:Nat)(d:Option Nat),stps t m { j:=j,more:=m,i:=i,perturb:=perturb,dummy:=d }={ j:=j+m,more:=0,i:=i,perturb:=perturb,dummy:=d }
 |0,_,_,_,_=>rfl
 |m+1,j,i,perturb,d=>by
  show stps t m (t.advance _)=_;have:t.advance { j:=j,more:=m+1,i:=i,perturb:=perturb,dummy:=d }={ j:=j+1,more:=m,i:=i,perturb:=perturb,dummy:=d }:=by
   unfold YW;rw[if_pos (by show m+1 > 0;omega)];rfl
  rw[this,Qg0 t m,show j+1+m=j+(m+1) by omega]
theorem QvU(mask i:Nat):Jk mask i - i<=9:=by unfold Jk;split<;>omega
theorem QfP(t:SetTable)(i perturb:Nat)(d:Option Nat):stps t (Jk t.mask i - i+1) (Qom t i perturb d)=Qom t (Yf t.mask i perturb).1 (Yf t.mask i perturb).2 d:=by
 rw[YU];unfold Qom;rw[Qg0];simp only[stps];unfold YW;rw[if_neg (by show ¬(0:Nat) > 0;omega)]
theorem Qfi(t:SetTable)(d:Option Nat):∀(n i perturb:Nat),∃m,m<=10*n/\stps t m (Qom t i perturb d)=Qom t (Qcx t.mask n (i,perturb)).1 (Qcx t.mask n (i,perturb)).2 d
 |0,i,perturb=>⟨0,by omega,rfl⟩
 |n+1,i,perturb=>by
  obtain⟨m,hm,e⟩:=Qfi t d n (Yf t.mask i perturb).1 (Yf t.mask i perturb).2;have:=QvU t.mask i;refine⟨Jk t.mask i - i+1+m,by omega,?_⟩;rw[YU,QfP,e];rfl
theorem QhK(h:Int):Jg h<2^64:=by
 unfold Jg;have:=Qp8 h (show(0:Int)<2^64 by decide);have:=Qvi h (show(2^64:Int)≠0 by decide);omega
theorem Qke(t:SetTable)(hg:QbV (t.mask+1)=true)(h:Int){j:Nat}(hj:j<t.mask+1):∃m,m<10*Jw t.mask/\(stps t m (t.probeStart h)).j=j:=by
 obtain⟨n,hn,e⟩:=Qfx (mask:=t.mask) hg (i:=Jg h % (t.mask+1)) (Qdb _ (Qbz _)) (QhK h) hj;obtain⟨m,hm,e2⟩:=Qfi t none n (Jg h % (t.mask+1)) (Jg h);refine⟨m,by unfold Jw;omega,?_⟩;have:t.probeStart h=Qom t (Jg h % (t.mask+1)) (Jg h) none:=rfl;rw[this,e2];exact e
theorem Qjb:∀{P Q:List Nat},P.Nodup->(∀p∈P,p∈Q)->P.length<=Q.length
 |[],_,_,_=>Qu _
 |p::P,Q,nd,h=>by
  have nd:=YI.mp nd;have hp:=h p (.head _);have:=Qjb (P:=P) (Q:=Q.erase p) nd.2 λx hx=>(List.mem_erase_of_ne (show x≠p from λe=>nd.1 (e ▸ hx))).mpr (h x (.tail _ hx))
  rw[List.length_erase_of_mem hp] at this;have:=List.length_pos_of_mem hp;rw[Qy];omega
theorem QpS{xs:Array Nat}{j:Nat}(pw:xs.toList.Pairwise (· < ·)):∀(fuel lo hi:Nat),hi - lo<=fuel->lo<=hi->hi<=xs.size->(∀k (hk:k<xs.size),k<lo->xs[k]<j)->(∀k (hk:k<xs.size),hi<=k->j<=xs[k]) ->
  QaT xs j fuel lo hi<=xs.size/\(∀k (hk:k<xs.size),k<QaT xs j fuel lo hi->xs[k]<j)/\∀k (hk:k<xs.size),QaT xs j fuel lo hi<=k->j<=xs[k]:=by
 have mono:∀a b (ha:a<xs.size) (hb:b<xs.size),a<=b->xs[a]<=xs[b]:=λa b ha hb h=>by
  by_cases e:a=b
  ·subst e;exact Qj _
  ·have:=Jx.mp pw a b (by simpa using ha) (by simpa using hb) (by omega);simp only[Za] at this;omega
 intro fuel;induction fuel with
 |zero=>
  intro lo hi h1 h2 h3 h4 h5;have:lo=hi:=by omega
  subst this;exact⟨h3,h4,h5⟩
 |succ fuel ih=>
  intro lo hi h1 h2 h3 h4 h5;unfold QaT;by_cases z:lo<hi
  ·rw[if_pos z]
   dsimp only
   have hm:(lo+hi) / 2<xs.size:=by omega
   have eg:xs.getD ((lo+hi) / 2) j=xs[(lo+hi) / 2]:=by simp[Zo,hm]
   rw[eg];by_cases y:xs[(lo+hi) / 2]<j
   ·rw[if_pos y];refine ih _ _ (by omega) (by omega) h3 (λk hk hlt=>?_) h5;have:=mono k ((lo+hi) / 2) hk hm (by omega);omega
   ·rw[if_neg y];refine ih _ _ (by omega) (by omega) (by omega) h4 λk hk hle=>?_
    have:=mono ((lo+hi) / 2) k hm hk hle;omega
  ·rw[if_neg z];have:lo=hi:=by omega
   subst this;exact⟨h3,h4,h5⟩
theorem Qch{xs:Array Nat}(pw:xs.toList.Pairwise (· < ·))(j:Nat):JJ xs j<=xs.size/\(∀k (hk:k<xs.size),k<JJ xs j->xs[k]<j)/\∀k (hk:k<xs.size),JJ xs j<=k->j<=xs[k]:=
 QpS pw _ 0 xs.size (by omega) (Qu _) (Qj _) (λk hk h=>by omega) λk hk h=>by omega
structure Tab (t:SetTable):Prop where
 pw:t.place.toList.Pairwise (· < ·)
 le:∀x∈t.place.toList,x<=t.mask
 dm:t.dummies=#[]
 gd:QbV (t.mask+1)=true
 pl:t.plain=true
 od:t.mask % 2=1
theorem Tab.slot_no{t:SetTable}(x:Tab t){j:Nat}(h:j∉t.place.toList):t.slot j=.empty:=by
 unfold Qc9
 dsimp only
 rw[if_neg,x.dm]
 ·rfl
 ·intro z;have z:=eq_of_beq z;exact h (ZK.mpr (YD z))
theorem Tab.slot_dm{t:SetTable}(x:Tab t)(j:Nat):t.slot j≠.dummy:=by
 unfold Qc9
 dsimp only
 split
 ·exact λe=>by cases e
 ·rw[x.dm,if_neg (by simp[QhT])];exact λe=>by cases e
theorem Tab.slot_e{t:SetTable}(x:Tab t){j:Nat}(h:t.slot j=.empty):j∉t.place.toList:=λhj=>by
 obtain⟨i,hi,e⟩:=Qdd.mp hj;have hi':i<t.place.size:=by simpa using hi
 have e':t.place[i]=j:=by simpa using e
 obtain⟨b1,b2,b3⟩:=Qch x.pw j;have hb:JJ t.place j=i:=by
  rcases YX (JJ t.place j) i with z | z | z
  ·have hb':JJ t.place j<t.place.size:=by omega
   have h1:=b3 _ hb' (Qj _);have:=Jx.mp x.pw (JJ t.place j) i (by simpa using hb') hi z;simp only[Za] at this;omega
  ·exact z
  ·have:=b2 i hi' z;omega
 unfold Qc9 at h
 dsimp only at h
 rw[hb,if_pos (by simp[hi',e'])] at h;cases h
theorem Tab.room{t:SetTable}(x:Tab t)(hs:t.place.size<=t.mask):∃j,j<t.mask+1/\j∉t.place.toList:=by
 apply J8
 intro hn;have:∀p∈Qq (t.mask+1),p∈t.place.toList:=λp hp=>by
  apply J8
  intro h;exact hn ⟨p,QV.mp hp,h⟩
 have:=Qjb Qcl this;rw[QN,Qc] at this;omega
theorem QhQ(t:SetTable)(p:Zb):(t.advance p).dummy=p.dummy:=by
 unfold YW;split<;>rfl
theorem Tab.put{t:SetTable}(x:Tab t){j:Nat}(hj:j∉t.place.toList)(hm:j<=t.mask):Tab (t.put j).1/\(t.put j).1.place.toList=t.place.toList.take (t.put j).2++j::t.place.toList.drop (t.put j).2/\(t.put j).1.mask=t.mask/\(t.put j).1.led=t.led/\(t.put j).1.moves=t.moves/\(t.put j).1.dummies=#[]:=by
 obtain⟨b1,b2,b3⟩:=Qch x.pw j;have hp:(t.put j).2=JJ t.place j:=rfl;have hl:(t.put j).1.place.toList=t.place.toList.take (t.put j).2++j::t.place.toList.drop (t.put j).2:=QfG _ _ _;have hd:(t.put j).1.dummies=#[]:=by
  show(if QhT t.dummies j=true then _ else t.dummies)=#[];rw[x.dm,if_neg (by simp[QhT])]
 have lo:∀a∈t.place.toList.take (JJ t.place j),a<j:=λa ha=>by
  obtain⟨k,hk,e⟩:=Qdd.mp ha;rw[Jr] at hk;rw[List.getElem_take] at e;have hk2:k<t.place.size:=by rw[Qc] at hk;omega
  have:=b2 k hk2 (by omega);rw[Za] at e;omega
 have hi:∀a∈t.place.toList.drop (JJ t.place j),j<a:=λa ha=>by
  have hne:a≠j:=λe=>hj (e ▸ QaX ha)
  obtain⟨k,hk,e⟩:=Qdd.mp ha;rw[Yo,Qc] at hk;rw[List.getElem_drop,Za] at e;have:=b3 (JJ t.place j+k) (by omega) (by omega);omega
 refine⟨⟨?_,?_,hd,x.gd,x.pl,x.od⟩,hl,rfl,rfl,rfl,hd⟩
 ·rw[hl,hp,JH,QnZ];refine⟨x.pw.sublist (Qp4 _ _),⟨hi,x.pw.sublist (List.drop_sublist _ _)⟩,λa ha b hb=>?_⟩;rcases Qv.mp hb with z | z
  ·subst z;exact lo a ha
  ·have:=lo a ha;have:=hi b z;omega
 ·intro a ha;rw[hl] at ha;rcases Js.mp ha with z | z
  ·exact x.le a (Qdc z)
  ·rcases Qv.mp z with z | z
   ·subst z;exact hm
   ·exact x.le a (QaX z)
theorem QmS{mask:Nat}{owner:Array (Option Nat)}:∀(n fuel i perturb:Nat),n<fuel->owner.getD (Qcx mask n (i,perturb)).1 (some 0)=none->∃j,Ju mask owner fuel i perturb=some j/\owner.getD j (some 0)=none:=by
 intro n;induction n with
 |zero=>
  intro fuel i perturb hf he;obtain⟨fuel,rfl⟩:∃m,fuel=m+1:=⟨fuel - 1,by omega⟩
  unfold Ju;cases hfd:(Qq (Jk mask i+1 - i)).find? λk=>(owner.getD (i+k) (some 0)).isNone with
  |some k=>
   have:=QuW hfd;exact⟨i+k,rfl,by simpa using this⟩
  |none=>
   have:=Qn1.mp hfd 0 (QV.mpr (by unfold Jk;split<;>omega));rw[QcP,show owner.getD i (some 0)=none from he] at this;exact absurd rfl this
 |succ n ih=>
  intro fuel i perturb hf he;obtain⟨fuel,rfl⟩:∃m,fuel=m+1:=⟨fuel - 1,by omega⟩
  unfold Ju;cases hfd:(Qq (Jk mask i+1 - i)).find? λk=>(owner.getD (i+k) (some 0)).isNone with
  |some k=>
   have:=QuW hfd;exact⟨i+k,rfl,by simpa using this⟩
  |none=>exact ih fuel _ _ (by omega) he
theorem Qcd{f g:Nat->Option Nat}:∀{l:List Nat},(∀x∈l,f x=g x)->l.filterMap f=l.filterMap g
 |[],_=>rfl
 |x::l,h=>by
  rw[ZC,ZC,h x (.head _),Qcd λy hy=>h y (.tail _ hy)]
theorem QrP(f:Nat->Option Nat)(j k:Nat)(hf:f j=none):∀M,j<M->((Qq M).filterMap λx=>if x=j then some k else f x).Perm (k::(Qq M).filterMap f)
 |0,h=>absurd h (YN _)
 |M+1,h=>by
  rw[Qap,ZG,ZG];by_cases z:M=j
  ·subst z;have e:((Qq M).filterMap λx=>if x=M then some k else f x)=(Qq M).filterMap f:=Qcd λx hx=>if_neg (by have:=QV.mp hx;omega)
   rw[e];have e2:([M].filterMap λx=>if x=M then some k else f x)=[k]:=by simp
   have e3:[M].filterMap f=[]:=by simp[hf]
   rw[e2,e3,Jt];exact Z6
  ·have ih:=QrP f j k hf M (by omega);have e2:([M].filterMap λx=>if x=j then some k else f x)=[M].filterMap f:=Qcd λx hx=>by
    rw[Jj.mp hx,if_neg z]
   rw[e2];exact ih.append_right _
def Lv(mask:Nat)(owner:Array (Option Nat)):List Nat:=(Qq (mask+1)).filterMap λj=>owner.getD j none
theorem QmW{f:Nat->Option Nat}:∀{M:Nat},(∀j,j<M->f j≠none)->((Qq M).filterMap f).length=M
 |0,_=>rfl
 |M+1,h=>by
  rw[Qap,ZG,Qw,QmW λj hj=>h j (by omega)];cases e:f M with
  |none=>exact absurd e (h M (by omega))
  |some y=>simp[e]
structure Own (mask:Nat) (owner:Array (Option Nat)) (k:Nat):Prop where
 sz:owner.size=mask+1
 pm:(Lv mask owner).Perm (Qq k)
theorem QjC{mask:Nat}(hg:QbV (mask+1)=true){owner:Array (Option Nat)}{k:Nat}(x:Own mask owner k)(hk:k<=mask)(h:Int):∃j,Ju mask owner (Jw mask) (Jg h % (mask+1)) (Jg h)=some j/\Own mask (owner.setIfInBounds j (some k)) (k+1):=by
 obtain⟨e,he,hn⟩:∃e,e<mask+1/\owner.getD e none=none:=by
  apply J8
  intro hno;have:=QmW (f:=λj=>owner.getD j none) (M:=mask+1) λj hj z=>hno ⟨j,hj,z⟩
  have h2:=x.pm.length_eq;rw[QN] at h2;unfold Lv at h2;omega
 have gd:∀j,j<mask+1->owner.getD j (some 0)=owner.getD j none:=λj hj=>by
  have:j<owner.size:=by rw[x.sz];exact hj
  simp[Zo,this]
 obtain⟨n,hn',e2⟩:=Qfx hg (i:=Jg h % (mask+1)) (perturb:=Jg h) (Qdb _ (Qbz _)) (QhK h) he;obtain⟨j,hj,hj0⟩:=QmS (mask:=mask) (owner:=owner) n (Jw mask) (Jg h % (mask+1)) (Jg h) (by unfold Jw;omega) (by rw[e2,gd e he];exact hn);have hjs:j<owner.size:=by
  apply J8
  intro z;simp[Zo,z] at hj0
 refine⟨j,hj,by rw[QhY];exact x.sz,?_⟩;have e3:Lv mask (owner.setIfInBounds j (some k))=(Qq (mask+1)).filterMap λy=>if y=j then some k else owner.getD y none:=Qcd λy hy=>by
  have hy:=QV.mp hy;have hys:y<owner.size:=by rw[x.sz];exact hy
  by_cases z:y=j
  ·subst z;simp[Zo,hys]
  ·rw[if_neg z];simp[Zo,hys,Qa8,Qbm z]
 rw[e3];refine(QrP _ j k (by rw[<- gd j (by rw[<- x.sz];exact hjs)];exact hj0) _ (by rw[<- x.sz];exact hjs)).trans ?_
 refine(show(k::(Qq (mask+1)).filterMap λy=>owner.getD y none).Perm (k::Qq k) from x.pm.cons k).trans ?_
 rw[show Qq (k+1)=Qq k++[k] from Qap];exact Z6 (l₁:=[k])
theorem QmA{mask:Nat}(hg:QbV (mask+1)=true):∀(hs:List Int)(owner:Array (Option Nat))(k:Nat),Own mask owner k->k+hs.length<=mask+1->∃owner',hs.foldl (λacc h=>do
  let (owner,k) <- acc
  let j <- Ju mask owner (Jw mask) (Jg h % (mask+1)) (Jg h)
  pure (owner.setIfInBounds j (some k),k+1)) (some (owner,k))=some (owner',k+hs.length)/\Own mask owner' (k+hs.length)
 |[],owner,k,x,_=>⟨owner,rfl,x⟩
 |h::hs,owner,k,x,hl=>by
  rw[Qy] at hl;obtain⟨j,hj,y⟩:=QjC hg x (by omega) h;obtain⟨o',e,z⟩:=QmA hg hs _ (k+1) y (by omega);refine⟨o',?_,by rw[Qy,show k+(hs.length+1)=k+1+hs.length by omega];exact z⟩;rw[QcL,Qy,show k+(hs.length+1)=k+1+hs.length by omega,<- e]
  congr 1
  show(Ju mask owner (Jw mask) (Jg h % (mask+1)) (Jg h)).bind _=_;rw[hj];rfl
theorem Ql9(mask:Nat):Own mask (Qa7 (mask+1) none) 0:=by
 refine⟨by simp,?_⟩;have:Lv mask (Qa7 (mask+1) none)=[]:=by
  unfold Lv;rw[List.filterMap_eq_nil_iff];intro j hj;have:=QV.mp hj;simp[Zo,this]
 rw[this];exact Z0 _
theorem Qt5{mask finger moves:Nat}{led:Bool}(hg:QbV (mask+1)=true)(ho:mask % 2=1)(hashes:Array Int)(hl:hashes.size<=mask) :
  ∃t order,QaF mask finger moves led true hashes=some (t,order)/\Tab t/\t.mask=mask/\t.led=led/\t.place.size=hashes.size/\order.toList.Perm (Qq hashes.size):=by
 obtain⟨owner,e,x⟩:=QmA hg hashes.toList (Qa7 (mask+1) none) 0 (Ql9 mask) (by rw[Qc];omega);rw[JU,Qc] at e x;have ec:Qbl mask hashes=some owner:=by
  unfold Qbl;rw[<- QnS];exact congrArg (λz=>z.map (·.1)) e
 have el:QaF mask finger moves led true hashes=some ({ mask:=mask,place:=(((Qq (mask+1)).filterMap λj=>(owner.getD j none).map (j,·)).map (·.1)).toArray,dummies:=#[],finger:=finger,led:=led,moves:=moves,plain:=true },(((Qq (mask+1)).filterMap λj=>(owner.getD j none).map (j,·)).map (·.2)).toArray):=by
  unfold QaF;rw[ec];rfl
 have e2:((Qq (mask+1)).filterMap λj=>(owner.getD j none).map (j,·)).map (·.2)=Lv mask owner:=by
  unfold Lv;rw[Qbq];exact Qcd λy _=>by cases owner.getD y none<;>rfl
 have e1:((Qq (mask+1)).filterMap λj=>(owner.getD j none).map (j,·)).map (·.1)=(Qq (mask+1)).filterMap λj=>(owner.getD j none).map λ_=>j:=by
  rw[Qbq];exact Qcd λy _=>by cases owner.getD y none<;>rfl
 have len:(((Qq (mask+1)).filterMap λj=>(owner.getD j none).map (j,·)).map (·.1)).length=hashes.size:=by
  rw[Qe];have h1:=congrArg QgF e2;rw[Qe,x.pm.length_eq,QN] at h1;exact h1
 refine⟨_,_,el,⟨?_,?_,rfl,hg,rfl,ho⟩,rfl,rfl,by rw[Qr];exact len,by rw[ZS,e2];exact x.pm⟩
 ·show List.Pairwise (· < ·) (Z5 _).toList;rw[ZS,e1,List.pairwise_filterMap];refine List.pairwise_lt_range.imp λ{a b} h=>?_
  intro c hc d hd;cases hoa:owner.getD a none with
  |none=>rw[hoa] at hc;cases hc
  |some _=>
   cases hob:owner.getD b none with
   |none=>rw[hob] at hd;cases hd
   |some _=>rw[hoa] at hc;rw[hob] at hd;cases hc;cases hd;exact h
 ·intro y hy;have hy:y∈(((Qq (mask+1)).filterMap λj=>(owner.getD j none).map (j,·)).map (·.1)).toArray.toList:=hy;rw[ZS,e1] at hy;obtain⟨a,ha,e⟩:=Zs.mp hy;have:=QV.mp ha;cases hoa:owner.getD a none with
  |none=>rw[hoa] at e;cases e
  |some _=>
   rw[hoa] at e;cases e;show a<=mask;omega
theorem Qkn{α:Type}{es:Array α}{order:Array Nat}(h:order.toList.Perm (Qq es.size)):(order.filterMap (es[·]?)).toList.Perm es.toList:=by
 rw[Qi4];refine(h.filterMap _).trans ?_
 have:(Qq es.size).filterMap (es[·]?)=es.toList:=by
  apply QaA
  intro i;have key:∀n,n<=es.size->(Qq n).filterMap (es[·]?)=es.toList.take n:=λn=>by
   induction n with
   |zero=>intro _;rfl
   |succ n ih=>
    intro hn;rw[Qap,ZG,ih (by omega),ZO];have:es[n]? = some es[n]:=by simp[show n<es.size by omega]
    simp[this]
  rw[key _ (Qj _),<- Qc,ZJ]
 rw[this]
theorem QpW{t t':SetTable}(h:t'.mask=t.mask)(p:Zb):t'.advance p=t.advance p:=by
 unfold YW;rw[h]
theorem QbO{t t':SetTable}(h:t'.mask=t.mask):∀(n:Nat)(p:Zb),stps t' n p=stps t n p
 |0,_=>rfl
 |n+1,p=>by
  show stps t' n (t'.advance p)=stps t n (t.advance p);rw[QpW h,QbO h n]
theorem Qb8{t t':SetTable}(h:t'.mask=t.mask)(x:Int):t'.probeStart x=t.probeStart x:=by
 unfold SetTable.probeStart;rw[h]
structure PIn (t:SetTable) (p:Zb):Prop where
 a:p.j+p.more<=t.mask
 b:p.i<=t.mask
theorem Qg8{mask i:Nat}(h:i<=mask):i+(Jk mask i - i)<=mask:=by unfold Jk;split<;>omega
theorem PIn.adv{t:SetTable}{p:Zb}(x:PIn t p):PIn t (t.advance p):=by
 unfold YW;split
 ·exact⟨by show p.j+1+(p.more - 1)<=_;have:=x.a;omega,x.b⟩
 ·have:(Yf t.mask p.i p.perturb).1<=t.mask:=Qsf (Qdb _ (Qbz _));exact⟨Qg8 this,this⟩
theorem PIn.stps{t:SetTable}:∀(n:Nat){p:Zb},PIn t p->PIn t (stps t n p)
 |0,_,x=>x
 |n+1,_,x=>PIn.stps n x.adv
theorem PIn.start(t:SetTable)(h:Int):PIn t (t.probeStart h):=by
 have:Jg h % (t.mask+1)<=t.mask:=Qsf (Qdb _ (Qbz _));exact⟨Qg8 this,this⟩
theorem Qih(t:SetTable)(h:Int)(n:Nat):(stps t n (t.probeStart h)).j<=t.mask:=by
 have:=(PIn.stps n (PIn.start t h)).a;omega
def Rch(t:SetTable)(j:Nat)(h:Int):Prop:=∃n,(stps t n (t.probeStart h)).j=j/\∀m,m<n->(stps t m (t.probeStart h)).j∈t.place.toList
theorem Rch.mono{t t':SetTable}{j:Nat}{h:Int}(x:Rch t j h)(hm:t'.mask=t.mask)(hs:∀y∈t.place.toList,y∈t'.place.toList):Rch t' j h:=by
 obtain⟨n,e,k⟩:=x;refine⟨n,by rw[Qb8 hm,QbO hm];exact e,λm hlt=>?_⟩;rw[Qb8 hm,QbO hm];exact hs _ (k m hlt)
theorem Tab.slot_l{t:SetTable}{j i:Nat}(h:t.slot j=.live i):t.place[i]? = some j:=by
 unfold Qc9 at h
 dsimp only at h
 split at h
 ·rename_i e
  cases h;exact eq_of_beq e
 ·split at h<;>cases h
theorem Tab.slot_at{t:SetTable}(x:Tab t){i:Nat}{j:Nat}(h:t.place[i]? = some j):t.slot j=.live i:=by
 have hj:j∈t.place.toList:=ZK.mpr (YD h);cases hs:t.slot j with
 |empty=>exact absurd hj (x.slot_e hs)
 |dummy=>exact absurd hs (x.slot_dm j)
 |live i'=>
  have h':=Tab.slot_l hs;obtain⟨h1,e1⟩:=Z1.mp h;obtain⟨h2,e2⟩:=Z1.mp h'
  congr 1
  rcases YX i' i with z | z | z
  ·have:=Jx.mp x.pw i' i (by simpa using h2) (by simpa using h1) z;simp only[Za] at this;omega
  ·exact z
  ·have:=Jx.mp x.pw i i' (by simpa using h1) (by simpa using h2) z;simp only[Za] at this;omega
theorem QpE{t:SetTable}(x:Tab t)(hashAt:Nat->Int)(h:Int):∀(n fuel:Nat)(p:Zb),n<fuel->t.slot (stps t n p).j=.empty->p.dummy=none ->
  ∃k,k<=n/\(∀m,m<k->∃i,t.slot (stps t m p).j=.live i/\hashAt i≠h)/\((Jz t hashAt h fuel p=some (.empty (stps t k p).j none)/\t.slot (stps t k p).j=.empty)∨(k<n/\∃i,Jz t hashAt h fuel p=some (.candidate (stps t k p).j i (stps t (k+1) p))/\t.slot (stps t k p).j=.live i/\hashAt i=h)):=by
 intro n;induction n with
 |zero=>
  intro fuel p hf he hd;obtain⟨fuel,rfl⟩:∃m,fuel=m+1:=⟨fuel - 1,by omega⟩
  refine⟨0,Qj _,λm hm=>absurd hm (YN _),.inl ⟨?_,he⟩⟩;unfold Jz;rw[show t.slot p.j=.empty from he]
  dsimp only
  rw[hd];rfl
 |succ n ih=>
  intro fuel p hf he hd;obtain⟨fuel,rfl⟩:∃m,fuel=m+1:=⟨fuel - 1,by omega⟩
  cases hs:t.slot p.j with
  |empty=>
   refine⟨0,Qu _,λm hm=>absurd hm (YN _),.inl ⟨?_,hs⟩⟩;unfold Jz;rw[hs]
   dsimp only
   rw[hd];rfl
  |dummy=>exact absurd hs (x.slot_dm _)
  |live i=>
   by_cases z:hashAt i=h
   ·refine⟨0,Qu _,λm hm=>absurd hm (YN _),.inr ⟨Qbz _,i,?_,hs,z⟩⟩;unfold Jz;rw[hs]
    dsimp only
    rw[if_pos (by simp[z])];rfl
   ·obtain⟨k,hk,ps,q⟩:=ih fuel (t.advance p) (by omega) he (by rw[QhQ];exact hd);have eg:Jz t hashAt h (fuel+1) p=Jz t hashAt h fuel (t.advance p):=by
     conv=>lhs;unfold Jz
     rw[hs]
     dsimp only
     rw[if_neg (by simp[z])]
    have ps':∀m,m<k+1->∃i,t.slot (stps t m p).j=.live i/\hashAt i≠h:=λm hm=>by
     cases m with
     |zero=>exact⟨i,hs,z⟩
     |succ m=>exact ps m (by omega)
    rcases q with⟨q1,q2⟩ | ⟨q0,i',q1,q2,q3⟩
    ·exact⟨k+1,by omega,ps',.inl ⟨by rw[eg];exact q1,q2⟩⟩
    ·exact⟨k+1,by omega,ps',.inr ⟨by omega,i',by rw[eg];exact q1,q2,q3⟩⟩
theorem Qri(t:SetTable):∀(k m j i perturb:Nat)(d:Option Nat),k<=m->(stps t k { j:=j,more:=m,i:=i,perturb:=perturb,dummy:=d }).j=j+k
 |0,_,_,_,_,_,_=>rfl
 |k+1,m,j,i,perturb,d,h=>by
  obtain⟨m,rfl⟩:∃m',m=m'+1:=⟨m - 1,by omega⟩
  show(stps t k (t.advance _)).j=_;have:t.advance { j:=j,more:=m+1,i:=i,perturb:=perturb,dummy:=d }={ j:=j+1,more:=m,i:=i,perturb:=perturb,dummy:=d }:=by
   unfold YW;rw[if_pos (by show m+1 > 0;omega)];rfl
  rw[this,Qri t k m _ _ _ _ (by omega)];omega
theorem QpF{t:SetTable}{owner:Array (Option Nat)}:∀(fuel i perturb j:Nat),Ju t.mask owner fuel i perturb=some j->∃n,(stps t n (Qom t i perturb none)).j=j/\∀m,m<n->owner.getD (stps t m (Qom t i perturb none)).j (some 0)≠none:=by
 intro fuel;induction fuel with
 |zero=>intro i perturb j h;cases h
 |succ fuel ih=>
  intro i perturb j h;unfold Ju at h;have jr:∀k,k<=Jk t.mask i - i->(stps t k (Qom t i perturb none)).j=i+k:=λk hk=>Qri t k _ _ _ _ _ hk
  have re:Jk t.mask i+1 - i=Jk t.mask i - i+1:=by unfold Jk;split<;>omega
  cases hfd:(Qq (Jk t.mask i+1 - i)).find? λk=>(owner.getD (i+k) (some 0)).isNone with
  |some k=>
   rw[hfd] at h;cases h;obtain⟨_,hk,hb⟩:=List.find?_range_eq_some.mp hfd
   have hk:=QV.mp hk;rw[re] at hk;refine⟨k,jr k (by omega),λm hm=>?_⟩;rw[jr m (by omega)];have:=hb m hm;intro z;rw[z] at this;cases this
  |none=>
   rw[hfd] at h;obtain⟨n,e,w⟩:=ih _ _ _ h;have all:=Qn1.mp hfd;refine⟨Jk t.mask i - i+1+n,by rw[YU,QfP];exact e,λm hm=>?_⟩;by_cases z:m<Jk t.mask i - i+1
   ·rw[jr m (by omega)];have:=all m (QV.mpr (by omega));intro y;rw[y] at this;exact this rfl
   ·obtain⟨m',rfl⟩:∃m',m=Jk t.mask i - i+1+m':=⟨m - (Jk t.mask i - i+1),by omega⟩
    rw[YU,QfP];exact w m' (by omega)
def tM(mask:Nat):SetTable:={ mask:=mask,place:=#[],dummies:=#[],finger:=0,led:=true,moves:=0,plain:=true }
def Qyn(mask:Nat)(owner:Array (Option Nat))(H:Nat->Int):Prop:=∀j k,owner.getD j none=some k->∃n,(stps (tM mask) n ((tM mask).probeStart (H k))).j=j/\∀m,m<n->owner.getD (stps (tM mask) m ((tM mask).probeStart (H k))).j none≠none
theorem Qmz{mask:Nat}(hg:QbV (mask+1)=true){owner:Array (Option Nat)}{k:Nat}{H:Nat->Int}(x:Own mask owner k)(w:Qyn mask owner H)(hk:k<=mask):∃j,Ju mask owner (Jw mask) (Jg (H k) % (mask+1)) (Jg (H k))=some j/\Own mask (owner.setIfInBounds j (some k)) (k+1)/\Qyn mask (owner.setIfInBounds j (some k)) H:=by
 obtain⟨j,hj,y⟩:=QjC hg x hk (H k);refine⟨j,hj,y,?_⟩;have gr:∀z,owner.getD z none≠none->(owner.setIfInBounds j (some k)).getD z none≠none:=λz hz=>by
  have hs:z<owner.size:=by
   apply J8
   intro c;exact hz (by simp[Zo,c])
  by_cases e:j=z
  ·subst e;simp[Zo,hs]
  ·have:(owner.setIfInBounds j (some k)).getD z none=owner.getD z none:=by simp[Zo,hs,Qa8,e]
   rw[this];exact hz
 obtain⟨n,e,way⟩:=QpF (t:=tM mask) _ _ _ _ hj;intro j' k' h';by_cases z:j=j'
 ·subst z;have hs:j<owner.size:=by
   apply J8
   intro c;simp[Zo,c] at h'
  have ek:k'=k:=by
   simp[Zo,hs] at h';exact h'.symm
  subst ek;refine⟨n,e,λm hm=>gr _ ?_⟩;have h1:=way m hm;have h2:(stps (tM mask) m ((tM mask).probeStart (H k'))).j<=mask:=Qih (tM mask) (H k') m;have h3:(stps (tM mask) m ((tM mask).probeStart (H k'))).j<owner.size:=by rw[x.sz];omega
  have h1:owner.getD (stps (tM mask) m ((tM mask).probeStart (H k'))).j (some 0)≠none:=h1
  simpa [Zo,h3] using h1
 ·have h2:owner.getD j' none=some k':=by
   have hs:j'<owner.size:=by
    apply J8
    intro c;simp[Zo,c] at h'
   rw[<- h'];simp[Zo,hs,Qa8,z]
  obtain⟨n',e',way'⟩:=w j' k' h2;exact⟨n',e',λm hm=>gr _ (way' m hm)⟩
theorem QjE{mask:Nat}(hg:QbV (mask+1)=true)(H:Nat->Int):∀(hs:List Int)(owner:Array (Option Nat))(k:Nat),Own mask owner k->Qyn mask owner H->(∀i (hi:i<hs.length),H (k+i)=hs[i])->k+hs.length<=mask+1->∃owner',hs.foldl (λacc h=>do
  let (owner,k) <- acc
  let j <- Ju mask owner (Jw mask) (Jg h % (mask+1)) (Jg h)
  pure (owner.setIfInBounds j (some k),k+1)) (some (owner,k))=some (owner',k+hs.length)/\Own mask owner' (k+hs.length)/\Qyn mask owner' H
 |[],owner,k,x,w,_,_=>⟨owner,rfl,x,w⟩
 |h::hs,owner,k,x,w,hH,hl=>by
  rw[Qy] at hl;have e0:H k=h:=hH 0 (by simp);obtain⟨j,hj,y,y2⟩:=Qmz hg x w (by omega);rw[e0] at hj;obtain⟨o',e,z,z2⟩:=QjE hg H hs _ (k+1) y y2 (λi hi=>by
   have:=hH (i+1) (by rw[Qy];omega);rw[show k+1+i=k+(i+1) by omega,this];rfl) (by omega)
  refine⟨o',?_,by rw[Qy,show k+(hs.length+1)=k+1+hs.length by omega];exact z,z2⟩;rw[QcL,Qy,show k+(hs.length+1)=k+1+hs.length by omega,<- e]
  congr 1
  show(Ju mask owner (Jw mask) (Jg h % (mask+1)) (Jg h)).bind _=_;rw[hj];rfl
theorem Qky{mask finger moves:Nat}{led:Bool}(hg:QbV (mask+1)=true)(ho:mask % 2=1)(hashes:Array Int)(hl:hashes.size<=mask) :
  ∃t order,QaF mask finger moves led true hashes=some (t,order)/\Tab t/\t.mask=mask/\t.led=led/\t.place.size=hashes.size/\order.toList.Perm (Qq hashes.size)/\∀(i j k:Nat),t.place[i]? = some j->order[i]? = some k->Rch t j (hashes.getD k 0):=by
 obtain⟨owner,e,x,w⟩:=QjE hg (λk=>hashes.getD k 0) hashes.toList (Qa7 (mask+1) none) 0 (Ql9 mask) (λj k h=>by
   have:(Qa7 (mask+1) (none:Option Nat)).getD j none=none:=by
    by_cases c:j<mask+1<;>simp[Zo,c]
   rw[this] at h;cases h) (λi hi=>by
   have hi':i<hashes.size:=by simpa using hi
   simp[Zo,hi']) (by rw[Qc];omega)
 rw[JU,Qc] at e x;have ec:Qbl mask hashes=some owner:=by
  unfold Qbl;rw[<- QnS];exact congrArg (λz=>z.map (·.1)) e
 have el:QaF mask finger moves led true hashes=some ({ mask:=mask,place:=(((Qq (mask+1)).filterMap λj=>(owner.getD j none).map (j,·)).map (·.1)).toArray,dummies:=#[],finger:=finger,led:=led,moves:=moves,plain:=true },(((Qq (mask+1)).filterMap λj=>(owner.getD j none).map (j,·)).map (·.2)).toArray):=by
  unfold QaF;rw[ec];rfl
 obtain⟨t,order,e2,T,m1,m2,m3,m4⟩:=Qt5 (finger:=finger) (moves:=moves) (led:=led) hg ho hashes hl;rw[el] at e2;have e2:=QB e2;have et:_=t:=congrArg Prod.fst e2;have eo:_=order:=congrArg Prod.snd e2;refine⟨t,order,by rw[el,e2],T,m1,m2,m3,m4,λi j k hj hk=>?_⟩;have live:∀y z,(y,z)∈((Qq (mask+1)).filterMap λj=>(owner.getD j none).map (j,·))↔y<=mask/\owner.getD y none=some z:=λy z=>by
  rw[Zs];constructor
  ·rintro⟨a,ha,e⟩;have:=QV.mp ha;cases hoa:owner.getD a none with
   |none=>rw[hoa] at e;cases e
   |some b=>rw[hoa] at e;cases e;exact⟨by omega,hoa⟩
  ·rintro⟨h1,h2⟩;exact⟨y,QV.mpr (by omega),by rw[h2];rfl⟩
 have pl:∀y,owner.getD y none≠none->y<=mask->y∈t.place.toList:=λy hy hm=>by
  rw[<- et];show y∈(Z5 _).toList;rw[ZS,QL];cases hoy:owner.getD y none with
  |none=>exact absurd hoy hy
  |some z=>exact⟨(y,z),(live y z).mpr ⟨hm,hoy⟩,rfl⟩
 have hjk:(j,k)∈((Qq (mask+1)).filterMap λj=>(owner.getD j none).map (j,·)):=by
  rw[<- et] at hj;rw[<- eo] at hk;have hj:(((Qq (mask+1)).filterMap λj=>(owner.getD j none).map (j,·)).map (·.1)).toArray[i]? = some j:=hj;have hk:(((Qq (mask+1)).filterMap λj=>(owner.getD j none).map (j,·)).map (·.2)).toArray[i]? = some k:=hk;rw[List.getElem?_toArray,Qz] at hj hk;cases hz:((Qq (mask+1)).filterMap λj=>(owner.getD j none).map (j,·))[i]? with
  |none=>rw[hz] at hj;cases hj
  |some q=>
   rw[hz] at hj hk;have h1:q.1=j:=QB hj;have h2:q.2=k:=QB hk;rw[<- h1,<- h2];exact QK hz
 obtain⟨hjm,hjo⟩:=(live j k).mp hjk;obtain⟨n,e3,way⟩:=w j k hjo;have hm:t.mask=(tM mask).mask:=m1;refine⟨n,by rw[Qb8 hm,QbO hm];exact e3,λm hlt=>?_⟩;rw[Qb8 hm,QbO hm];exact pl _ (way m hlt) (Qih (tM mask) _ m)
theorem Qdq:Slot "set_iterator" "__next__" "set_iterator.__next__" :=
 .of (owner := "set_iterator") (n := "__next__") (by rw[QjZ,QdZ];kernel_rfl) (by decide +kernel) (by decide +kernel) (by decide +kernel) (by first | exact .inl (by decide +kernel) | exact .inr (by decide +kernel)) (by rw[QeY];kernel_rfl)
theorem Qm3:entryFor table "set_iterator.__next__" = some Yn.«set_iterator.__next__» := entryFor_of_fast (by kernel_rfl)
theorem QwG:Manifest.owners.lookup (String.ofList ['r', 'o', 't', 'a', 'r', 'e', 't', 'i', '_', 't', 'e', 's'].reverse)=some Manifest.sig_set_iterator:=by kernel_rfl
theorem QnD(a:Value):argsOk "set_iterator.__next__" ⟨[a],[]⟩:=by
 unfold argsOk;rw[signature?_of (id := "set_iterator.__next__") (n:=['_', '_', 't', 'x', 'e', 'n', '_', '_']) (o:=['r', 'o', 't', 'a', 'r', 'e', 't', 'i', '_', 't', 'e', 's']) (by kernel_rfl) QwG];kernel_rfl
theorem Qus:entryFor table "set.__iter__" = some Yn.«frozenset.__iter__» := entryFor_alias (id' := "frozenset.__iter__") (by kernel_rfl) (by first | rfl | decide +kernel | (unfold Qsc;simp +decide [QnM])) (by decide +kernel) (by kernel_rfl)
def IsSI(h:Heap)(I:Addr)(first:Value)(i a n ep:Nat):Prop:=∃o,h.get? I=some o/\o.cls=.type "set_iterator" /\ o.data=.fields #[first,.int i 0,.ref a,.int n 0,.int ep 0]
theorem IsSI.typeIs{s:Shared}{I:Addr}{first:Value}{i a n ep:Nat}(x:IsSI s.heap I first i a n ep):s.TypeIs (.ref I) "set_iterator" := let ⟨o,h,c,_⟩:=x;⟨o,h,c⟩
structure SetAt (h:Heap) (a:Addr) (es:Array (Int×Value)) (ep:Nat) (t:SetTable):Prop where
 at_:∃o,h.get? a=some o/\o.ExactSet/\o.data=.set es ep t
 ft:t.fits es.size=true
section
variable{prog:QC}{w:Ja}{A:Q2}{E:Value->Shared->Prop}{s:Shared}
theorem QtO{I a:Addr}{i ep slot nx:Nat}{es:Array (Int×Value)}{t:SetTable}{x:Value}{Q:Option Value->Shared->Prop}(hit:IsSI s.heap I (.int slot 0) i a es.size ep)(ha:SetAt s.heap a es ep t)
  (hN:∀(A:Q2)(E:Value->Shared->Prop)(Q':Option (Value×Nat)->Shared->Prop),Q' (some (x,nx)) s->wpAny (model prog w) A (setNext a slot i ep) Q' E s)
  (hQ:∀h',IsSI h' I (.int nx 0) (i+1) a es.size ep->YJ I s.heap h'->Q (some x) { s with heap:=h' }):wpAny (model prog w) A (pyNext (.ref I)) Q E s:=by
 obtain⟨o,ho,hc,hd⟩:=id hit;obtain⟨os,hos,hex,hds⟩:=ha.at_;unfold pyNext;refine wpAny_bind (QaD (Zd (name:=Qal "__next__") hit.typeIs Qdq (JW Qdq hit.typeIs Qm3 ?_ (QnD _))));unfold Yn.«set_iterator.__next__»
 wp_walk
 rw[hd];refine wpAny_pure ?_
 dsimp only
 refine wpAny_bind (Qu4 hos hds ha.ft ?_);rw[if_neg (by simp)];refine wpAny_bind ?_
 refine hN _ _ _ ?_
 dsimp only
 refine wpAny_bind (Qcj ho hd (by simp) ?_);have g1:(s.heap.update I (Qj5 λx=>x.setIfInBounds 0 (rawInt ↑nx))).get? I=some (Qj5 (λx=>x.setIfInBounds 0 (rawInt ↑nx)) o):=ZH _ ho (QcO (YB hd _));have d1:(Qj5 (λx=>x.setIfInBounds 0 (rawInt ↑nx)) o).data=.fields #[.int nx 0,.int i 0,.ref a,.int es.size 0,.int ep 0]:=by rw[YB hd];simp[rawInt]
 refine wpAny_bind (Qcj g1 d1 (by simp) (wpAny_pure ⟨x,rfl,wpAny_pure (hQ _ ?_ ((Zv ..).trans (Zv ..)))⟩));exact⟨_,ZH _ g1 (QcO (YB d1 _)),(Qe4 ..).trans ((Qe4 ..).trans hc),by rw[YB d1];simp[rawInt]⟩
theorem Qw1{I a:Addr}{i ep slot:Nat}{es:Array (Int×Value)}{t:SetTable}{Q:Option Value->Shared->Prop}(hh:A.handled=none)(hit:IsSI s.heap I (.int slot 0) i a es.size ep)(ha:SetAt s.heap a es ep t)
  (hN:∀(A:Q2)(E:Value->Shared->Prop)(Q':Option (Value×Nat)->Shared->Prop),Q' none s->wpAny (model prog w) A (setNext a slot i ep) Q' E s)
  (hQ:∀h',Heap.ExtBut I s.heap h'->Q none { s with heap:=h' }):wpAny (model prog w) A (pyNext (.ref I)) Q E s:=by
 obtain⟨o,ho,hc,hd⟩:=id hit;obtain⟨os,hos,hex,hds⟩:=ha.at_;unfold pyNext;refine wpAny_bind (QaD (Zd (name:=Qal "__next__") hit.typeIs Qdq (JW Qdq hit.typeIs Qm3 ?_ (QnD _))));unfold Yn.«set_iterator.__next__»
 wp_walk
 rw[hd];refine wpAny_pure ?_
 dsimp only
 refine wpAny_bind (Qu4 hos hds ha.ft ?_);rw[if_neg (by simp)];refine wpAny_bind ?_
 refine hN _ _ _ ?_
 dsimp only
 refine wpAny_bind (Qcj ho hd (by simp) ?_);refine wpAny_bind ?_
 simp only[newExc,newTuple];refine wpAny_bind (JQ ?_ (by size_fits));refine wpAny_bind (m:=firstArgMember _ _) (wpAny_of_eq (a:=JI) (by first | rfl | (simp only[firstArgMember];rfl)) ?_);refine JQ ?_ (by size_fits)
 simp only[raiseNew];refine wpAny_bind (wpAny_handled ?_)
 first | rw[show A.in1.handled=none from hh] | rw[hh]
 refine wpAny_bind (wpAny_pure (wpAny_throw ?_));refine wpAny_bind (Qh1 (T := "StopIteration") (b:=true) ⟨_,QD _ rfl,rfl⟩ (by rw[QeY];kernel_rfl) ?_);exact wpAny_pure (hQ _ (((Zv ..).extBut.push _).push _))
theorem Qrl{a:Addr}{ep slot given:Nat}{es:Array (Int×Value)}{t:SetTable}{Q:Option (Value×Nat)->Shared->Prop}(hb:w.params.followText "set-order" = false)(ha:SetAt s.heap a es ep t)(hp:t.plain=true)(hl:t.led=true)
  (h:Q (match es[JJ t.place slot]?,t.place[JJ t.place slot]? with | some (_,x),some j=>some (x,j+1) | _,_=>none) s):wpAny (model prog w) A (setNext a slot given ep) Q E s:=by
 obtain⟨os,hos,hex,hds⟩:=ha.at_;unfold setNext;refine wpAny_bind (Zr hos hds ha.ft ?_)
 dsimp only
 unfold setsByText;refine wpAny_bind (wpAny_bind (Yc (wpAny_pure ?_)));rw[show(model prog w).w.params.followText "set-order" = false from hb,if_neg QJ];split
 ·rename_i hdr
  exact absurd (show(!t.plain&&decide (es.size > 1))=true from hdr) (by rw[hp];simp)
 ·refine wpAny_bind ?_
  show wpAny (model prog w) A (if(!t.led && !es.isEmpty)=true then unsupported "set:maker-not-led" else pure ()) _ E s;rw[if_neg (by rw[hl];simp)];exact wpAny_pure (wpAny_pure h)
theorem Qly{a:Addr}{ep slot given:Nat}{es:Array (Int×Value)}{t:SetTable}{Q:Option (Value×Nat)->Shared->Prop}(hb:w.params.followText "set-order" = true)(ha:SetAt s.heap a es ep t)
  (h:Q (((pickOrder (w.params.setOrder a ep) es)[given]?).map λe=>(e.2,slot)) s):wpAny (model prog w) A (setNext a slot given ep) Q E s:=by
 obtain⟨os,hos,hex,hds⟩:=ha.at_;unfold setNext;refine wpAny_bind (Zr hos hds ha.ft ?_)
 dsimp only
 unfold setsByText;refine wpAny_bind (wpAny_bind (Yc (wpAny_pure ?_)));rw[show(model prog w).w.params.followText "set-order" = true from hb,if_pos rfl,if_neg (by simp)];refine wpAny_bind ?_
 unfold setWalk;refine wpAny_bind (Zr hos hds ha.ft ?_)
 dsimp only
 unfold setsByText;refine wpAny_bind (wpAny_bind (Yc (wpAny_pure ?_)));rw[show(model prog w).w.params.followText "set-order" = true from hb,if_pos rfl];refine wpAny_bind (Yc (wpAny_pure ?_));exact wpAny_pure h
theorem Qhd{α:Type}(next:Nat->Nat)(xs:Array α):(pickOrder next xs).toList.Perm xs.toList:=by
 unfold pickOrder;have go:∀(n k:Nat)(left:List α)(out:Array α),left.length=n->(QpZ next n k left out).toList.Perm (out.toList++left):=λn=>by
  induction n with
  |zero=>
   intro k left out hl;rw[Qb4.mp hl,Jt];exact Z0 _
  |succ n ih=>
   intro k left out hl;have hi:next k % left.length<left.length:=Qdb _ (by omega)
   unfold QpZ;rw[Qf hi]
   dsimp only
   refine(ih (k+1) _ _ (by rw[List.length_eraseIdx,if_pos hi];omega)).trans ?_
   rw[QbK,Q5];refine Yp _ ?_
   have sp:left=left.take (next k % left.length)++left[next k % left.length]::left.drop (next k % left.length+1):=by rw[<- Qaa hi,Jn]
   have pm:=(Qsg (a:=left[next k % left.length]) (l₁:=left.take (next k % left.length)) (l₂:=left.drop (next k % left.length+1))).symm;rw[<- sp,<- List.eraseIdx_eq_take_drop_succ] at pm;exact pm
 have:=go xs.size 0 xs.toList #[] (by simp)
 simpa using this
theorem Qxg{a:Addr}{ep:Nat}{es:Array (Int×Value)}{t:SetTable}{Q:Value->Shared->Prop}(ha:SetAt s.heap a es ep t)(hp:t.plain=true)
  (hQ:Q (.ref s.heap.objs.size) { s with heap:=s.heap.push { cls:=.type "set_iterator",data:=.fields #[.int 0 0,.int 0 0,.ref a,.int es.size 0,.int ep 0] } }):wpAny (model prog w) A (pyIter (.ref a)) Q E s:=by
 obtain⟨os,hos,hex,hds⟩:=ha.at_;have hT:s.TypeIs (.ref a) "set" := ⟨os,hos,hex.1⟩;refine Qyr hT PySem.F.slot_set_iter (JW PySem.F.slot_set_iter hT Qus ?_ (PySem.F.args_set_iter_1 _));unfold Yn.«frozenset.__iter__»
 wp_walk
 have nf:¬(t.place.size != es.size||decide (t.fill > t.mask))=true:=by
  have hf:=ha.ft;simp only[Qby,JS,beq_iff_eq,decide_eq_true_eq] at hf;simp[hf.1,Nat.not_lt.mpr hf.2]
 rw[hds]
 dsimp only
 rw[if_neg nf];refine wpAny_pure (wpAny_pure (wpAny_pure ?_));refine wpAny_bind ?_
 unfold setDrawn;refine wpAny_bind (Zr hos hds ha.ft ?_)
 dsimp only
 unfold setsByText;refine wpAny_bind (wpAny_bind (Yc (wpAny_pure ?_)));refine wpAny_pure ?_
 split
 ·rename_i hdr
  have hdr:(!(w.params.followText "set-order")&&(!t.plain&&decide (es.size > 1)))=true:=hdr;rw[hp] at hdr;simp at hdr
 ·refine wpAny_bind (wpAny_pure ?_);refine wpAny_bind (wpAny_setEpoch_of hos hds ha.ft ?_);exact wpAny_bind (JQ (wpAny_pure ⟨_,rfl, "set_iterator",_,⟨_,QD _ rfl,rfl⟩,Qdq.lookup,hQ⟩))
theorem SetAt.at'{h h':Heap}{a:Addr}{es:Array (Int×Value)}{ep:Nat}{t:SetTable}(x:SetAt h a es ep t)(k:∀o,h.get? a=some o->h'.get? a=some o):SetAt h' a es ep t:=let ⟨o,h1,h2⟩:=x.at_;⟨⟨o,k o h1,h2⟩,x.ft⟩
theorem IsSI.at'{h h':Heap}{I:Addr}{first:Value}{i a n ep:Nat}(x:IsSI h I first i a n ep)(k:∀o,h.get? I=some o->h'.get? I=some o):IsSI h' I first i a n ep:=let ⟨o,h1,h2⟩:=x;⟨o,k o h1,h2⟩
end
structure Way (prog:QC) (w:Ja) (a:Addr) (es:Array (Int×Value)) (ep:Nat) (t:SetTable) (so:Nat->Nat) (vs:Array (Int×Value)):Prop where
 pm:vs.toList.Perm es.toList
 s0:so 0=0
 item:∀(s:Shared)(A:Q2)(E:Value->Shared->Prop)(Q:Option (Value×Nat)->Shared->Prop)(i:Nat)(e:Int×Value),SetAt s.heap a es ep t->vs[i]? = some e->Q (some (e.2,so (i+1))) s->wpAny (model prog w) A (setNext a (so i) i ep) Q E s
 fin:∀(s:Shared)(A:Q2)(E:Value->Shared->Prop)(Q:Option (Value×Nat)->Shared->Prop),SetAt s.heap a es ep t->Q none s->wpAny (model prog w) A (setNext a (so es.size) es.size ep) Q E s
theorem Way.walks{prog:QC}{w:Ja}{A:Q2}(hh:A.handled=none){a:Addr}{es:Array (Int×Value)}{ep:Nat}{t:SetTable}{so:Nat->Nat}{vs:Array (Int×Value)}(W:Way prog w a es ep t so vs)(I:Addr)(hne:a≠I)(self:∀(s:Shared)(Q:Value->Shared->Prop)(E:Value->Shared->Prop)(i:Nat),IsSI s.heap I (.int (so i) 0) i a es.size ep->Q (.ref I) s->wpAny (model prog w) A (pyIter (.ref I)) Q E s) :
  Walks prog w A I [I,a] [I] es.size (λi v=>(vs[i]?).map (·.2)=some v) (λi h=>IsSI h I (.int (so i) 0) i a es.size ep/\SetAt h a es ep t) where
 sub:=λb hb=>by simp at hb;simp[hb]
 frame:=λ_ _ _ st hk=>⟨st.1.at' λo e=>hk I (by simp) o e,st.2.at' λo e=>hk a (by simp) o e⟩
 item:=λi s Q E hi st hQ=>by
  have hl:vs.size=es.size:=by rw[<- Qc,W.pm.length_eq,Qc]
  have hv:vs[i]? = some vs[i]:=by simp[hl,hi]
  refine QtO st.1 st.2 (x:=vs[i].2) (nx:=so (i+1)) (λA E Q' q=>W.item s A E Q' i _ st.2 hv q) λh' hit' hs'=>?_
  refine hQ _ h' s.toks (by rw[hv];rfl) ⟨hit',st.2.at' λo e=>hs'.extBut a o (λz=>hne z) e⟩ λb o hb e=>hs'.extBut b o (λz=>hb (by simp[z])) e
 done:=λs Q E st hQ=>Qw1 hh st.1 st.2 (λA E Q' q=>W.fin s A E Q' st.2 q) λh' he'=>hQ h' s.toks λb o hb e=>he' b o (λz=>hb (by simp[z])) e
 self:=λi s Q E st hQ=>self s Q E i st.1 hQ
theorem Qn6{prog:QC}{w:Ja}(hb:w.params.followText "set-order" = true)(a:Addr)(es:Array (Int×Value))(ep:Nat)(t:SetTable):Way prog w a es ep t (λ_=>0) (pickOrder (w.params.setOrder a ep) es) where
 pm:=Qhd _ _
 s0:=rfl
 item:=λs A E Q i e ha hv q=>Qly hb ha (by rw[hv];exact q)
 fin:=λs A E Q ha q=>Qly hb ha (by
  have hl:(pickOrder (w.params.setOrder a ep) es).size=es.size:=by rw[<- Qc,(Qhd _ _).length_eq,Qc]
  rw[ZV (by omega)];exact q)
theorem Qsq{prog:QC}{w:Ja}(hb:w.params.followText "set-order" = false)(a:Addr)(es:Array (Int×Value))(ep:Nat)(t:SetTable)(hp:t.plain=true)(hl:t.led=true)(hz:t.place.size=es.size)(so:Nat->Nat)(s0:so 0=0)(hs:∀i,i<t.place.size->so (i+1)=t.place.getD i 0+1)(hbel:∀i,i<=t.place.size->JJ t.place (so i)=i):Way prog w a es ep t so es where
 pm:=Z0 _
 s0:=s0
 item:=λs A E Q i e ha hv q=>Qrl hb ha hp hl (by
  have hi:i<es.size:=by
   by_cases z:i<es.size
   ·exact z
   ·rw[ZV (by omega)] at hv;cases hv
  rw[hbel i (by omega),hv,show t.place[i]? = some (t.place.getD i 0) by simp[Zo,show i<t.place.size by omega]]
  dsimp only
  rw[<- hs i (by omega)];exact q)
 fin:=λs A E Q ha q=>Qrl hb ha hp hl (by
  rw[hbel es.size (by omega),ZV (Qj _)];exact q)
section
variable{prog:QC}{w:Ja}{A:Q2}{E:Value->Shared->Prop}{s:Shared}
theorem QmN(n:Nat){k:Int}{v:Value}(h:(intKind prog w).is k v=true):hashByValue n v=pure true/\∀d,ofAClassStatement d v=pure false:=by
 cases v<;>first | (cases h;done) | skip
 all_goals first | exact⟨by cases n<;>rfl,λd=>by cases d<;>rfl⟩ | (simp[intKind] at h)
theorem Qhu{ks:List Int}{vs:List Value}(h:ItemsAre (intKind prog w) ks vs):∀v∈vs,∃k,(intKind prog w).is k v=true:=by
 induction h with
 |nil=>intro v hv;cases hv
 |cons h1 _ ih=>
  intro v hv;rcases Qv.mp hv with z | z
  ·subst z;exact⟨_,h1⟩
  ·exact ih v z
theorem QmM{ks:List Int}{a:Addr}{Q:Bool->Shared->Prop}(hk:ZL (intKind prog w) s.heap ks a)(h:Q true s):wpAny (model prog w) A (hashByValue 8 (.ref a)) Q E s:=by
 have hT:=hk.typeIs;obtain⟨o,items,n,ho,_,hd,hi⟩:=hk;have ha:=Qhu hi;unfold hashByValue;refine wpAny_bind (wpAny_specialOf hT F.slot_tuple_hash.lookup ?_)
 dsimp only
 refine wpAny_bind (ZY ho hd ?_);refine wpAny_bind ?_
 show wpAny _ _ (forIn items _ _) _ _ s;rw[<- QnR];refine Qc7 _ (λrest r s'=>r.1=none/\s'=s/\∀v∈rest,∃k,(intKind prog w).is k v=true) _ ?_ ?_ _ _ ⟨rfl,rfl,ha⟩
 ·rintro v rest r s' ⟨hr,rfl,hall⟩;obtain⟨k,hk⟩:=hall v JM;rw[(QmN _ hk).1];refine wpAny_bind (wpAny_pure ?_);simp only[Qyb,Zw,if_false];exact wpAny_pure ⟨rfl,rfl,λu hu'=>hall u (Q7 _ hu')⟩
 ·rintro⟨r1,r2⟩ s' ⟨hr,rfl,_⟩;simp only at hr;subst hr;exact wpAny_pure h
theorem Qhk{ks:List Int}{a:Addr}{Q:Bool->Shared->Prop}(hk:ZL (intKind prog w) s.heap ks a)(h:Q false s):wpAny (model prog w) A (ofAClassStatement 8 (.ref a)) Q E s:=by
 have hT:=hk.typeIs;obtain⟨o,items,n,ho,_,hd,hi⟩:=hk;have ha:=Qhu hi;unfold ofAClassStatement;refine wpAny_bind (Qb2 hT ?_)
 dsimp only
 rw[if_pos (by decide)];refine wpAny_bind (wpAny_pure ?_);rw[if_neg (by decide)];refine wpAny_bind (ZY ho hd ?_)
 dsimp only
 refine wpAny_bind ?_
 show wpAny _ _ (forIn items _ _) _ _ s;rw[<- QnR];refine Qc7 _ (λrest r s'=>r.1=none/\s'=s/\∀v∈rest,∃k,(intKind prog w).is k v=true) _ ?_ ?_ _ _ ⟨rfl,rfl,ha⟩
 ·rintro v rest r s' ⟨hr,rfl,hall⟩;obtain⟨k,hk⟩:=hall v JM;rw[(QmN 0 hk).2];refine wpAny_bind (wpAny_pure ?_);rw[if_neg (by decide)];exact wpAny_pure ⟨rfl,rfl,λu hu'=>hall u (Q7 _ hu')⟩
 ·rintro⟨r1,r2⟩ s' ⟨hr,rfl,_⟩;simp only at hr;subst hr;exact wpAny_pure h
theorem QsF{ks:List Int}{a:Addr}{stored:List Value}{Q:Bool->Shared->Prop}(hk:ZL (intKind prog w) s.heap ks a)(hs:∀v∈stored,∃ks' b,v=.ref b/\ZL (intKind prog w) s.heap ks' b)(h:Q false s):wpAny (model prog w) A (searchCouldBeSeen (.ref a) stored) Q E s:=by
 unfold searchCouldBeSeen;refine wpAny_bind ?_
 refine Qc7 _ (λrest r s'=>r.1=none/\s'=s/\∀v∈rest,∃ks' b,v=.ref b/\ZL (intKind prog w) s.heap ks' b) _ ?_ ?_ _ _ ⟨rfl,rfl,hs⟩
 ·rintro v rest r s' ⟨hr,rfl,hall⟩;obtain⟨ks',b,rfl,hb⟩:=hall v JM
  dsimp only
  split
  ·exact wpAny_pure ⟨rfl,rfl,λu hu'=>hall u (Q7 _ hu')⟩
  ·refine wpAny_bind (Qr5 hk ?_);rw[if_neg (by decide)];refine wpAny_bind (Qr5 hb ?_);rw[if_neg (by decide)];refine wpAny_bind (Qhk hk ?_);rw[if_neg (by decide)];refine wpAny_bind (Qhk hb ?_);rw[if_neg (by decide)];exact wpAny_pure ⟨rfl,rfl,λu hu'=>hall u (Q7 _ hu')⟩
 ·rintro⟨r1,r2⟩ s' ⟨hr,rfl,_⟩;simp only at hr;subst hr;exact wpAny_pure h
end
theorem Qfj(t:SetTable):∀(n:Nat)(p:Zb),(stps t n p).dummy=p.dummy
 |0,_=>rfl
 |n+1,p=>by
  show(stps t n (t.advance p)).dummy=_;rw[Qfj t n,QhQ]
section
variable{prog:QC}{w:Ja}{A:Q2}{E:Value->Shared->Prop}{s:Shared}
structure TS (prog:QC) (w:Ja) (h:Heap) (a:Addr) (es:Array (Int×Value)) (ep:Nat) (t:SetTable) (ps:List (List Int×Addr)):Prop where
 at_:SetAt h a es ep t
 tab:Tab t
 ent:es.toList=ps.map λp=>(tupleKeyHash (intKind prog w) p.1,QQ p.2)
 key:∀p∈ps,ZL (intKind prog w) h p.1 p.2
 nd:(ps.map (·.1)).Nodup
 rch:∀(i j:Nat)(e:Int×Value),t.place[i]? = some j->es[i]? = some e->Rch t j e.1
 mks:t.mask=7∨t.mask=31∨t.mask=127∨t.mask=511∨t.mask=2047
 few:t.place.size*5<t.mask*3
variable{a:Addr}{es:Array (Int×Value)}{ep:Nat}{t:SetTable}{ps:List (List Int×Addr)}
theorem TS.es_at(x:TS prog w s.heap a es ep t ps)(i:Nat):es[i]? = (ps[i]?).map λp=>(tupleKeyHash (intKind prog w) p.1,QQ p.2):=by
 rw[<- Q8,x.ent,Qz]
theorem TS.size(x:TS prog w s.heap a es ep t ps):es.size=ps.length:=by rw[<- Qc,x.ent,Qe]
theorem TS.psize(x:TS prog w s.heap a es ep t ps):t.place.size=ps.length:=by
 have:=x.at_.ft;unfold Qby at this;have:=(Qs.mp this).1;rw[<- x.size];exact eq_of_beq this
theorem QAT(x:TS prog w s.heap a es ep t ps)(hu:A.units<cLine){ks:List Int}{b:Addr}(hk:ZL (intKind prog w) s.heap ks b){n:Nat}(hn:n<10*Jw t.mask)(he:t.slot (stps t n (t.probeStart (tupleKeyHash (intKind prog w) ks))).j=.empty){Q:SetFound->Shared->Prop}
  (hThere:ks∈ps.map (·.1)->Q (.there none) s)(hFree:ks∉ps.map (·.1)->∀j,j∉t.place.toList->j<=t.mask->Rch t j (tupleKeyHash (intKind prog w) ks)->Q (.free j false) s) :
  ∀(fuel k0:Nat)(stand:Option Zb),k0<=n->n - k0<fuel->stand.getD (t.probeStart (tupleKeyHash (intKind prog w) ks))=stps t k0 (t.probeStart (tupleKeyHash (intKind prog w) ks))->(∀m,m<k0->∃i,t.slot (stps t m (t.probeStart (tupleKeyHash (intKind prog w) ks))).j=.live i/\∀p,ps[i]? = some p->p.1≠ks) ->
   wpAny (model prog w) A (setSearchFrom a (.ref b) (tupleKeyHash (intKind prog w) ks) true fuel stand) Q E s:=by
 obtain⟨o,ho,hex,hd⟩:=x.at_.at_;have hf:=x.at_.ft;intro fuel;induction fuel with
 |zero=>intro k0 stand _ h;exact absurd h (YN _)
 |succ fuel ih=>
  intro k0 stand h1 h2 h3 h4;generalize hH:tupleKeyHash (intKind prog w) ks=H at *;unfold setSearchFrom;refine wpAny_bind (Zr ho hd hf ?_)
  dsimp only
  rw[if_neg (by unfold SetTable.gaveWay;rw[x.tab.od];decide)];obtain⟨k,hkn,pass,met⟩:=QpE x.tab (λi=>(es[i]?.map (·.1)).getD 0) H (n - k0) (10*Jw t.mask) (stps t k0 (t.probeStart H)) (by omega) (by rw[<- YU,show k0+(n - k0)=n by omega];exact he) (by rw[Qfj];rfl);have eh:∀(i:Nat)(p:List Int×Addr),ps[i]? = some p->(es[i]?.map (·.1)).getD 0=tupleKeyHash (intKind prog w) p.1:=λi p hp=>by rw[x.es_at,hp];rfl
  have pass':∀m,m<k0+k->∃i,t.slot (stps t m (t.probeStart H)).j=.live i/\∀p,ps[i]? = some p->p.1≠ks:=λm hm=>by
   by_cases z:m<k0
   ·exact h4 m z
   ·obtain⟨i,hi,hne⟩:=pass (m - k0) (by omega);rw[<- YU,show k0+(m - k0)=m by omega] at hi;refine⟨i,hi,λp hp e=>hne ?_⟩;rw[eh i p hp,e];exact hH
  rcases met with⟨m1,m2⟩ | ⟨m0,i,m1,m2,m3⟩
  ·split
   ·rename_i mt hpb
    rw[h3] at hpb;have hpb:Jz t (λi=>(es[i]?.map (·.1)).getD 0) H (10*Jw t.mask) (stps t k0 (t.probeStart H))=some mt:=hpb;rw[m1] at hpb;cases hpb
    dsimp only
    rw[<- YU] at m2 ⊢;have nin:=x.tab.slot_e m2;refine wpAny_pure (hFree (λhin=>?_) _ nin (Qih t H _) ⟨k0+k,rfl,λm hm=>?_⟩)
    ·obtain⟨p,hp,rfl⟩:=QL.mp hin;obtain⟨ix,hix⟩:=QZ.mp hp;have hlt:ix<t.place.size:=by rw[x.psize];exact(QM.mp hix).1
     have hpl:t.place[ix]? = some t.place[ix]:=by simp[hlt]
     obtain⟨nn,e1,e2⟩:=x.rch ix _ _ hpl (by rw[x.es_at,hix];rfl)
     dsimp only at e1 e2
     rw[hH] at e1 e2;have hlive:=x.tab.slot_at hpl;rw[<- e1] at hlive;rcases YX nn (k0+k) with z | z | z
     ·obtain⟨i',hi',hne⟩:=pass' nn z;rw[hlive] at hi';cases hi';exact hne p hix rfl
     ·rw[z,m2] at hlive;cases hlive
     ·exact nin (e2 _ z)
    ·obtain⟨i',hi',_⟩:=pass' m hm;have:=Tab.slot_l hi';exact ZK.mpr (YD this)
   ·rename_i hpb
    rw[h3] at hpb;exact absurd (show Jz t (λi=>(es[i]?.map (·.1)).getD 0) H (10*Jw t.mask) (stps t k0 (t.probeStart H))=none from by
     cases hz:Jz t (λi=>(es[i]?.map (·.1)).getD 0) H (10*Jw t.mask) (stps t k0 (t.probeStart H)) with
     |none=>rfl
     |some q=>exact absurd hz (hpb q)) (by rw[m1];exact λe=>by cases e)
  ·split
   ·rename_i mt hpb
    rw[h3] at hpb;have hpb:Jz t (λi=>(es[i]?.map (·.1)).getD 0) H (10*Jw t.mask) (stps t k0 (t.probeStart H))=some mt:=hpb;rw[m1] at hpb;cases hpb
    dsimp only
    have hpi:=Tab.slot_l m2;have hlt:i<ps.length:=by rw[<- x.psize];exact(Z1.mp hpi).1
    obtain⟨p,hp⟩:∃p,ps[i]? = some p:=⟨ps[i],by simp[hlt]⟩
    have hpm:=QK hp;have hei:es[i]? = some (tupleKeyHash (intKind prog w) p.1,QQ p.2):=by rw[x.es_at,hp];rfl
    have hst:∀v∈(List.map (λx=>x.2) (Array.filter (λx=>x.1 == H) es).toList),∃ks' b,v=QQ b/\ZL (intKind prog w) s.heap ks' b:=λv hv=>by
     obtain⟨e,he',rfl⟩:=QL.mp hv;have he':e∈es.toList:=by
      rw[Array.toList_filter] at he';exact(ZU.mp he').1
     rw[x.ent] at he';obtain⟨q,hq,rfl⟩:=QL.mp he';exact⟨q.1,q.2,rfl,x.key q hq⟩
    have sm:t.sameMemory t.moves t.mask=some true:=by unfold SetTable.sameMemory;rw[if_pos (by simp)]
    split
    ·refine wpAny_bind (QsF hk hst ?_);rw[if_neg (by decide)];rw[hei]
     dsimp only
     refine wpAny_bind (JL (QxW hu (x.key p hpm) hk ?_));refine wpAny_bind (Zr ho hd hf ?_)
     dsimp only
     by_cases z:p.1=ks
     ·rw[if_pos (by simp[z])];exact wpAny_pure (hThere (QL.mpr ⟨p,hpm,z⟩))
     ·rw[if_neg (by simp[z]),sm]
      dsimp only
      rw[if_pos rfl,m2]
      dsimp only
      rw[hei]
      dsimp only
      refine wpAny_bind ?_
      unfold isSame
      dsimp only
      rw[if_pos (by simp)];refine wpAny_pure (wpAny_bind (wpAny_pure ?_));rw[if_pos rfl]
      dsimp only
      rw[if_neg (by simp[z])];refine ih (k0+k+1) _ (by omega) (by omega) (by rw[<- YU];rfl) λm hm=>?_
      by_cases y:m<k0+k
      ·exact pass' m y
      ·obtain rfl:m=k0+k:=by omega
       refine⟨i,by rw[YU];exact m2,λq hq=>?_⟩;rw[hp] at hq;cases hq;exact z
    ·rw[hei]
     dsimp only
     refine wpAny_bind (JL (QxW hu (x.key p hpm) hk ?_));refine wpAny_bind (Zr ho hd hf ?_)
     dsimp only
     by_cases z:p.1=ks
     ·rw[if_pos (by simp[z])];exact wpAny_pure (hThere (QL.mpr ⟨p,hpm,z⟩))
     ·rw[if_neg (by simp[z]),sm]
      dsimp only
      rw[if_pos rfl,m2]
      dsimp only
      rw[hei]
      dsimp only
      refine wpAny_bind ?_
      unfold isSame
      dsimp only
      rw[if_pos (by simp)];refine wpAny_pure (wpAny_bind (wpAny_pure ?_));rw[if_pos rfl]
      dsimp only
      rw[if_neg (by simp[z])];refine ih (k0+k+1) _ (by omega) (by omega) (by rw[<- YU];rfl) λm hm=>?_
      by_cases y:m<k0+k
      ·exact pass' m y
      ·obtain rfl:m=k0+k:=by omega
       refine⟨i,by rw[YU];exact m2,λq hq=>?_⟩;rw[hp] at hq;cases hq;exact z
   ·rename_i hpb
    rw[h3] at hpb;exact absurd (show Jz t (λi=>(es[i]?.map (·.1)).getD 0) H (10*Jw t.mask) (stps t k0 (t.probeStart H))=none from by
     cases hz:Jz t (λi=>(es[i]?.map (·.1)).getD 0) H (10*Jw t.mask) (stps t k0 (t.probeStart H)) with
     |none=>rfl
     |some q=>exact absurd hz (hpb q)) (by rw[m1];exact λe=>by cases e)
end
def Sm(m:Nat):List Nat:=(Qq 6).filter m.testBit
def tb(m:Nat)(led:Bool):SetTable:={ mask:=if 5<=(Sm m).length then 31 else 7,place:=(Sm m).toArray,dummies:=#[],finger:=0,led:=led,moves:=if 5<=(Sm m).length then 1 else 0,plain:=true }
def so(m i:Nat):Nat:=match i with
 |0=>0
 |i+1=>(Sm m).toArray.getD i 0+1
def EsOk(es:Array (Int×Value))(S:List Nat):Prop:=∃tks:List Tok,tks.length=S.length/\es.toList=QcH (λ(v:Nat)(tk:Tok)=>((v:Int),QfF (v:Int) tk)) S tks
theorem EsOk.size{es:Array (Int×Value)}{S:List Nat}(h:EsOk es S):es.size=S.length:=by
 obtain⟨tks,hl,e⟩:=h;rw[<- Qc,e,QdI,hl,Qk9]
theorem Qsn{S:List Nat}{e:Int×Value}:∀{tks:List Tok},e∈QcH (λ(v:Nat)(tk:Tok)=>((v:Int),QfF (v:Int) tk)) S tks->∃v∈S,∃tk,e=((v:Int),.int v tk):=by
 induction S with
 |nil=>intro tks h;cases tks<;>cases h
 |cons x S ih=>
  intro tks h;cases tks with
  |nil=>cases h
  |cons t tks=>
   rcases Qv.mp h with z | z
   ·exact⟨x,.head _,t,z⟩
   ·obtain⟨v,hv,r⟩:=ih z;exact⟨v,.tail _ hv,r⟩
theorem EsOk.mem{es:Array (Int×Value)}{S:List Nat}(h:EsOk es S){e:Int×Value}(he:e∈es.toList):∃v∈S,∃tk,e=((v:Int),.int v tk):=by
 obtain⟨tks,hl,e'⟩:=h;rw[e'] at he;exact Qsn he
theorem SetAt.store{h:Heap}{a:Addr}{es es':Array (Int×Value)}{ep:Nat}{t t':SetTable}(x:SetAt h a es ep t)(hf:t'.fits es'.size=true):SetAt (h.update a (QiZ es' t')) a es' (ep+1) t':=by
 obtain⟨o,ho,hex,hd⟩:=x.at_;have hg:=ZH (QiZ es' t') ho (by rw[putSet_of es' t' hd];rfl);rw[putSet_of es' t' hd] at hg;exact⟨⟨_,hg,hex,rfl⟩,hf⟩
section
variable{prog:QC}{w:Ja}{A:Q2}{E:Value->Shared->Prop}{s:Shared}
end
section
variable{prog:QC}{w:Ja}{A:Q2}{R:QnO->Shared->Prop}{I:Addr}{fp wr:List Addr}{n:Nat}{P:Nat->Value->Prop}{St:Nat->Heap->Prop}
end
theorem ins_get{α β:Type}{l1:List α}{l2:List β}(hl:l1.length=l2.length){p:Nat}(hp:p<=l1.length){x:α}{y:β}{i:Nat}{u:α}{v:β}(h1:(l1.take p++x::l1.drop p)[i]? = some u)(h2:(l2.take p++y::l2.drop p)[i]? = some v):(u=x/\v=y)∨∃k:Nat,l1[k]? = some u/\l2[k]? = some v:=by
 have t1:(l1.take p).length=p:=by rw[Jr];omega
 have t2:(l2.take p).length=p:=by rw[Jr];omega
 rcases YX i p with z | z | z
 ·rw[ZD (by omega),Qh5 z] at h1 h2;exact .inr ⟨i,h1,h2⟩
 ·subst z;rw[Ji (by omega),t1,Qfb] at h1;rw[Ji (by omega),t2,Qfb] at h2;exact .inl ⟨(QB h1).symm,(QB h2).symm⟩
 ·rw[Ji (by omega),t1,show i - p=(i - p - 1)+1 by omega,Yk,Yy] at h1;rw[Ji (by omega),t2,show i - p=(i - p - 1)+1 by omega,Yk,Yy] at h2;exact .inr ⟨_,h1,h2⟩
section
variable{prog:QC}{w:Ja}{A:Q2}{E:Value->Shared->Prop}{s:Shared}{a:Addr}{es:Array (Int×Value)}{ep:Nat}{t:SetTable}{ps:List (List Int×Addr)}
theorem TS.other(x:TS prog w s.heap a es ep t ps){ks:List Int}{b:Addr}(hk:ZL (intKind prog w) s.heap ks b):b≠a:=λe=>by
 subst e;obtain⟨o,ho,hex,hd⟩:=x.at_.at_;obtain⟨o',it,n,ho',hc,_⟩:=hk;rw[ho] at ho';cases ho';rw[hex.1] at hc;exact absurd hc (by decide)
theorem QiK{h:Heap}{f:Obj->Obj}{ks:List Int}{b:Addr}(hk:ZL (intKind prog w) h ks b)(hne:b≠a):ZL (intKind prog w) (h.update a f) ks b:=by
 obtain⟨o',it,n,ho',r⟩:=hk;exact⟨o',it,n,(Yw _ _ (Qbm hne)).trans ho',r⟩
theorem TS.put(x:TS prog w s.heap a es ep t ps){ks:List Int}{b:Addr}(hk:ZL (intKind prog w) s.heap ks b)(hnew:ks∉ps.map (·.1)){j:Nat}(hj:j∉t.place.toList)(hm:j<=t.mask)(hr:Rch t j (tupleKeyHash (intKind prog w) ks)) :
  SetAt (s.heap.update a (QiZ (Zy es (t.put j).2 (tupleKeyHash (intKind prog w) ks,QQ b)) (t.put j).1)) a (Zy es (t.put j).2 (tupleKeyHash (intKind prog w) ks,QQ b)) (ep+1) (t.put j).1 /\
  Tab (t.put j).1/\(Zy es (t.put j).2 (tupleKeyHash (intKind prog w) ks,QQ b)).toList=(ps.take (t.put j).2++(ks,b)::ps.drop (t.put j).2).map (λp=>(tupleKeyHash (intKind prog w) p.1,QQ p.2)) /\
  (∀p∈ps.take (t.put j).2++(ks,b)::ps.drop (t.put j).2,ZL (intKind prog w) (s.heap.update a (QiZ (Zy es (t.put j).2 (tupleKeyHash (intKind prog w) ks,QQ b)) (t.put j).1)) p.1 p.2) /\
  (ps.take (t.put j).2++(ks,b)::ps.drop (t.put j).2).Perm ((ks,b)::ps) /\
  (∀(i j':Nat)(e:Int×Value),(t.put j).1.place[i]? = some j'->(Zy es (t.put j).2 (tupleKeyHash (intKind prog w) ks,QQ b))[i]? = some e->Rch (t.put j).1 j' e.1) /\
  (t.put j).1.place.size=ps.length+1:=by
 obtain⟨T,pl,m1,m2,m3,m4⟩:=x.tab.put hj hm;have hle:(t.put j).2<=t.place.toList.length:=by
  rw[Qc];exact(Qch x.tab.pw j).1
 have hsz:(t.put j).1.place.size=ps.length+1:=by
  rw[<- Qc,pl,<- x.psize,<- Qc,Qw,Qy,Jr,Yo];omega
 have hes:(Zy es (t.put j).2 (tupleKeyHash (intKind prog w) ks,QQ b)).toList=es.toList.take (t.put j).2++(tupleKeyHash (intKind prog w) ks,QQ b)::es.toList.drop (t.put j).2:=QfG _ _ _;have hent:(Zy es (t.put j).2 (tupleKeyHash (intKind prog w) ks,QQ b)).toList=(ps.take (t.put j).2++(ks,b)::ps.drop (t.put j).2).map (λp=>(tupleKeyHash (intKind prog w) p.1,QQ p.2)):=by
  rw[hes,x.ent,Zu,Jd,List.map_take,List.map_drop]
 have hpm:(ps.take (t.put j).2++(ks,b)::ps.drop (t.put j).2).Perm ((ks,b)::ps):=by
  refine Qsg.trans ?_
  rw[Jn]
 have hs1:(Zy es (t.put j).2 (tupleKeyHash (intKind prog w) ks,QQ b)).size=ps.length+1:=by
  rw[<- Qc,hent,Qe,hpm.length_eq,Qy]
 have hfew:(t.put j).1.place.size<=(t.put j).1.mask:=by
  rw[hsz,m1,<- x.psize];have:=x.few;have:=x.mks;omega
 refine⟨x.at_.store ?_,T,hent,λp hp=>?_,hpm,λi j' e h1 h2=>?_,hsz⟩
 ·unfold Qby QgD;rw[m4,hsz,hs1];rw[hsz] at hfew;simp[hfew]
 ·rcases Qv.mp (hpm.mem_iff.mp hp) with z | z
  ·subst z;exact QiK hk (x.other hk)
  ·exact QiK (x.key p z) (x.other (x.key p z))
 ·rw[<- Q8,pl] at h1;rw[<- Q8,hes] at h2;have hl:t.place.toList.length=es.toList.length:=by rw[Qc,Qc,x.psize,x.size]
  have grow:∀y∈t.place.toList,y∈(t.put j).1.place.toList:=λy hy=>by
   rw[pl];rw[<- Jn (t.put j).2 t.place.toList] at hy;rcases Js.mp hy with z | z
   ·exact Y2 _ z
   ·exact Q0 _ (.tail _ z)
  rcases ins_get hl hle h1 h2 with⟨rfl,rfl⟩ | ⟨k,q1,q2⟩
  ·exact hr.mono m1 grow
  ·exact(x.rch k j' e (by rw[<- Q8];exact q1) (by rw[<- Q8];exact q2)).mono m1 grow
end
theorem QmO{t:SetTable}(h:t.mask=7∨t.mask=31∨t.mask=127∨t.mask=511∨t.mask=2047):QbV (t.mask+1)=true:=by
 rcases h with h | h | h | h | h<;>rw[h]
 ·exact QrN
 ·exact Quj
 ·exact QpD
 ·exact QpC
 ·exact QmP
section
variable{prog:QC}{w:Ja}{A:Q2}{E:Value->Shared->Prop}{s:Shared}{a:Addr}{es:Array (Int×Value)}{ep:Nat}{t:SetTable}{ps:List (List Int×Addr)}
theorem Qy7{m wanted:Nat}{ps:List (List Int×Addr)}(hA:SetAt s.heap a es ep t)(hpl:t.plain=true)(hent:es.toList=ps.map λp=>(tupleKeyHash (intKind prog w) p.1,QQ p.2))(hkey:∀p∈ps,ZL (intKind prog w) s.heap p.1 p.2)(hoth:∀p∈ps,p.2≠a)(hnd:(ps.map (·.1)).Nodup)
  (hw:Qj2 wanted=m+1)(hm:m=7∨m=31∨m=127∨m=511∨m=2047)(hf:ps.length*5<m*3){Q:Unit->Shared->Prop}
  (h:∀h' es' t' ps',TS prog w h' a es' (ep+1) t' ps'->ps'.Perm ps->t'.led=t.led->YJ a s.heap h'->Q () { s with heap:=h' }):wpAny (model prog w) A (setRelay a wanted) Q E s:=by
 obtain⟨o,ho,hex,hd⟩:=hA.at_;have hsz:es.size=ps.length:=by rw[<- Qc,hent,Qe]
 have hg:QbV (m+1)=true:=QmO (t:=tM m) hm;obtain⟨t2,order,el,T,m1,m2,m3,m4,m5⟩:=Qky (finger:=t.finger) (moves:=t.movedTo m) (led:=t.led) hg (by omega) (es.map (·.1)) (by rw[Qde,hsz];omega);rw[Qde] at m3 m4;have pe:=Qkn (es:=es) m4;have sz2:(order.filterMap (es[·]?)).size=es.size:=by rw[<- Qc,pe.length_eq,Qc]
 unfold setRelay;refine wpAny_bind (Zr ho hd hA.ft ?_)
 dsimp only
 rw[if_neg (by rw[hw,Yh];omega)];refine wpAny_bind ?_
 have erl:t.relaid (es.map (·.1)) wanted=some (t2,order):=by
  unfold SetTable.relaid;rw[hw,Qp3,hpl];exact el
 rw[erl];show wpAny (model prog w) A (if((order.filterMap (es[·]?)).size != es.size)=true then _ else _) _ E s;rw[if_neg (by rw[sz2];simp)];refine wpAny_pure ?_
 dsimp only
 have fit:t2.fits (order.filterMap (es[·]?)).size=true:=by
  unfold Qby QgD;rw[T.dm,m3,sz2,hsz,m1];simp;omega
 refine Qyp ho hd ?_ (by rw[sz2,hsz,Yh];omega)
 obtain⟨ps',pp,ep'⟩:∃ps':List (List Int×Addr),ps'.Perm ps/\(order.filterMap (es[·]?)).toList=ps'.map λp=>(tupleKeyHash (intKind prog w) p.1,QQ p.2):=by
  rw[hent] at pe;have key:∀{l k:List (Int×Value)},l.Perm k->∀{T:List (List Int×Addr)},k=T.map (λp=>(tupleKeyHash (intKind prog w) p.1,QQ p.2))->∃T':List (List Int×Addr),T'.Perm T/\l=T'.map λp=>(tupleKeyHash (intKind prog w) p.1,QQ p.2):=by
   intro l k p;induction p with
   |nil=>intro T e;exact⟨T,Z0 _,e⟩
   |@cons x l1 l2 _ ih=>
    intro T e;cases T with
    |nil=>cases e
    |cons y T=>
     injection e with e1 e2
     obtain⟨T',p',e'⟩:=ih e2;exact⟨y::T',p'.cons y,by rw[e1,e'];rfl⟩
   |swap x y l=>
    intro T e
    match T,e with
    |u::v::T,e=>
     injection e with e1 e2
     injection e2 with e2 e3
     exact⟨v::u::T,Qe6 _ _ _,by rw[e1,e2,e3];rfl⟩
   |trans _ _ ih1 ih2=>
    intro T e;obtain⟨T1,p1,e1⟩:=ih2 e;obtain⟨T2,p2,e2⟩:=ih1 e1;exact⟨T2,p2.trans p1,e2⟩
  exact key pe rfl
 refine h _ _ t2 ps' ⟨hA.store fit,T,ep',λp hp=>QiK (hkey p (pp.mem_iff.mp hp)) (hoth p (pp.mem_iff.mp hp)),(pp.map (·.1)).nodup_iff.mpr hnd,λi j e h1 h2=>?_,by rw[m1];exact hm,by rw[m3,hsz,m1];exact hf⟩ pp m2 (Zv ..);have hlt:i<order.size:=by
  have:order.size=es.size:=by
   have:=m4.length_eq;rw[Qc,QN] at this;exact this
  rw[this,<- m3];exact(Z1.mp h1).1
 have hok:order[i]? = some order[i]:=by simp[hlt]
 have hr:=m5 i j order[i] h1 hok;have hin:order[i]<es.size:=QV.mp (m4.mem_iff.mp (ZK.mpr (Array.getElem_mem hlt)));have e2:e=es[order[i]]:=by
  have key:∀(l:List Nat),(∀x∈l,x<es.size)->∀i:Nat,(l.filterMap (es[·]?))[i]? = (l[i]?).bind (es[·]?):=λl=>by
   induction l with
   |nil=>intro _ i;rfl
   |cons x l ih=>
    intro hx i;have hx1:x<es.size:=hx x (.head _);have hx0:es[x]? = some es[x]:=by simp[hx1]
    rw[ZC,hx0];cases i with
    |zero=>simp[hx0]
    |succ i=>exact ih (λy hy=>hx y (.tail _ hy)) i
  rw[<- Q8,Qi4,key order.toList λy hy=>QV.mp (m4.mem_iff.mp hy)] at h2;rw[Q8,hok] at h2;simp[hin] at h2;exact h2.symm
 have e3:(es.map (·.1)).getD order[i] 0=e.1:=by rw[e2];simp[Zo,hin]
 rw[e3] at hr;exact hr
theorem addTB(x:TS prog w s.heap a es ep t ps)(hu:A.units<cLine){ks:List Int}{b:Addr}(hk:ZL (intKind prog w) s.heap ks b)(h300:ps.length<1200){Q:Bool->Shared->Prop}
  (h1:ks∈ps.map (·.1)->∀tk,Q false { s with toks:=tk })
  (h2:ks∉ps.map (·.1)->∀h' es' ep' t' ps' tk,TS prog w h' a es' ep' t' ps'->ps'.Perm ((ks,b)::ps)->t'.led=t.led->YJ a s.heap h'->Q true { s with heap:=h',toks:=tk }):wpAny (model prog w) A (setAdd a (.ref b)) Q E s:=by
 obtain⟨o,ho,hex,hd⟩:=x.at_.at_;unfold setAdd;refine JL (wpAny_bind (wpAny_pyHash_tuple hu hk ?_));unfold setAddHashed;refine JL ?_
 unfold setAddHashedIn;refine wpAny_bind (Zr (s:={ s with toks:=s.toks+(ks.length+1) }) ho hd x.at_.ft ?_)
 dsimp only
 rw[if_neg (by unfold byScan Value.scannable;simp)];have hsm:t.place.size<=t.mask:=by
  have:=x.few;omega
 obtain⟨j0,hj0,hj1⟩:=x.tab.room hsm;obtain⟨n,hn,en⟩:=Qke t (QmO x.mks) (tupleKeyHash (intKind prog w) ks) hj0;have x':TS prog w ({ s with toks:=s.toks+(ks.length+1) }:Shared).heap a es ep t ps:=x;have hn2:n<100000:=by
  have:=x.mks;unfold Jw at hn;omega
 refine wpAny_bind (QAT (s:={ s with toks:=s.toks+(ks.length+1) }) x' hu hk hn (by rw[en];exact x.tab.slot_no hj1) (λhin=>?_) (λhnot j hj hjm hr=>?_) 100000 0 none (Qu _) (by omega) rfl λm hm=>absurd hm (YN _))
 ·exact wpAny_pure (h1 hin _)
 ·dsimp only
  refine wpAny_bind (Zr (s:={ s with toks:=s.toks+(ks.length+1) }) ho hd x.at_.ft ?_)
  dsimp only
  obtain⟨q1,q2,q3,q4,q5,q6,q7⟩:=TS.put (s:={ s with toks:=s.toks+(ks.length+1) }) x' hk hnot hj hjm hr;obtain⟨T,pl,m1,m2,m3,m4⟩:=x.tab.put hj hjm;generalize hpt:t.put j=pt at *;obtain⟨t1,p1⟩:=pt
  dsimp only at *
  have hsz1:(Zy es p1 (tupleKeyHash (intKind prog w) ks,QQ b)).size=ps.length+1:=by rw[<- Qc,q3,Qe,q5.length_eq,Qy]
  have hfill:t1.fill=ps.length+1:=by unfold QgD;rw[m4,q7];rfl
  have hfew:=x.few;have hmk:=x.mks;have hps:=x.psize;have hes:=x.size;have hoth:∀p∈ps.take p1++(ks,b)::ps.drop p1,p.2≠a:=λp hp=>by
   rcases Qv.mp (q5.mem_iff.mp hp) with z | z
   ·subst z;exact x.other hk
   ·exact x.other (x.key p z)
  have hnd:((ps.take p1++(ks,b)::ps.drop p1).map (·.1)).Nodup:=(q5.map (·.1)).nodup_iff.mpr (by rw[Jd];exact YI.mpr ⟨hnot,x.nd⟩);rw[if_pos q2.pl];refine wpAny_bind (QmM hk ?_);simp only[↓reduceIte,Bool.not_false,Qi3];refine wpAny_bind (Qyp (s:={ s with toks:=s.toks+(ks.length+1) }) ho hd ?_ (by rw[hsz1,Yh];omega));by_cases z:t1.tooFull=true
  ·rw[if_pos z];have z':t1.fill*5≥t1.mask*3:=of_decide_eq_true z;rw[hfill,m1] at z';obtain⟨m,hw,hm,hf⟩:∃m,Qj2 (SetTable.grown (es.size+1))=m+1/\(m=7∨m=31∨m=127∨m=511∨m=2047)/\(ps.length+1)*5<m*3:=by
    rw[hes];rcases hmk with e | e | e | e | e
    ·have:ps.length=4:=by omega
     rw[this];exact⟨31,by decide,by decide,by decide⟩
    ·have:ps.length=18:=by omega
     rw[this];exact⟨127,by decide,by decide,by decide⟩
    ·have:ps.length=76:=by omega
     rw[this];exact⟨511,by decide,by decide,by decide⟩
    ·have:ps.length=306:=by omega
     rw[this];exact⟨2047,by decide,by decide,by decide⟩
    ·omega
   refine wpAny_bind (Qy7 q1 q2.pl q3 q4 hoth hnd hw hm (by rw[q5.length_eq,Qy];exact hf) λh' es' t' ps' ts pp led sb=>wpAny_pure (h2 hnot h' es' _ t' ps' _ ts (pp.trans q5) (led.trans m2) ((Zv ..).trans sb)))
  ·rw[if_neg z];have z':¬t1.fill*5≥t1.mask*3:=λc=>z (decide_eq_true c)
   rw[hfill] at z';exact wpAny_pure (h2 hnot _ _ _ _ _ _ ⟨q1,q2,q3,q4,hnd,q6,by rw[m1];exact hmk,by rw[q7];omega⟩ q5 m2 (Zv ..))
end
section
variable{prog:QC}{w:Ja}{A:Q2}{E:Value->Shared->Prop}{s:Shared}
def ledOf(w:Ja):Bool := !w.params.followText "set-order"
end
section
variable{prog:QC}{w:Ja}{s:Shared}{a:Addr}{es:Array (Int×Value)}{ep:Nat}{t:SetTable}{ps:List (List Int×Addr)}
theorem Qsu(led:Bool):Tab (Qbc 0 0 led):=⟨by simp[Qbc],by simp[Qbc],rfl,QrN,rfl,by show 7 % 2=1;decide⟩
variable{A:Q2}{R:QnO->Shared->Prop}{I:Addr}{fp wr:List Addr}{n:Nat}{P:Nat->Value->Prop}{St:Nat->Heap->Prop}
end
section
variable{prog:QC}{w:Ja}{A:Q2}{E:Value->Shared->Prop}{s:Shared}
end
theorem Qlz:Slot "set_iterator" "__iter__" "set_iterator.__iter__" :=
 .of (owner := "set_iterator") (n := "__iter__") (by rw[QjZ,QdZ];kernel_rfl) (by decide +kernel) (by decide +kernel) (by decide +kernel) (by first | exact .inl (by decide +kernel) | exact .inr (by decide +kernel)) (by rw[QeY];kernel_rfl)
theorem QzL:entryFor table "set_iterator.__iter__" = some Yn.«dict_keyiterator.__iter__» := entryFor_alias (id' := "dict_keyiterator.__iter__") (by kernel_rfl) (by first | rfl | decide +kernel | (unfold Qsc;simp +decide [QnM])) (by decide +kernel) (by kernel_rfl)
theorem QzQ(a:Value):argsOk "set_iterator.__iter__" ⟨[a],[]⟩:=by
 unfold argsOk;rw[signature?_of (id := "set_iterator.__iter__") (n:=['_', '_', 'r', 'e', 't', 'i', '_', '_']) (o:=['r', 'o', 't', 'a', 'r', 'e', 't', 'i', '_', 't', 'e', 's']) (by kernel_rfl) QwG];kernel_rfl
theorem Qt3:typeLookup (.type "set") "__len__" = pure (some (.builtin "set.__len__")):=by rw[QjZ,QdZ];kernel_rfl
section
variable{prog:QC}{w:Ja}{A:Q2}{E:Value->Shared->Prop}{s:Shared}
theorem QsD{I a:Addr}{first:Value}{i n ep:Nat}{Q:Value->Shared->Prop}(hit:IsSI s.heap I first i a n ep)(h:Q (.ref I) s):wpAny (model prog w) A (pyIter (.ref I)) Q E s:=by
 refine Qyr hit.typeIs Qlz (JW Qlz hit.typeIs QzL ?_ (QzQ _));show wpAny _ _ (ret (.ref I)) _ _ s;exact wpAny_pure ⟨_,rfl, "set_iterator",_,hit.typeIs,Qdq.lookup,h⟩
theorem QiO{a:Addr}{es vs:Array (Int×Value)}{ep:Nat}{t:SetTable}{so:Nat->Nat}{Q:List Value->Shared->Prop}(hh:A.handled=none)(W:Way prog w a es ep t so vs)(ha:SetAt s.heap a es ep t)(hp:t.plain=true)(hn:es.size<=sizeLine)
  (hQ:∀(h':Heap)(tk:Nat),(∀b o,s.heap.get? b=some o->h'.get? b=some o)->Q (vs.toList.map (·.2)) { s with heap:=h',toks:=tk }):wpAny (model prog w) A (collect (.ref a)) Q E s:=by
 have hlt:a<s.heap.objs.size:=let ⟨o,ho,_⟩:=ha.at_;Qp ho
 unfold collect;refine wpAny_bind (wpAny_runValue (Qj1 F.entry_proto_collect ?_));rw[Qj9 F.plain_proto_collect _];show wpAny _ A.in1 (newList [] >>= λl=>again (.builtin "list.__iadd__" ⟨[l,.ref a],[]⟩)) _ _ s;refine wpAny_bind (JQ (wpAny_pure ⟨plainId_quiet Qvk _,Qj1 F.entry_list_iadd ?_⟩));rw[Qj9 Qvk _];generalize hH:s.heap.push { cls:=.type "list",data:=.seq ([]:List Value).toArray }=H;have hHs:H.objs.size=s.heap.objs.size+1:=by rw[<- hH,ZN]
 have keep:∀b o,s.heap.get? b=some o->H.get? b=some o:=λb o e=>hH ▸ Qd _ e
 have hS:H.get? s.heap.objs.size=some { cls:=.type "list",data:=.seq ([]:List Value).toArray }:=hH ▸ QD _ rfl;have ha1:SetAt H a es ep t:=ha.at' λo e=>keep a o e
 have hT:QuS { s with heap:=H } (.ref a) "set" := let ⟨o,ho,hx,_⟩:=ha1.at_;⟨o,ho,hx.1⟩
 show wpAny _ A.in1 (QdM (.ref s.heap.objs.size) (.ref a) (.ref s.heap.objs.size)) _ _ { s with heap:=H };unfold QdM;refine wpAny_bind (Qb2 hT ?_);have h1:Qer (.ref s.heap.objs.size) (.ref a)=false:=by simp[Qer,QaJ hlt]
 have h2:(Z2 "set" == Z2 "list")=false:=by decide
 have h3:(Z2 "set" == Z2 "tuple")=false:=by decide
 simp only[h1,h2,h3,Bool.or_false,Zw,if_false];refine wpAny_bind (Qxg ha1 hp ?_);generalize hH2:Heap.push H { cls:=.type "set_iterator",data:=.fields #[.int 0 0,.int 0 0,.ref a,.int es.size 0,.int ep 0] }=H2;have keep2:∀b o,H.get? b=some o->H2.get? b=some o:=λb o e=>hH2 ▸ Qd _ e
 have hT2:QuS { s with heap:=H2 } (.ref a) "set" := let ⟨o,ho,hc⟩:=hT;⟨o,keep2 a o ho,hc⟩
 have hI:IsSI H2 H.objs.size (.int (so 0) 0) 0 a es.size ep:=⟨_,hH2 ▸ QD _ rfl,rfl,by rw[W.s0];rfl⟩;refine wpAny_bind (JL ?_);show wpAny _ A.in1 _ _ _ { s with heap:=H2 };unfold Builtin.List.listLengthHint;refine wpAny_bind (wpAny_specialOf hT2 Qt3 ?_)
 wp_delta
 refine wpAny_bind (Qh1 (b:=true) hT2 (by rw[QeY];kernel_rfl) ?_);show wpAny _ A.in1 (typeOf (QQ a) >>= _) _ _ _;refine wpAny_bind (Qb2 hT2 (wpAny_pure ?_));show wpAny _ A.in1 (rule "list.extend.makes-room" >>= λ_=>Builtin.List.listTouch (.ref s.heap.objs.size) >>= λ_=>again (.builtin "list.extend.loop" ⟨[.ref s.heap.objs.size,.ref H.objs.size,.ref s.heap.objs.size],[]⟩)) _ _ _;refine wpAny_bind (wpAny_rule (wpAny_bind ?_));show wpAny _ A.in1 (updateSeq s.heap.objs.size (·.push .none) >>= λ_=>updateSeq s.heap.objs.size (·.pop)) _ _ _;have hS1:=keep2 _ _ hS;refine wpAny_bind (wpAny_updateSeq hS1 rfl ?_);have hS2:=ZH (J4 (·.push JI)) hS1 rfl;refine wpAny_updateSeq hS2 rfl ?_
 have hS3:=ZH (J4 (·.pop)) hS2 rfl;generalize hH3:(H2.update s.heap.objs.size (J4 (·.push JI))).update s.heap.objs.size (J4 (·.pop))=H3 at hS3 ⊢;have oth:∀b o,b≠s.heap.objs.size->H2.get? b=some o->H3.get? b=some o:=λb o hb e=>hH3 ▸ (Yw _ _ (Qbm hb)).trans ((Yw _ _ (Qbm hb)).trans e)
 have hIS:H.objs.size≠s.heap.objs.size:=by omega
 have hne:a≠H.objs.size:=by rw[hHs];exact QF (YY hlt)
 have hSf:s.heap.objs.size∉[H.objs.size,a]:=by simp only[Qv,Q6,or_false,not_or];exact⟨by omega,QaJ hlt⟩
 have WW:=(Way.walks (A:=A.in1) hh W H.objs.size hne λs Q E i st q=>QsD st q).toS;refine wpAny_pure ⟨plainId_quiet F.plain_extend_loop _,codeAny_extend_loopS WW hn _ hSf _ es.size 0 { s with heap:=H3 } _ _ rfl (Qu _) ⟨hI.at' λo e=>oth _ o hIS e,ha1.at' λo e=>oth a o (QF hlt) (keep2 a o e)⟩ hS3 (ItemsOf.nil _) λs' acc' c' hm hS' hacc=>?_⟩;show wpAny _ A (load s.heap.objs.size >>= _) _ _ s';refine wpAny_bind (wpAny_load hS' (wpAny_pure ?_));have hl:vs.size=es.size:=by rw[<- Qc,W.pm.length_eq,Qc]
 have he:acc'.toList=vs.toList.map (·.2):=by
  apply QaA
  intro j;rw[Qz,Q8,Q8];by_cases z:j<acc'.size
  ·have:=hacc.2 j acc'[j] (by simp[z]);rw[this];simp[z]
  ·rw[ZV (by omega),ZV (by have:=hacc.1;omega)];rfl
 show Q acc'.toList s';rw[he];have es':s'={ s with heap:=s'.heap,toks:=s'.toks }:=by
  obtain⟨hp',g',d',tk',os'⟩:=s';have e1:=hm.gens;have e2:=hm.drawn;have e3:=hm.os;simp only at e1 e2 e3;rw[e1,e2,e3]
 rw[es'];refine hQ _ _ λb o e=>?_
 have hb:=Qp e;refine hm.heap b o ?_ (oth b o (QF hb) (keep2 b o (keep b o e)))
 simp only[Qv,Q6,or_false,not_or];exact⟨QF hb,by rw[hHs];exact QF (YY hb)⟩
end
end Zt
namespace Zt
open PySem.W PySem.Calls Rs
section
variable{prog:QC}{w:Ja}{A:Q2}{E:Value->Shared->Prop}{s:Shared}
end
end Zt
namespace L2
open Zt
section
variable{X:Cx}
end
end L2
namespace Dl
open L2 _root_.Rd Rk Zt
section
variable{X:Cx}{E:XK}
end
end Dl
namespace L2
open PySem.Calls _root_.Rd _root_.Rk _root_.Rs Rt Dl
section
variable{X:Cx}
theorem Qlw(hu:X.A.units+60<cLine){pins:List (Addr×Obj)}{s:Shared}{σ:L2.St}{H:Hp}(I:Inv X pins σ H s){vs:List V}{ds:List Qb}{its:List Value}(rv:Vals vs its)(hz:vs.length<=sizeLine)(dts:Dats H vs ds)(so:QjX ds){Q:VK}
  (q:∀(t:Addr)(ys:List V)(es:List Qb)(H2:Hp),Same H H2->H t=none->H2 t=some (.lst ys)->Dats H2 ys es->es.Perm ds->es.Pairwise (λa b=>ltD b a=false)->(∀y∈ys,y∈vs)->Q (.ref t) H2)(h':Heap)(tk:Nat)(kp:∀b x,s.heap.get? b=some x->h'.get? b=some x)(P:PySem.Fin->Shared->Prop)(E':Value->Shared->Prop)
  (hP:∀s2,(∃v H',Inv X pins σ H' s2/\RelV v (.ref h'.objs.size)/\Q v H')->P (.done (.ret .none)) s2) :
  wpAny (model X.prog X.w) X.A.in1.in1 (Yn.«list.sort» ⟨[.ref h'.objs.size],[]⟩) P E' { s with heap:=h'.push (seqObj "list" its.toArray 0),toks:=tk }:=by
 have hu2:X.A.in1.in1.units+2*20+4<cLine:=by show X.A.units+1+1+2*20+4<cLine;omega
 have li:=rv.length;obtain⟨⟨as,ra⟩,cl⟩:=QaI I.hok ds vs its dts rv;have okds:QiA ds=true:=Qmk λd hd=>Qnh d (so.cmp d hd d hd)
 have ra':=QaE kp ds its as okds ra
 let c:Keyed->Keyed->Bool:=λx y=>ltD (rdV h' x.1) (rdV h' y.1)
 have oc:Ord c:=⟨λx y=>Qpq _ _,λx y z=>Qw6 _ _ _⟩;refine Qgl (s:={ s with heap:=h'.push (seqObj "list" its.toArray 0),toks:=tk }) (c:=c) (QD _ rfl) (by omega) oc (λh2 k2 Q' E' hq=>?_) λarr pm sg h2 e k2 e2=>hP _ ?_
 ·have kk:∀b x,h'.get? b=some x->h2.get? b=some x:=λb x e=>k2 b x (QF (Qp e)) (Qd _ e)
  have ra2:=QaE kk ds its as okds ra';have asks:∀κ,QpX ds κ->(∀b,κ=tuples' b->∀d∈ds,∃es,d=.tuple es)->Asks X.prog X.w X.A.in1.in1 { s with heap:=h2,toks:=tk } κ (prs its) c:=λκ su tb=>by
   refine⟨oc,λx y hx hy C E'' hC=>?_⟩;rw[Qek] at hx hy;obtain⟨ex,hx⟩:=QcT hx;obtain⟨ey,hy⟩:=QcT hy;obtain⟨d1,m1,b1,r1⟩:=ZW ra2 x.2 hx;obtain⟨d2,m2,b2,r2⟩:=ZW ra2 y.2 hy;obtain⟨d1',m1',b1',r1'⟩:=ZW ra' x.2 hx;obtain⟨d2',m2',b2',r2'⟩:=ZW ra' y.2 hy;have k1:=YV okds d1 m1;have k2:=YV okds d2 m2;have c1:=QeG d1 k1;have c2:=QeG d2 k2;have c1':=QeG d1' (YV okds d1' m1');have c2':=QeG d2' (YV okds d2' m2');have q1:d1'=d1:=QaU d1' d1 x.2 _ _ c1' (Qdu kk d1' _ _ (YV okds d1' m1') r1') r1;have q2:d2'=d2:=QaU d2' d2 y.2 _ _ c2' (Qdu kk d2' _ _ (YV okds d2' m2') r2') r2;subst q1 q2;have hC:C (ltD (rdV h' x.1) (rdV h' y.1)) { s with heap:=h2,toks:=tk }:=hC;rw[ex,ey,QlH r1' c1',QlH r2' c2'] at hC;rw[ex,ey];exact Qxc (N:=20) su m1 r1 r2 c1 c2 (so.cmp _ m1 _ m2) (λb e=>tb b e _ m1) (so.dep _ m1) hu2 hC
  cases ds with
  |nil=>
   cases ra2;exact QjF (s:={ s with heap:=h2,toks:=tk }) .nil rfl (λd hd=>nomatch hd) λκ su=>hq κ (asks κ su λb _ d hd=>nomatch hd)
  |cons d0 ds0=>
   have sh:(∀d∈d0::ds0,∃es,d=.tuple es)∨∀d∈d0::ds0,∃i,d=.int i:=by
    cases d0 with
    |int i=>exact .inr λd hd=>by have:=so.cmp _ (.head _) d hd;cases d<;>first | exact⟨_,rfl⟩ | (cases this;done)
    |tuple es=>exact .inl λd hd=>by have:=so.cmp _ (.head _) d hd;cases d<;>first | exact⟨_,rfl⟩ | (cases this;done)
    |_=>have:=so.cmp _ (.head _) _ (.head _);cases this
   rcases sh with sh | sh
   ·exact QjF (s:={ s with heap:=h2,toks:=tk }) ra2 okds sh λκ su=>hq κ (asks κ su λb _=>sh)
   ·have one:QpX (d0::ds0) oneType':=.inr (.inl rfl);by_cases l2:its.length<2
    ·have hk1:∀v∈its,∀(Q'':Option Value->Shared->Prop),Q'' none { s with heap:=h2,toks:=tk }->wpAny (model X.prog X.w) X.A.in1.in1 (firstOfTuple' v) Q'' E' { s with heap:=h2,toks:=tk }:=λv hv Q'' q''=>by
      obtain⟨d,hd,bs,r⟩:=ZW ra2 v hv;obtain⟨i,rfl⟩:=sh d hd;cases r;exact wpAny_pure q''
     have hk2:∀v∈its,∀(Q'':Value->Shared->Prop),Q'' (Rt.tyV h2 v) { s with heap:=h2,toks:=tk }->wpAny (model X.prog X.w) X.A.in1.in1 (typeOf v) Q'' E' { s with heap:=h2,toks:=tk }:=λv hv Q'' q''=>by
      obtain⟨d,hd,bs,r⟩:=ZW ra2 v hv;exact Qid (s:={ s with heap:=h2,toks:=tk }) r (YV okds d hd) q''
     rw[keyKind'_eq,Qaz,map_eq_pure_bind];refine wpAny_bind (wpAny_bind (Qfw (g:=λ_=>(none:Option Value)) its hk1 (wpAny_pure ?_)));cases its with
     |nil=>cases ra2
     |cons v0 vs0=>
      rw[if_neg (by simp)];rw[if_neg (by simp)];rw[Qj0,Qaz,map_eq_pure_bind];refine wpAny_bind (wpAny_bind (wpAny_bind (Qfw (g:=Rt.tyV h2) _ hk2 (wpAny_pure ?_))));have fin:∀b:Bool,wpAny (model X.prog X.w) X.A.in1.in1 (pure (if b=true then oneType' else general')) Q' E' { s with heap:=h2,toks:=tk }:=λb=>by
       have ni:∀{κ:Yd},(∀b',κ≠tuples' b')->∀b',κ=tuples' b'->∀d∈d0::ds0,∃es,d=Zm es:=λh b' e=>(h b' e).elim
       cases b
       ·exact wpAny_pure (hq _ (asks _ (.inl rfl) (ni λb' e=>by cases e)))
       ·exact wpAny_pure (hq _ (asks _ (.inr (.inl rfl)) (ni λb' e=>by cases e)))
      split
      ·exact wpAny_pure (fin _)
      ·exact wpAny_pure (fin _)
    ·have ia:∀{vs:List Value}{ds:List Qb}{as:List Addr},YS h2 vs ds as->(∀d∈ds,∃i,d=Qh i)->∃ns,IntsAre vs ns:=by
      intro vs ds as ra hs;induction vs generalizing ds as with
      |nil=>exact⟨[],.nil⟩
      |cons v vs ih=>
       cases ra with
       |cons r rs=>
        obtain⟨i,rfl⟩:=hs _ (.head _);obtain⟨ns,hn⟩:=ih rs λd hd=>hs d (.tail _ hd)
        cases r;exact⟨i::ns,.cons _ _ hn⟩
     obtain⟨ns,hn⟩:=ia ra2 sh
     match its,hn,l2 with
     |v1::v2::vs',hn,_=>
      rw[keyKind_ints hn];exact wpAny_pure (hq _ (asks _ one λb e=>by cases e))
     |[_],_,l2=>exact absurd (Nat.lt_succ_self 1) l2
     |[],_,l2=>exact absurd (Nat.zero_lt_two) l2
 ·have I1:Inv X pins σ H { s with heap:=h',toks:=tk }:=I.kept (t':=tk) kp;have hf:H h'.objs.size=none:=I1.hok.fresh (Qj _);have pv:(arr.toList.map (·.2)).Perm its:=by
   have:=(ZA.mp pm).map (·.2)
   rwa [Qs1] at this
  obtain⟨Tr,t1,t2,t3,th⟩:=Qvw dts rv;obtain⟨Tr',p',e'⟩:=Qhf Trp.v (l:=arr.toList.map (·.2)) (by rw[<- t2];exact pv) (T:=Tr) rfl;have th':∀t∈Tr',Dat H t.x t.d/\RelV t.x t.v:=λt ht=>th t (p'.mem_iff.mp ht)
  obtain⟨dts',rv'⟩:=Qrd th';have ll:(Tr'.map (·.x)).length<=sizeLine:=by
   have:=p'.length_eq;rw[Qe,this,<- Qe (f:=Trp.x),<- t1];exact hz
  have I2:Inv X pins σ (upd H h'.objs.size (.lst (Tr'.map (·.x)))) { s with heap:=h2,toks:=tk }:=
   I1.laid (t':=tk) (λb x e'=>k2 b x (QF (Qp e')) (Qd _ e')) (Qj _) (show ObjOk X.prog X.w _ _ _ (.lst _) from⟨ll,_,e,by rw[e'];exact rv',e2⟩)
  refine⟨.ref h'.objs.size,_,I2,rfl,q _ _ (Tr'.map (·.d)) _ (JC hf) hf JB (dts'.same (JC hf)) (by rw[t3];exact p'.map _) ?_ λy hy=>?_⟩
  ·-- in order
   have len:arr.toList.length=Tr'.length:=by have:=congrArg QgF e';rwa [Qe,Qe] at this
   rw[Jx];intro i j hi hj hij;rw[Qe] at hi hj;rw[Qcn,Qcn];have ka:∀(k:Nat)(hk:k<Tr'.length),rdV h' (kx arr k).1=Tr'[k].d:=λk hk=>by
    have hk':k<arr.size:=by rw[<- Qc,len];exact hk
    have m:=QeJ hk';have m2:=(ZA.mp pm).mem_iff.mp m;rw[Qek] at m2;have e3:=(QcT m2).1;have e4:(kx arr k).2=Tr'[k].v:=by
     have h5:(arr.toList.map (·.2))[k]? = some (kx arr k).2:=by rw[Qz,QaP hk'];rfl
     rw[e',Qz,Qf hk] at h5;exact(QB h5).symm
    rw[e3,e4];obtain⟨dt,rv0⟩:=th' _ (Qaf hk);obtain⟨⟨bs,rr⟩,cc⟩:=Qar I1.hok _ _ _ dt rv0;exact QlH rr cc
   have g:ltD (rdV h' (kx arr j).1) (rdV h' (kx arr i).1)=false:=sg i j (Qu _) (by omega) (by rw[<- Qc,len];exact hj);rw[ka i hi,ka j hj] at g;exact g
  ·obtain⟨t,ht,rfl⟩:=QL.mp hy;rw[t1];exact QL.mpr ⟨t,p'.mem_iff.mp ht,rfl⟩
end
end L2
namespace Zt
def Qz0(prog:QC)(w:Ja)(a:Addr)(ps:List (List Int×Addr))(led:Bool)(h:Heap):Prop:=∃es ep t,SetAt h a es ep t/\Tab t/\t.led=led/\es.toList=ps.map λp=>(tupleKeyHash (intKind prog w) p.1,QQ p.2)
section
variable{prog:QC}{w:Ja}{A:Q2}{E:Value->Shared->Prop}{s:Shared}
theorem Qsp{a:Addr}{es:Array (Int×Value)}{ep:Nat}{t:SetTable}(hs:SetAt s.heap a es ep t)(T:Tab t)(hl:t.led=ledOf w):∃so vs,Way prog w a es ep t so vs:=by
 have hz:t.place.size=es.size:=by
  have:=hs.ft;unfold Qby at this;exact eq_of_beq (Qs.mp this).1
 cases hb:w.params.followText "set-order" with
 |true=>exact⟨_,_,Qn6 hb a es ep _⟩
 |false=>
  have hl:t.led=true:=by rw[hl];unfold ledOf;rw[hb];rfl
  let so:Nat->Nat:=λi=>match i with
   |0=>0
   |i+1=>t.place.getD i 0+1
  refine⟨so,es,Qsq hb a es ep t T.pl hl hz so rfl (λi hi=>rfl) (λi hi=>?_)⟩;obtain⟨b1,b2,b3⟩:=Qch T.pw (so i);cases i with
  |zero=>
   cases hB:JJ t.place (so 0) with
   |zero=>rfl
   |succ k=>
    have:=b2 0 (by omega) (by omega);exact absurd this (YN _)
  |succ i=>
   have e:so (i+1)=t.place[i]+1:=by show t.place.getD i 0+1=_;simp[Zo,show i<t.place.size by omega]
   rcases YX (JJ t.place (so (i+1))) (i+1) with z | z | z
   ·have h1:=b3 i (by omega) (by omega);omega
   ·exact z
   ·have hi2:i+1<t.place.size:=by omega
    have h1:=b2 (i+1) hi2 z;have:=Jx.mp T.pw i (i+1) (by simp;omega) (by simp;omega) (by omega);simp only[Za] at this;omega
theorem QlY{ps:List (List Int×Addr)}:∀{l k:List (Int×Value)},l.Perm k->∀{T:List (List Int×Addr)},k=T.map (λp=>(tupleKeyHash (intKind prog w) p.1,QQ p.2))->∃T':List (List Int×Addr),T'.Perm T/\l=T'.map λp=>(tupleKeyHash (intKind prog w) p.1,QQ p.2):=by
 intro l k p;induction p with
 |nil=>intro T e;exact⟨T,Z0 _,e⟩
 |@cons x l1 l2 _ ih=>
  intro T e;cases T with
  |nil=>cases e
  |cons y T=>
   injection e with e1 e2
   obtain⟨T',p',e'⟩:=ih e2;exact⟨y::T',p'.cons y,by rw[e1,e'];rfl⟩
 |swap x y l=>
  intro T e
  match T,e with
  |u::v::T,e=>
   injection e with e1 e2
   injection e2 with e2 e3
   exact⟨v::u::T,Qe6 _ _ _,by rw[e1,e2,e3];rfl⟩
 |trans _ _ ih1 ih2=>
  intro T e;obtain⟨T1,p1,e1⟩:=ih2 e;obtain⟨T2,p2,e2⟩:=ih1 e1;exact⟨T2,p2.trans p1,e2⟩
open PyProof.Rows PySem.W PySem.Calls Rs in
theorem Qil{Q:Value->Shared->Prop}{a:Addr}{ps:List (List Int×Addr)}(hh:A.handled=none)(hl:ps.length<=1000)(x:Qz0 prog w a ps (ledOf w) s.heap)
  (h:∀(h':Heap)(tk:Nat)(ps':List (List Int×Addr)),ps'.Perm ps->(∀b x,s.heap.get? b=some x->h'.get? b=some x)->∀(P:PySem.Fin->Shared->Prop)(E':Value->Shared->Prop),(∀s2,Q (.ref h'.objs.size) s2->P (.done (.ret .none)) s2) ->
   wpAny (model prog w) A.in1.in1 (Yn.«list.sort» ⟨[.ref h'.objs.size],[]⟩) P E' { s with heap:=h'.push (seqObj "list" (ps'.map λp=>QQ p.2).toArray 0),toks:=tk }) :
  wpAny (model prog w) A (call (.builtin "sorted") [.ref a]) Q E s:=by
 obtain⟨es,ep,t,sa,T,led,ent⟩:=x;have hsz:es.size=ps.length:=by rw[<- Qc,ent,Qe]
 obtain⟨so,vs,W⟩:=Qsp (prog:=prog) (w:=w) sa T led;obtain⟨ps',pp,e'⟩:=QlY (prog:=prog) (w:=w) (ps:=ps) W.pm ent;refine QgV kind_sorted plain_sorted entry_sorted (args_sorted1 _) ?_
 unfold Yn.«sorted»;refine wpAny_bind (m:=checkCount "sorted" 1 1 _) (wpAny_pure ?_);refine wpAny_bind (QiO (A:=A.in1) hh W sa T.pl (by rw[hsz,Yh];omega) λh' tk kp=>?_);have ev:vs.toList.map (·.2)=ps'.map λp=>QQ p.2:=by rw[e',Jo];rfl
 rw[ev];refine wpAny_bind (QfE ?_ (by rw[Yh,Qe,pp.length_eq];omega));have hoL:(h'.push (seqObj "list" (ps'.map λp=>QQ p.2).toArray 0)).get? h'.objs.size=some (seqObj "list" (ps'.map λp=>QQ p.2).toArray 0):=QD _ rfl;show wpAny _ _ _ _ _ { s with heap:=h'.push (seqObj "list" (ps'.map λp=>QQ p.2).toArray 0),toks:=tk };refine wpAny_bind (JL (JW slot_list_sort ⟨_,hoL,rfl⟩ entry_list_sort ?body (args_list_sort _)));exact h h' tk ps' pp kp _ _ λs2 hq=>⟨_,rfl,wpAny_pure ⟨_,rfl,hq⟩⟩
end
end Zt
namespace Rk
open L2 _root_.Rd Dl Rt
def tN(ns:List Int):Qb:=.tuple (ns.map Qh)
theorem QpJ(ns:List Int):(tN ns).depth<=1:=by
 show Jl (ns.map Qh)+1<=1;have:=QcB (n:=0) (ds:=ns.map Qh) λd hd=>by obtain⟨p,_,rfl⟩:=QL.mp hd;exact Qj _
 omega
theorem QfB:∀(L M:List Int),Qc3 (L.map Qh) (M.map Qh)=true
 |[],[]=>rfl
 |[],_::_=>rfl
 |_::_,[]=>rfl
 |_::L,_::M=>by show(true&&Qc3 (L.map Qh) (M.map Qh))=true;rw[QfB L M];rfl
end Rk
namespace L2
open Zt _root_.Rd _root_.Rk Dl Rt
section
variable{X:Cx}
theorem Qg9:∀(L:List (List Int×Addr)),Vals (L.map λp=>V.ref p.2) (L.map λp=>QQ p.2)
 |[]=>.nil
 |p::L=>.cons rfl (Qg9 L)
theorem QeL{prog:QC}{w:Ja}:∀{r:List Int}{its:List Value},IntsAre its r->ItemsAre (intKind prog w) r its
 |_,_,.nil=>.nil
 |_,_,.cons n t h=>.cons (intKind_is _ _ _ _) (QeL h)
theorem key_of{pins:List (Addr×Obj)}{s:Shared}{σ:L2.St}{H:Hp}(I:Inv X pins σ H s){r:List Int}{b:Addr}(h:H b=some (.tup (r.map V.int))):ZL (intKind X.prog X.w) s.heap r b:=by
 obtain⟨hz,its,rv,o,ho,hc,n,hd⟩:=I.hok b _ h;exact⟨o,its.toArray,n,ho,hc,hd,by simpa using QeL (intsAre_of rv)⟩
theorem QhA{H:Hp}:∀{ps:List (List Int×Addr)},(∀p∈ps,H p.2=some (.tup (p.1.map V.int)))->Dats H (ps.map λp=>V.ref p.2) (ps.map λp=>tN p.1)
 |[],_=>.nil
 |p::ps,h=>.cons (Dat.tup (h p (.head _)) (QeR p.1)) (QhA λq hq=>h q (.tail _ hq))
theorem QfU(rs:List (List Int)):QjX (rs.map tN):=⟨λx hx y hy=>by
 obtain⟨s,_,rfl⟩:=QL.mp hx;obtain⟨t,_,rfl⟩:=QL.mp hy;exact QfB s t,λx hx=>by
 obtain⟨s,_,rfl⟩:=QL.mp hx;exact Jb (QpJ s) (by decide)⟩
end
end L2
namespace Dl
open L2 _root_.Rd Rk Zt Rt
section
variable{X:Cx}{E:XK}
end
end Dl
namespace Rk
open L2 _root_.Rd Dl Rt
def adL(ns:List Int):List Int:=(Qq ns.length).map λi=>ns.getD i 0+(i:Int)
def nbI(hs:List Int)(o:List Nat):List Int:=(Qq o.length).map λi=>hs.getD (o.getD i 0) 0+(i:Int)
def okR(x:List Int):Bool:=decide (0<=x.getD 0 0)&&nfI x
theorem Qbw(ns:List Int):(hdL ns).length=ns.length:=by unfold hdL;rw[Qe,QN]
theorem QdH(ns:List Int):(adL ns).length=ns.length:=by unfold adL;rw[Qe,QN]
theorem QiD(hs:List Int)(o:List Nat):(nbI hs o).length=o.length:=by unfold nbI;rw[Qe,QN]
theorem QmL{ns:List Int}{i:Nat}(h:i<ns.length):(hdL ns).getD i 0=ns.getD i 0 - (i:Int):=by
 unfold hdL;rw[Qi,Qz,Zn h];rfl
theorem QnF{ns:List Int}{i:Nat}(h:i<ns.length):(adL ns).getD i 0=ns.getD i 0+(i:Int):=by
 unfold adL;rw[Qi,Qz,Zn h];rfl
theorem Qgp{a b:List Int}(l:a.length=b.length)(h:∀i,i<a.length->a.getD i 0=b.getD i 0):a=b:=by
 refine Qfe l λi h1 h2=>?_
 have:=h i h1;rw[Qi,Qi,Qf h1,Qf h2] at this;exact this
theorem QzI(ns:List Int):hdL (adL ns)=ns:=by
 refine Qgp (by rw[Qbw,QdH]) λi hi=>?_
 rw[Qbw,QdH] at hi;rw[QmL (by rw[QdH];exact hi),QnF hi];omega
theorem QzR(ns:List Int):adL (hdL ns)=ns:=by
 refine Qgp (by rw[QdH,Qbw]) λi hi=>?_
 rw[QdH,Qbw] at hi;rw[QnF (by rw[Qbw];exact hi),QmL hi];omega
theorem Qw3(hs:List Int)(o:List Nat):nbI hs o=adL (o.map λj=>hs.getD j 0):=by
 refine Qgp (by rw[QiD,QdH,Qe]) λi hi=>?_
 rw[QiD] at hi;rw[QnF (by rw[Qe];exact hi)];unfold nbI;rw[Qi,Qz,Zn hi,Qi (l:=o.map _),Qz,Qf hi];show hs.getD (o.getD i 0) 0+(i:Int)=hs.getD o[i] 0+(i:Int);rw[Qi (l:=o),Qf hi];rfl
theorem Qro(hs:List Int):(Qq hs.length).map (λj=>hs.getD j 0)=hs:=by
 refine Qgp (by rw[Qe,QN]) λi hi=>?_
 rw[Qe,QN] at hi;rw[Qi,Qz,Zn hi];rfl
theorem QoI{a b:List Int}(h:a.Perm b):∃o:List Nat,o.Perm (Qq b.length)/\a=o.map λj=>b.getD j 0:=by
 induction h with
 |nil=>exact⟨[],.nil,rfl⟩
 |@cons x l1 l2 _ ih=>
  obtain⟨o,po,e⟩:=ih;refine⟨0::o.map (·+1),?_,?_⟩
  ·rw[Qy,Qcp];exact .cons _ (po.map _)
  ·rw[Jd,Jo,e];rfl
 |swap x y l=>
  refine⟨1::0::(Qq l.length).map (·+2),?_,?_⟩
  ·rw[Qy,Qy,Qcp,Qcp,Jd,Jo];exact .swap _ _ _
  ·rw[Jd,Jd,Jo]
   conv=>lhs;rw[<- Qro l]
   rfl
 |@trans l1 l2 l3 p1 p2 ih1 ih2=>
  obtain⟨o1,q1,e1⟩:=ih1;obtain⟨o2,q2,e2⟩:=ih2;have l2':l2.length=o2.length:=by rw[e2,Qe]
  have mp:(o1.map λj=>o2.getD j 0).Perm (Qq l3.length):=by
   refine(q1.map _).trans ?_
   have:(Qq l2.length).map (λj=>o2.getD j 0)=o2:=by
    refine Qfe (by rw[Qe,QN,l2']) λi h1 h2=>?_
    rw[Qcn,Qn0,Qi,Qf h2];rfl
   rw[this];exact q2
  refine⟨_,mp,?_⟩;rw[Jo,e1];refine J5 λj hj=>?_
  have hj:j<l2.length:=QV.mp (q1.mem_iff.mp hj);show l2.getD j 0=l3.getD (o2.getD j 0) 0;rw[e2,Qi,Qz,Qf (by omega),Qi (l:=o2),Qf (by omega)];rfl
theorem Qjp{n:Nat}:∀{i:Nat}{o:List Nat},o.length=i->o.Nodup->(∀x∈o,x<n)->o∈ordsN n i
 |0,o,l,_,_=>by rw[Qb4.mp l];exact .head _
 |i+1,o,l,nd,lt=>by
  have ne:o≠[]:=λz=>by rw[z] at l;cases l
  have e:=List.dropLast_concat_getLast ne;rw[<- e] at nd lt l ⊢;rw[Qw] at l;obtain⟨n1,_,n3⟩:=Qp6.mp nd;refine Qae.mpr ⟨_,Qjp (by simpa using l) n1 λx hx=>lt x (Y2 _ hx),QL.mpr ⟨_,ZU.mpr ⟨QV.mpr (lt _ (Q0 _ (.head _))),?_⟩,rfl⟩⟩;rw[Qe0,decide_eq_false_iff_not];exact λhx=>n3 _ hx _ (.head _) rfl
theorem Qo6{n:Nat}{o:List Nat}:o∈ordsN n n↔o.Perm (Qq n):=
 ⟨Qhh,λp=>Qjp (by rw[p.length_eq,QN]) (p.nodup_iff.mpr Qcl) λx hx=>QV.mp (p.mem_iff.mp hx)⟩
theorem Qw2{hs x:List Int}:(∃o∈ordsN hs.length hs.length,nbI hs o=x)↔(hdL x).Perm hs:=by
 constructor
 ·rintro⟨o,ho,rfl⟩;rw[Qw3,QzI];have:=(Qhh ho).map λj=>hs.getD j 0
  rwa [Qro] at this
 ·intro h;obtain⟨o,po,e⟩:=QoI h;exact⟨o,Qo6.mpr po,by rw[Qw3,<- e,QzR]⟩
def Qu0(ns x:List Int):Prop:=(hdL x).Perm (hdL ns)/\okR x=true
structure AllS (ns:List Int) (rows:List (List Int)):Prop where
 nd:rows.Nodup
 iff_:∀x,x∈rows↔Qu0 ns x
 srt:(rows.map tI).Pairwise λa b=>ltD b a=false
theorem Qpx{ns x:List Int}(h:Qu0 ns x):x.length=ns.length:=by have:=h.1.length_eq;rwa [Qbw,Qbw] at this
def Qip:List Int->Bool
 |x::y::r=>(decide (y=0)||decide (x<y))&&Qip (y::r)
 |_=>true
def QuZ(x:Int):List Int->List Int
 |[]=>[x]
 |y::r=>if x<=y then x::y::r else y::QuZ x r
def srtS:List Int->List Int
 |[]=>[]
 |x::r=>QuZ x (srtS r)
theorem QeN(x:Int):∀l:List Int,(QuZ x l).Perm (x::l)
 |[]=>.refl _
 |y::r=>by
  unfold QuZ;split
  ·exact .refl _
  ·exact((QeN x r).cons y).trans (.swap _ _ _)
theorem Yq:∀l:List Int,(srtS l).Perm l
 |[]=>.nil
 |x::r=>(QeN x _).trans ((Yq r).cons x)
theorem QmI(x:Int):∀l:List Int,l.Pairwise (·<=·)->(QuZ x l).Pairwise (·<=·)
 |[],_=>List.pairwise_singleton _ _
 |y::r,h=>by
  obtain⟨h1,h2⟩:=QnZ.mp h;unfold QuZ;split
  ·rename_i q
   exact .cons (λz hz=>(Qv.mp hz).elim (λe=>e ▸ q) λhz=>QcQ q (h1 z hz)) h
  ·rename_i q
   refine .cons (λz hz=>?_) (QmI x r h2);rcases Qv.mp ((QeN x r).mem_iff.mp hz) with e | e
   ·rw[e];omega
   ·exact h1 z e
theorem Qdo:∀l:List Int,(srtS l).Pairwise (·<=·)
 |[]=>.nil
 |x::r=>QmI x _ (Qdo r)
theorem Qii{a b:List Int}(p:a.Perm b)(h1:a.Pairwise (·<=·))(h2:b.Pairwise (·<=·)):a=b:=Qff (le:=λa b=>a<=b) (λa b _ _ h1 h2=>Qvh h1 h2) h1 h2 p
def zrs(m:Int):List Int:=(Qq (1 - m).toNat).map λ(i:Nat) => -(i:Int)
def candI(hs:List Int):List Int:=adL (zrs (hs.getD 0 1)++(zrs (hs.getD 0 1)).foldl List.erase hs)
def Qyd:Nat->Nat->List (List Int)
 |0,_=>[[]]
 |n+1,lo=>(Qq 7).flatMap λv=>if lo<=v then(Qyd n v).map ((v:Int)::·) else[]
def Qyg:Nat->Nat->List (List Int)
 |0,_=>[[]]
 |n+1,p=>(Qq 12).flatMap λv=>if(v=0/\p=0)∨p<v then(Qyg n v).map ((v:Int)::·) else[]
def QBc(ns:List Int):Bool:=let x:=candI (srtS (hdL ns));decide (srtS (hdL x)=srtS (hdL ns))&&(okR x&&Qip x)
theorem QuC:∀n:Fin 7,((Qyd n.val 0).all λns=>n.val == 0||QBc ns)=true:=by decide +kernel
theorem QuD:∀n:Fin 7,((Qyg n.val 0).all λx=>n.val == 0||decide (candI (srtS (hdL x))=x))=true:=by decide +kernel
theorem QrJ:∀(ns:List Int)(lo:Nat),(∀i∈ns,0<=i/\i<=6)->nfI ((lo:Int)::ns)=true->ns∈Qyd ns.length lo
 |[],_,_,_=>.head _
 |a::r,lo,hb,hn=>by
  have hn:=Qs.mp (show(decide ((lo:Int)<=a)&&nfI (a::r))=true from hn);have ha:=hb a (.head _);have h1:=of_decide_eq_true hn.1;refine Qae.mpr ⟨a.toNat,QV.mpr (by omega),?_⟩;rw[if_pos (by omega)];exact QL.mpr ⟨r,QrJ r _ (λi hi=>hb i (.tail _ hi)) (by rw[show((a.toNat:Nat):Int)=a by omega];exact hn.2),by rw[show((a.toNat:Nat):Int)=a by omega]⟩
theorem QrK:∀(x:List Int)(p:Nat),(∀i∈x,i<=11)->nfI ((p:Int)::x)=true->Qip ((p:Int)::x)=true->x∈Qyg x.length p
 |[],_,_,_,_=>.head _
 |a::r,p,hb,hn,hr=>by
  have hn:=Qs.mp (show(decide ((p:Int)<=a)&&nfI (a::r))=true from hn);have hr:=Qs.mp (show((decide (a=0)||decide ((p:Int)<a))&&Qip (a::r))=true from hr);have ha:=hb a (.head _);have h1:=of_decide_eq_true hn.1;have h2:a=0∨(p:Int)<a:=by
   rcases QdN.mp hr.1 with z | z
   ·exact .inl (of_decide_eq_true z)
   ·exact .inr (of_decide_eq_true z)
  refine Qae.mpr ⟨a.toNat,QV.mpr (by omega),?_⟩;rw[if_pos (by omega)];exact QL.mpr ⟨r,QrK r _ (λi hi=>hb i (.tail _ hi)) (by rw[show((a.toNat:Nat):Int)=a by omega];exact hn.2) (by rw[show((a.toNat:Nat):Int)=a by omega];exact hr.2),by rw[show((a.toNat:Nat):Int)=a by omega]⟩
theorem QsK{ns:List Int}(hs:Qaj ns):∃x,Qu0 ns x/\Qip x=true/\∀y,Qu0 ns y->Qip y=true->y=x:=by
 have l1:=hs.l1;have l6:=hs.l6;have hm:ns∈Qyd ns.length 0:=QrJ ns 0 hs.bd (by
  match ns,hs with
  |[],h=>exact absurd h.l1 (by decide)
  |a::r,h=>
   show(decide ((0:Int)<=a)&&nfI (a::r))=true;rw[decide_eq_true (h.bd a (.head _)).1,h.nf];rfl)
 have c1:=Zi.mp (QuC ⟨ns.length,by omega⟩) ns hm;rcases QdN.mp c1 with z | c1
 ·have:=eq_of_beq z;simp at this;rw[this] at l1;cases l1
 have c1:(decide (srtS (hdL (candI (srtS (hdL ns))))=srtS (hdL ns))&&(okR (candI (srtS (hdL ns)))&&Qip (candI (srtS (hdL ns)))))=true:=c1;have C2:∀y,Qu0 ns y->decide (candI (srtS (hdL y))=y)=true->y=candI (srtS (hdL ns)):=λy hy c2=>by
  have c2:=of_decide_eq_true c2;have e:srtS (hdL y)=srtS (hdL ns):=Qii ((Yq _).trans (hy.1.trans (Yq _).symm)) (Qdo _) (Qdo _);rw[e] at c2;exact c2.symm
 generalize candI (srtS (hdL ns))=x at c1 C2;obtain⟨ca,cb⟩:=Qs.mp c1;obtain⟨cb,cc⟩:=Qs.mp cb;have ca:=of_decide_eq_true ca;have pp:=(Yq (hdL x)).symm;rw[ca] at pp;refine⟨x,⟨pp.trans (Yq _),cb⟩,cc,λy hy ry=>?_⟩;have ly:=Qpx hy;have ok:=Qs.mp hy.2;have y0:=of_decide_eq_true ok.1;have hm:y∈Qyg y.length 0:=by
  refine QrK y 0 (λi hi=>?_) ?_ ?_
  ·obtain⟨j,hj⟩:=QZ.mp hi;obtain⟨jl,e⟩:=QM.mp hj;have hh:(hdL y).getD j 0∈hdL ns:=hy.1.mem_iff.mp (by rw[Qi,Qf (by rw[Qbw];exact jl)];exact Qaf _);rw[QmL jl] at hh;obtain⟨t,ht,e2⟩:=QL.mp hh;have tl:=QV.mp ht;have b:=hs.bd (ns.getD t 0) (by rw[Qi,Qf tl];exact Qaf _);have e3:y.getD j 0=i:=by rw[Qi,hj];rfl
   rw[e3] at e2;omega
  ·match y,y0,ok.2 with
   |[],_,_=>rfl
   |a::r,y0,q=>show(decide ((0:Int)<=a)&&nfI (a::r))=true;rw[decide_eq_true (show(0:Int)<=a from y0),q];rfl
  ·match y,y0,ry with
   |[],_,_=>rfl
   |a::r,y0,q=>
    have y0:(0:Int)<=a:=y0;show((decide (a=0)||decide ((0:Int)<a))&&Qip (a::r))=true;rw[q,Bool.and_true];by_cases z:a=0
    ·rw[decide_eq_true z];rfl
    ·rw[decide_eq_true (show(0:Int)<a by omega),Bool.or_true]
 have c2:=Zi.mp (QuD ⟨y.length,by omega⟩) y hm;rcases QdN.mp c2 with z | c2
 ·have:=eq_of_beq z;simp at this;rw[this] at ly;simp at ly;omega
 exact C2 y hy c2
theorem Qun{rows:List (List Int)}(nd:rows.Nodup){x:List Int}{p:List Int->Bool}(hx:x∈rows)(px:p x=true)(h:∀y∈rows,p y=true->y=x):rows.filter p=[x]:=by
 have:(rows.filter p).Perm [x]:=(QgT (QbJ _ nd) (by simp)).mpr λy=>by
  rw[ZU,Jj];exact⟨λq=>h y q.1 q.2,λe=>e ▸ ⟨hx,px⟩⟩
 exact List.perm_singleton.mp this
end Rk
namespace Zt
def QfW(prog:QC)(w:Ja)(a:Addr)(ps:List (List Int×Addr))(led:Bool)(h:Heap):Prop:=∃es ep t,SetAt h a es ep t/\Tab t/\t.led=led/\(es.toList=ps.map λp=>(tupleKeyHash (intKind prog w) p.1,QQ p.2))/\(ps.map (·.1)).Nodup/\(∀(i j:Nat)(e:Int×Value),t.place[i]? = some j->es[i]? = some e->Rch t j e.1)/\(t.mask=7∨t.mask=31∨t.mask=127∨t.mask=511∨t.mask=2047)/\t.place.size*5<t.mask*3
theorem QvG{prog:QC}{w:Ja}{a:Addr}{ps:List (List Int×Addr)}{led:Bool}{h:Heap}(x:QfW prog w a ps led h):Qz0 prog w a ps led h:=by
 obtain⟨es,ep,t,h1,h2,h3,h4,_⟩:=x;exact⟨es,ep,t,h1,h2,h3,h4⟩
section
variable{prog:QC}{w:Ja}{A:Q2}{E:Value->Shared->Prop}{s:Shared}
theorem QsE{a:Addr}{es:Array (Int×Value)}{ep:Nat}{t:SetTable}{ps:List (List Int×Addr)}{h:Heap}(x:TS prog w h a es ep t ps){led:Bool}(hl:t.led=led):QfW prog w a ps led h:=⟨es,ep,t,x.at_,x.tab,hl,x.ent,x.nd,x.rch,x.mks,x.few⟩
theorem QtQ{Q:Value->Shared->Prop}(h:Q (.ref s.heap.objs.size) { s with heap:=s.heap.push { cls:=.type "set",dict:=none,data:=.set #[] 0 (.fresh 0 0 (ledOf w)) } }):wpAny (model prog w) A (newSet (.type "set")) Q E s:=by
 unfold newSet
 wp_walk
 refine Yc (wpAny_pure ?_);dsimp only;simp only[newObj];refine wpAny_bind (wpAny_alloc (wpAny_pure ?_));exact h
theorem call_add{a b:Addr}{Q:Value->Shared->Prop}(ty:s.TypeIs (.ref a) "set")(h:wpAny (model prog w) A.in1 (setAdd a (.ref b)) (λ_ s'=>Q .none s') E s):wpAny (model prog w) A (call (.builtin "set.add") [.ref a,.ref b]) Q E s:=by
 refine JW F.slot_set_add ty F.entry_set_add ?_ (F.args_set_add_2 _ _)
 unfold Yn.«set.add»;refine wpAny_bind ?_
 obtain⟨hp,g,d,tk,os⟩:=s;unfold Qsm;generalize setAdd=SA at h ⊢
 wp_walk
 refine wpAny_mono h (λ_ s' q=>?_) λ_ _ e=>e
 exact wpAny_pure ⟨_,rfl,q⟩
end
end Zt
namespace L2
open Zt
theorem QhD(elt target iter:Q3)(ifs:List Q3)(scope:YM)(pos:Pos)(it acc:Value)(env:Env) :
  compTurn (.SetComp elt [⟨target,iter,ifs,0⟩] scope pos) 0 it acc env=(do
   standAt iter.pos
   let r <- pyNext it
   match r with
   |none=>pure (.done .next)
   |some v=>
    letOwnedTupleGo target it v
    assign target env v
    let ok <- Qie ifs env
    if ok then
     (do let x <- eval elt env;standAt elt.pos;let _ <- call (.builtin "set.add") [acc,x])
    again (.compLoop (.SetComp elt [⟨target,iter,ifs,0⟩] scope pos) 0 it acc env)):=by rfl
section
variable{prog:QC}{w:Ja}{A:Q2}{R:QnO->Shared->Prop}{s:Shared}
theorem QbY{elt target iter ifs rest scope pos it acc env}
  (h0:codeAny (model prog w) A (.compLoop (.SetComp elt (⟨target,iter,ifs,0⟩::rest) scope pos) 0 it acc env) R s)
  (h:wpAny (model prog w) A (pyIter it) (λit' s'=>codeAny (model prog w) A (.compLoop (.SetComp elt (⟨target,iter,ifs,0⟩::rest) scope pos) 0 it' acc env) R s') (notedBy (model prog w) A env λx s'=>R (.error x) s') s) :
  codeAny (model prog w) A (.compStart (.SetComp elt (⟨target,iter,ifs,0⟩::rest) scope pos) 0 it acc env) R s:=by
 refine codeAny_of_tree ?_
 show wpAny _ _ ((compStart (.SetComp elt (⟨target,iter,ifs,0⟩::rest) scope pos) 0 it acc env).onRaise (λx=>do noteFrame x env;standAt theWindowsPlace)) _ _ s;refine wpAny_notedAt ?_
 unfold compStart;show wpAny _ _ (ask >>= _) _ _ s;refine wpAny_bind (Yc (wpAny_ite ?_));split
 ·first | exact wpAny_bind (wpAny_pure (wpAny_pure (Qvn rfl h0))) | exact wpAny_pure (Qvn rfl h0)
 ·refine wpAny_bind (wpAny_rule ?_);show wpAny _ _ (standAt iter.pos >>= _) _ _ s;refine wpAny_bind (wpAny_standAt (wpAny_bind (wpAny_mono h (λit2 s2 q=>wpAny_pure (Qvn rfl q)) λ_ _ e=>e)))
end
def QnI(Y:Cx)(elt:Q3)(D:Addr):Act:=λQ s=>wpAny (model Y.prog Y.w) Y.A (eval elt Y.env) (λv s6=>wpAny (model Y.prog Y.w) Y.A (call (.builtin "set.add") [.ref D,v]) (λ_ s7=>Q s7) (λ_ _=>False) s6) (λ_ _=>False) s
def QxO(P:QC)(W:Ja)(p:Addr)(te:TE):St->Hp->(Hp->Prop)->Prop:=λσ H k=>te σ H λv H6=>∃(ks:List Int)(b:Addr)(ps:List (List Int×Addr)),v=.ref b/\H6 p=some (.ext (QfW P W p ps (ledOf W)))/\(∀q∈ps,H6 q.2=some (.tup (q.1.map V.int)))/\H6 b=some (.tup (ks.map V.int))/\ps.length<1200/\(ks∈ps.map (·.1)->k (upd H6 p (.ext (QfW P W p ps (ledOf W)))))/\(ks∉ps.map (·.1)->∀ps',ps'.Perm ((ks,b)::ps)->k (upd H6 p (.ext (QfW P W p ps' (ledOf W)))))
theorem Qim{P:QC}{W:Ja}{H:Hp}{h:Heap}{a:Addr}{ps:List (List Int×Addr)}{led:Bool}(x:QfW P W a ps led h):ObjOk P W H h a (.ext (QfW P W a ps led)):=by
 refine⟨x,?_,λh1 h2 x k=>?_⟩
 ·obtain⟨es,ep,t,sa,_⟩:=x;obtain⟨o,ho,_⟩:=sa.at_;exact⟨o,ho⟩
 ·obtain⟨es,ep,t,sa,r⟩:=x;exact⟨es,ep,t,sa.at' k,r⟩
theorem Qof{X:Cx}{pins:List (Addr×Obj)}{σ:St}{H:Hp}{s:Shared}(I:Inv X pins σ H s):Inv X pins σ (upd H s.heap.objs.size (.ext (QfW X.prog X.w s.heap.objs.size [] (ledOf X.w)))) { s with heap:=s.heap.push { cls:=.type "set",dict:=none,data:=.set #[] 0 (.fresh 0 0 (ledOf X.w)) } }:=by
 refine I.laid (t':=s.toks) (λb x e=>Qd _ e) (Qj _) (Qim ⟨#[],0,Qbc 0 0 (ledOf X.w),⟨⟨_,QD _ rfl,⟨rfl,rfl,rfl⟩,rfl⟩,by cases ledOf X.w<;>rfl⟩,Qsu _,rfl,rfl,Qve,λi j e h=>?_,.inl rfl,by show 0*5<7*3;decide⟩);simp[Qbc] at h
theorem Qnx{Y:Cx}{σ:St}{elt:Q3}{te:TE}{D:Addr}(hx:Y.xe=λ_ _=>False)(hu:Y.A.units+60<cLine)(he:PE Y elt te):BodyOk Y σ (QnI Y elt D) (QxO Y.prog Y.w D te σ):=by
 intro pins s H k Q I h hQ;have hx':∀(v:Value)(s':Shared),Y.xe v s'->False:=λv s' z=>by rw[hx] at z;exact z
 refine wpAny_mono (he pins s σ H _ I h) (λv s6 ⟨y,H6,I6,r6,ks,b,ps,ey,eD,hps,eb,hl,k1,k2⟩=>?_) hx';subst ey;cases r6;obtain⟨sq,_,_⟩:=(show ObjOk Y.prog Y.w H6 s6.heap D (.ext _) from I6.hok D _ eD);obtain⟨es,ep,t,sa,tb,led,ent,nd,rch,mks,few⟩:=sq;have x:Zt.TS Y.prog Y.w s6.heap D es ep t ps:=⟨sa,tb,ent,λq hq=>key_of I6 (hps q hq),nd,rch,mks,few⟩;obtain⟨o,ho,hex,hd⟩:=sa.at_;have mu:Mut (H6 D):=by rw[eD];exact QcN
 refine call_add ⟨o,ho,hex.1⟩ (addTB x (by show Y.A.units+1<cLine;omega) (key_of I6 eb) hl (λhin tk=>?_) λhno h' es' ep' t' ps' tk x' pp led' sb=>?_)
 ·refine hQ _ _ ?_ (k1 hin)
  exact I6.write (t':=tk) (x:=D) (e:=D) mu (.inl rfl) (λb u hb z=>z) ⟨o,ho⟩ (Qim ⟨es,ep,t,sa,tb,led,ent,nd,rch,mks,few⟩)
 ·refine hQ _ _ ?_ (k2 hno ps' pp)
  obtain⟨o',ho',_⟩:=x'.at_.at_;exact I6.write (t':=tk) (x:=D) (e:=D) mu (.inl rfl) (λb u hb z=>(sb.2 b hb).trans z) ⟨o',ho'⟩ (Qim (QsE x' (led'.trans led)))
def QvA(P:QC)(W:Ja)(cap:List (Option Nat))(wi:TI)(g:TG)(tc:TT)(te:TE):TE:=λσ H Q=>wi σ H λJ H1=>∀p,H1 p=none->QgZ J (bOf (Qdg cap σ) g tc (QxO P W p te)) (Q (.ref p)) (upd H1 p (.ext (QfW P W p [] (ledOf W))))
theorem Qkf{Y:Cx}{σ:St}{tg:Q3}{elt:Q3}{gens:List QcR}{scope:YM}{cpos:Pos}{d:Nat}{it D:Addr}{fp:List Addr}{tn:Nat->Heap->Prop}{J:It}{pins:List (Addr×Obj)}{s:Shared}{H:Hp}{body:V->Hp->(Hp->Prop)->Prop}{Qn:Hp->Prop}{R:QnO->Shared->Prop}{act:Value->Act}
  (hc:Y.calm=true)(T:Turn Y.prog Y.w Y.K tg J fp it tn)(st:tn 0 s.heap)(hf:∀b∈fp,FpOk Y pins H b)
  (hturn:∀(Q:PySem.Fin->Shared->Prop)(E:Value->Shared->Prop)(s:Shared),wpAny (model Y.prog Y.w) Y.A (pyNext (.ref it)) (λr s1=>match r with
   |none=>Q (.done .next) s1
   |some v=>wpAny (model Y.prog Y.w) Y.A (letOwnedTupleGo tg (.ref it) v) (λ_ s2=>act v (λs3=>Q (.again (.compLoop (.SetComp elt gens scope cpos) d (.ref it) (.ref D) Y.env)) s3) s2) E s1) E s ->
   wpAny (model Y.prog Y.w) Y.A (compTurn (.SetComp elt gens scope cpos) d (.ref it) (.ref D) Y.env) Q E s)
  (hact:∀(x:V)(u:Value),RelV x u->BodyOk Y σ (act u) (body x))
  (I:Inv Y pins σ H s)(h:QgZ J body Qn H)(hR:∀s' H',Inv Y pins σ H' s'->Qn H'->R (.ok .next) s') :
  codeAny (model Y.prog Y.w) Y.A (.compLoop (.SetComp elt gens scope cpos) d (.ref it) (.ref D) Y.env) R s:=by
 obtain⟨W,⟨m0,w0⟩,turn⟩:=h;have stat:∀{H':Hp},(∀b∈fp,H' b=none)->∀b∈fp,FpOk Y pins H' b:=λhn b hb=>⟨hn b hb,(hf b hb).2⟩
 refine codeAny_loop rfl (λn s'=>∃i H',Inv Y pins σ H' s'/\tn i s'.heap/\(∀b∈fp,H' b=none)/\W i n H') (λn s3 hI=>?_) m0 ⟨0,H,I,st,λb hb=>(hf b hb).1,w0⟩;show wpAny _ Y.A ((compTurn (.SetComp elt gens scope cpos) d (.ref it) (.ref D) Y.env).onRaise (λx=>do noteFrame x Y.env;theTreesLotGoes x)) _ _ s3;refine wpAny_noted (hturn _ _ _ ?_);obtain⟨i,H3,I3,st3,fr3,w3⟩:=hI;rcases turn i n H3 w3 with⟨stop,qn⟩ | ⟨go,step⟩
 ·refine thn (T.done Y rfl rfl rfl hc i pins s3 σ H3 _ I3 (stat fr3) st3 stop) λr s4 ⟨hr,I4⟩=>?_
  subst hr;exact hR s4 H3 I4 qn
 ·refine thn (T.item Y rfl rfl rfl hc i pins s3 σ H3 _ I3 (stat fr3) st3 go) λr s4 ⟨u,hr,h4⟩=>?_
  subst hr;refine thn h4 λ_ s5 ⟨x,H5,I5,r5,y5,st5,fr5⟩=>?_
  have I5':=I5.pinned (stat fr5) (T.obj _ _ st5);refine hact x u r5 _ s5 H5 _ _ I5' (step x H5 y5) λs7 H7 I7 ⟨m',hm,w7⟩=>?_
  refine⟨rfl,m',hm,i+1,H7,I7.unpinned,T.keep _ _ _ st5 λb hb o e=>(I7.pin (b,o) (Q0 _ (Q0 _ (QaH hb e)))).1,λb hb=>?_,w7⟩;obtain⟨o,e,dd⟩:=T.obj _ _ st5 b hb;exact(I7.pin (b,o) (Q0 _ (Q0 _ (QaH hb e)))).2.1
theorem Qls{Y:Cx}{elt tg iter:Q3}{ifs:List Q3}{scope:YM}{cpos:Pos}{it D:Addr}(Q:PySem.Fin->Shared->Prop)(E:Value->Shared->Prop)(s:Shared)
  (h:wpAny (model Y.prog Y.w) Y.A (pyNext (.ref it)) (λr s1=>match r with
   |none=>Q (.done .next) s1
   |some v=>wpAny (model Y.prog Y.w) Y.A (letOwnedTupleGo tg (.ref it) v) (λ_ s2=>QnG Y tg ifs (QnI Y elt D) v (λs3=>Q (.again (.compLoop (.SetComp elt [⟨tg,iter,ifs,0⟩] scope cpos) 0 (.ref it) (.ref D) Y.env)) s3) s2) E s1) E s) :
  wpAny (model Y.prog Y.w) Y.A (compTurn (.SetComp elt [⟨tg,iter,ifs,0⟩] scope cpos) 0 (.ref it) (.ref D) Y.env) Q E s:=by
 rw[QhD];refine wpAny_bind (wpAny_standAt (wpAny_bind (thn h λr s1 h1=>?_)));cases r with
 |none=>exact wpAny_pure h1
 |some v=>
  refine wpAny_bind (thn h1 λ_ s2 h2=>?_);refine wpAny_bind (wpAny_mono h2 (λ_ s4 h4=>wpAny_bind (wpAny_mono h4 (λok s5 h5=>?_) λ_ _ f=>f.elim)) λ_ _ f=>f.elim);cases ok with
  |false=>exact wpAny_pure h5
  |true=>exact wpAny_bind (wpAny_bind (wpAny_mono h5 (λx s6 h6=>wpAny_bind (wpAny_standAt (wpAny_bind (wpAny_mono h6 (λ_ s7 h7=>wpAny_pure (wpAny_pure h7)) λ_ _ f=>f.elim)))) λ_ _ f=>f.elim))
theorem Qoz{X:Cx}{M:List Str}{cap:List (Option Nat)}{elt tg iter:Q3}{ifs:List Q3}{scope:YM}{pos:Pos}{wi:TI}{g:TG}{tc:TT}{te:TE}{i:Nat}{y:Str}{py spos:Pos}(hN:X.N.Nodup)(hiy:X.N[i]? = some y)(hly:X.env.scope.names.lookup y=some .local)(hu:X.A.units+60<cLine)(hc:X.calm=true)(ok:QeV X.N X.env.scope M scope cap=true)
  (hi:PI X tg iter wi)(hb:∀cl ex s3 H3 C,PG (blk X M scope cl ex s3 H3 C) tg g/\PTs (blk X M scope cl ex s3 H3 C) ifs tc/\PE (blk X M scope cl ex s3 H3 C) elt te)
  (hs:∀x,foldedSetIterable iter X.env x=pure x:=by intro _;rfl)(hsw:swapsWith (.SetComp elt [⟨tg,iter,ifs,0⟩] scope pos) (some (.Name y py)) spos.line X.env=pure true:=by rfl):PS X (.Assign [.Name y py] (.SetComp elt [⟨tg,iter,ifs,0⟩] scope pos) spos) (Qrh (QvA X.prog X.w cap wi g tc te) (Qd9 i)):=by
 intro pins s σ H D I h;have c:=CapOk.of ok;rw[QdY _ _ _ _ hsw];refine wpAny_bind (wpAny_standAt (wpAny_bind ?_));show wpAny _ X.A (do let _ <- comprehension (.SetComp elt [⟨tg,iter,ifs,0⟩] scope pos) scope X.env _ (newSet (.type "set")) false (eval iter X.env) (some (assign (.Name y py) X.env))) _ _ s;refine wpAny_bind (wpAny_mono (Qau (use:=some (assign (.Name y py) X.env)) (Q:=λ_ s'=>SP X pins D .next s') rfl hs (Qgt (I.ok.cells c)) c.kind c.loc ?_) (λ_ s' hq=>wpAny_pure (wpAny_pure hq)) λ_ _ e=>e);refine thn (hi pins s σ H _ I h) λv s1 h1=>thn h1 λitv s2 h2=>?_
 obtain⟨it,fp,tn,J,H2,e,I2,T,st2,f2,hW⟩:=h2;subst e;refine QtQ (Qbk c.cell (by intro y hy;simp at hy) (λh₁ hns₁ hsb₁=>?_) c.kind);have I3:Inv X pins σ (upd H2 s2.heap.objs.size (.ext (QfW X.prog X.w s2.heap.objs.size [] (ledOf X.w)))) { s2 with heap:=s2.heap.push { cls:=.type "set",dict:=none,data:=.set #[] 0 (.fresh 0 0 (ledOf X.w)) } }:=Qof I2;have lt2:∀b∈fp,b<s2.heap.objs.size:=λb hb=>by obtain⟨o,e,_⟩:=T.obj _ _ st2 b hb;exact Qp e
 have f3:∀b∈fp,FpOk X pins (upd H2 s2.heap.objs.size (.ext (QfW X.prog X.w s2.heap.objs.size [] (ledOf X.w)))) b:=λb hb=>(f2 b hb).upd (QF (lt2 b hb))
 generalize hs3:({ s2 with heap:=s2.heap.push { cls:=.type "set",dict:=none,data:=.set #[] 0 (.fresh 0 0 (ledOf X.w)) } }:Shared)=s3 at I3;have e3:s3.heap=s2.heap.push { cls:=.type "set",dict:=none,data:=.set #[] 0 (.fresh 0 0 (ledOf X.w)) }:=by rw[<- hs3]
 have z3:s3.heap.objs.size=s2.heap.objs.size+1:=by rw[e3,ZN]
 have hk:∀b o,s3.heap.get? b=some o->h₁.get? b=some o:=λb o e=>hsb₁.extBut b o (by
  have:=Qp e;rw[e3] at this;exact QF this) (Qd _ (e3 ▸ e))
 have hn₁:h₁.Ns s3.heap.objs.size λ_=>none:=by rw[e3];exact hns₁
 have B:=Qc4 (t4:=s3.toks+([]:List (Str×Value)).length) (fp:=fp) I3 c f3 (λb hb=>by rw[z3];exact YY (lt2 b hb)) hn₁ hk;have st4:tn 0 h₁:=T.keep _ _ _ st2 λb hb o e=>hk b o (by rw[e3];exact Qd _ e)
 have fp4:∀b∈fp,FpOk (blk X M scope (QbE X.env scope.names []) fp s3 (upd H2 s2.heap.objs.size (.ext (QfW X.prog X.w s2.heap.objs.size [] (ledOf X.w)))) s3.heap.objs.size) [] (upd H2 s2.heap.objs.size (.ext (QfW X.prog X.w s2.heap.objs.size [] (ledOf X.w)))) b:=λb hb=>by
  refine⟨(f3 b hb).1,(B.ok.exf b hb).1,B.ok.exfs b hb,.inl hb,(B.ok.exf b hb).2,λp hp=>(nomatch hp)⟩
 obtain⟨hg,ht,he⟩:=hb (QbE X.env scope.names []) fp s3 (upd H2 s2.heap.objs.size (.ext (QfW X.prog X.w s2.heap.objs.size [] (ledOf X.w)))) s3.heap.objs.size;have loop:codeAny (model X.prog X.w) X.A (.compLoop (.SetComp elt [⟨tg,iter,ifs,0⟩] scope pos) 0 (.ref it) (.ref s2.heap.objs.size) (compEnvC scope (QbE X.env scope.names []) s3.heap.objs.size X.env))
   (compPost (model X.prog X.w) X.A X.xe (some (assign (.Name y py) X.env)) (λ_ s'=>SP X pins D .next s') (.ref s2.heap.objs.size) s3.heap.objs.size) { s3 with heap:=h₁,toks:=s3.toks+([]:List (Str×Value)).length }:=by
  refine Qkf (Y:=blk X M scope (QbE X.env scope.names []) fp s3 (upd H2 s2.heap.objs.size (.ext (QfW X.prog X.w s2.heap.objs.size [] (ledOf X.w)))) s3.heap.objs.size) (gens:=[⟨tg,iter,ifs,0⟩]) (d:=0) hc T st4 fp4
   (λQ E s h=>Qls Q E s h) (λx u r=>QeW rfl hg ht (λσ4=>Qnx rfl (show X.A.units+60<cLine from hu) he) x u r) B (hW _ (I2.hok.fresh (Qj _))) λs' H' I' q=>?_
  exact Qa9 (Q:=λ_ s'=>SP X pins D .next s') I3 f3 I' hN hiy hly λs2' J2=>⟨_,H',J2,q⟩
 exact QbY loop (T.self _ 0 _ _ _ st4 loop)
end L2
namespace L2
open Zt _root_.Rd _root_.Rk Dl Rt
section
variable{X:Cx}
def QvX(prog:QC)(w:Ja):List V->Hp->VK->Prop:=λxs H Q=>∃(a:Addr)(ps:List (List Int×Addr)),xs=[.ref a]/\ps.length<=1000/\H a=some (.ext (QfW prog w a ps (ledOf w)))/\(∀p∈ps,H p.2=some (.tup (p.1.map V.int))) /\
 ∀(t:Addr)(ys:List V)(es:List Qb)(H2:Hp),Same H H2->H t=none->H2 t=some (.lst ys)->Dats H2 ys es->es.Perm (ps.map λp=>tN p.1)->es.Pairwise (λa b=>ltD b a=false)->(∀y∈ys,y∈ps.map λp=>V.ref p.2)->Q (.ref t) H2
theorem QkH(hc:X.calm=true)(hu:X.A.units+60<cLine):CallR X (.builtin "sorted") (QvX X.prog X.w):=by
 intro pins s σ H xs us Q I r h;obtain⟨a,ps,rfl,h300,ha,hps,q⟩:=h;obtain⟨u,rfl,ru⟩:=vals1 r;cases ru;obtain⟨hS,_⟩:=I.hok a _ ha;refine Qil (I.ok.hd hc) (by omega) (QvG hS) λh' tk ps' pp kp P E' hP=>?_
 have hps':∀p∈ps',H p.2=some (.tup (p.1.map V.int)):=λp hp=>hps p (pp.mem_iff.mp hp)
 refine Qlw hu I (Qg9 ps') (by rw[Qe,pp.length_eq];exact Z8 (Rk.QbU (by omega))) (QhA hps') (by have:=QfU (ps'.map (·.1));rw[Jo] at this;exact this) (λt ys es H2 s2 n2 e2 dt pe pw hy=>?_) h' tk kp P E' hP;exact q t ys es H2 s2 n2 e2 dt (pe.trans (pp.map _)) pw λy hy'=>(pp.map _).mem_iff.mp (hy y hy')
end
end L2
namespace L2
section
variable{κ:Type}[DecidableEq κ]
end
section
variable{P:QC}{w:Ja}{H:Hp}{h:Heap}{a:Addr}
end
section
variable{X:Cx}{pins:List (Addr×Obj)}{σ:St}{H:Hp}{s:Shared}{a:Addr}{y v:V}{u r:Value}{o:Option V}{A:Q2}{E:Value->Shared->Prop}
end
section
variable{X:Cx}{pins:List (Addr×Obj)}{σ:St}{H:Hp}{s:Shared}{a:Addr}{kvs:List (Key×V)}{k:Key}{u:Value}{A:Q2}{E:Value->Shared->Prop}
end
section
variable{X:Cx}{o i e value:Q3}{pos pos' tpos:Pos}{td ty tv:TE}
end
section
variable{X:Cx}{pos:Pos}
end
section
variable{X:Cx}{pins:List (Addr×Obj)}{σ:St}{H:Hp}{s:Shared}{a:Addr}{y d:V}{u r:Value}{o:Option V}{A:Q2}{E:Value->Shared->Prop}
end
section
variable{X:Cx}{o e f:Q3}{apos cpos:Pos}{td ty tx:TE}
end
section
variable{X:Cx}{pins:List (Addr×Obj)}{σ:St}{H:Hp}{s:Shared}{a:Addr}{kvs:List (Key×V)}{A:Q2}{E:Value->Shared->Prop}
end
section
variable{X:Cx}{pins:List (Addr×Obj)}{σ:St}{H:Hp}{s:Shared}{a:Addr}{y:V}{u:Value}{A:Q2}{E:Value->Shared->Prop}
end
end L2
namespace Dz
section
variable{prog:QC}{w:Ja}{A:Q2}{E:Value->Shared->Prop}{s:Shared}
structure Raw (h:Heap) (d:Addr) (es:Array DictEntry) (ep:Nat):Prop where
 at_:∃o,h.get? d=some o/\o.ExactDict/\o.data=.dict es ep
theorem Raw.ty{d:Addr}{es:Array DictEntry}{ep:Nat}(x:Raw s.heap d es ep):s.TypeIs (.ref d) "dict" := by
 obtain⟨o,e,c,_⟩:=x.at_;exact⟨o,e,c.1⟩
end
end Dz
namespace L2
open Dz
section
variable{X:Cx}
end
end L2
namespace Dz
section
variable{prog:QC}{w:Ja}{A:Q2}{E:Value->Shared->Prop}{s:Shared}
end
end Dz
namespace L2
open Dz
section
variable{X:Cx}
end
section
variable{X:Cx}
end
end L2
namespace Rk
end Rk
namespace Rk
open L2 _root_.Rd Dl Rt
section
variable(K:PySem.W.Frag)(P:QC)(W:Ja)(u:Nat)
end
def ccI(t:List Int)(n:Int):List Int:=(Qq (t.length+1)).map λk=>t.getD k 0+(if k=0 then 0 else t.getD (k - 1) 0*(n - ((k - 1:Nat):Int)))
def hcI(ns:List Int):List Int:=ns.foldl ccI [1]
theorem QdG(t:List Int)(n:Int):(ccI t n).length=t.length+1:=by unfold ccI;rw[Qe,QN]
theorem QxM(t:List Int)(n:Int)(k:Nat):(ccI t n).getD k 0=t.getD k 0+(if k=0 then 0 else t.getD (k - 1) 0*(n - ((k - 1:Nat):Int))):=by
 by_cases h:k<t.length+1
 ·rw[Qi];unfold ccI;rw[Qz,Zn h];rfl
 ·have a:(ccI t n).getD k 0=0:=by rw[Qi,JR (by rw[QdG];omega)];rfl
  have b:t.getD k 0=0:=by rw[Qi,JR (by omega)];rfl
  have c:t.getD (k - 1) 0=0:=by rw[Qi,JR (by omega)];rfl
  rw[a,b,c,Int.zero_mul,Int.zero_add];split<;>rfl
theorem Qui:∀(ns t:List Int),(ns.foldl ccI t).length=ns.length+t.length
 |[],t=>by show t.length=0+t.length;omega
 |n::ns,t=>by show(ns.foldl ccI (ccI t n)).length=_;rw[Qui ns,QdG,Qy];omega
def prI(x:Int):List Int->Int
 |[]=>1
 |h::hs=>(x+h)*prI x hs
theorem QlV(x:Int):∀a b:List Int,prI x (a++b)=prI x a*prI x b
 |[],b=>by show _=1*_;rw[Int.one_mul];rfl
 |h::a,b=>by show(x+h)*prI x (a++b)=(x+h)*prI x a*prI x b;rw[QlV x a b,Qj8]
theorem QoE(x:Int){a b:List Int}(p:a.Perm b):prI x a=prI x b:=by
 induction p with
 |nil=>rfl
 |cons h _ ih=>show(x+h)*_=(x+h)*_;rw[ih]
 |swap h k l=>show(x+k)*((x+h)*prI x l)=(x+h)*((x+k)*prI x l);rw[<- Qj8,<- Qj8,Int.mul_comm (x+k)]
 |trans _ _ h1 h2=>rw[h1,h2]
end Rk
namespace L2
open Sem (wp)
open Builtin
theorem Qdw:fillsNumberSlot (.type "tuple") "mul" = pure false:=
 PySem.fillsNumberSlot_seq (id := "tuple.__mul__") (r:=some (.builtin "tuple.__rmul__")) QgU.lookup (by decide +kernel) Qvj.lookup (by decide +kernel)
theorem Qf4:seqRepeat? (.type "tuple")=pure (some (.builtin "tuple.__mul__")):=by
 unfold seqRepeat?;rw[PySem.seqSlot_of (T := "tuple") (name := "__mul__") (id := "tuple.__mul__") QgU.lookup (by decide +kernel),PySem.seqSlot_of (T := "tuple") (name := "__rmul__") (id := "tuple.__rmul__") Qvj.lookup (by decide +kernel)];rfl
theorem Qio(a:Int)(t:Tok)(l:Addr)(items:Array Value)(n:Nat)(dd:Option Addr)(sl:Array (Option Value)) :
  Meets (Yn.«int.__rmul__» ⟨[.int a t,.ref l],[]⟩) (λ_ R s=>s.heap.get? l=some { cls:=.type "tuple",dict:=dd,data:=.seq items n,slots:=sl }/\R (.ok (.ret QkR)) s):=
 .of_wp λprog w A R s h=>by obtain⟨hp,g,d,tk,os⟩:=s;obtain⟨hl,h⟩:=h;wp_walk;exact⟨_,rfl,h⟩
theorem Qku(l:Addr)(items:Array Value)(n:Nat)(dd:Option Addr)(sl:Array (Option Value))(x:Int)(u:Tok)(h0:¬(x < -(2^63)||x≥2^63)=true)(h1:¬(items.isEmpty||x == 1)=true)(h2:¬(decide (x<=0)||items.isEmpty)=true)(h3:¬(items.size*x > (2^63 - 1) / 8))(h4:¬QyN (items.size*x)=true)(h5:((Q1 x.toNat items).foldl (·++·) #[]).size<=sizeLine) :
  Meets (Yn.«tuple.__mul__» ⟨[.ref l,.int x u],[]⟩) (λ_ R s=>s.heap.get? l=some { cls:=.type "tuple",dict:=dd,data:=.seq items n,slots:=sl }/\R (.ok (.ret (QQ s.heap.objs.size))) { s with heap:=s.heap.push { cls:=Z2 "tuple",data:=Data.seq ((Q1 x.toNat items).foldl (·++·) #[]) },toks:=s.toks }):=
 .of_wp λprog w A R s h=>by
  obtain⟨hp,g,d,tk,os⟩:=s;obtain⟨hl,h⟩:=h;have f1:=AutoSeq1.idx_int
  wp_walk using Z4 hl
  rw[if_neg h0]
  wp_walk using Z4 hl
  rw[if_neg h3]
  wp_walk using Z4 hl
  exact⟨_,rfl,h⟩
section
variable{X:Cx}
def Qv0(K:PySem.W.Frag):R2:=λx y H Q=>∃a k xs,x=.ref a/\y=.int k/\SqT K H a xs/\xs≠[]/\2<=k/\k<=1000/\xs.length*k.toNat<=1000000/\∀p,H p=none->Q (.ref p) (upd H p (.tup (Q1 k.toNat xs).flatten))
theorem Qty:OpR X (binaryOp .Mult) (Qv0 X.K):=by
 intro pins s σ H x y v u Q I rx ry h;obtain⟨a,k,xs,rfl,rfl,ha,hx,k2,kM,hz,q⟩:=h;cases rx;obtain⟨t,rfl⟩:=ry;obtain⟨its,r,p1,_⟩:=I.tuple ha;obtain⟨⟨cls,dd,data,sl⟩,ho,hc,n,hd⟩:=id p1;simp only at hc hd;subst hc hd;have hl:=r.length;have hne:its≠[]:=λz=>hx (r.nil_iff.mp z)
 have hem:its.toArray.isEmpty=false:=by simpa using hne
 have hnew:Qh6 (λx1 x2=>x1++x2) #[] (Q1 k.toNat its.toArray)=(Q1 k.toNat its).flatten.toArray:=by
  have:=foldl_rep its k.toNat [];rw[Qbd] at this;exact this
 have hlen:(Q1 k.toNat its).flatten.length<=1000000:=by rw[QiI,Qfc,<- hl];exact hz
 have hM:(1000000:Nat)<=sizeLine:=by show 1000000<=2^24;decide
 have hk:((its.toArray.size:Int))*k<=1000000:=by
  rw[Qr,<- hl];have:((xs.length*k.toNat:Nat):Int)<=1000000:=by omega
  rw[Int.natCast_mul,Int.toNat_of_nonneg (by omega)] at this;exact this
 refine Qk3 (T := "tuple") (U := "int") (by decide) ⟨_,ho,rfl⟩ (λs'=>QgM s' k t) Qdw QyL Qdl Qf4 Qx8.lookup
  (QaW Qdl (QgM s k t) Qya (Qvm _ _) (Qio k t a its.toArray n dd sl)
   ⟨ho,rfl,⟨_,ho,rfl⟩,QaW QgU ⟨_,ho,rfl⟩ F.entry_tuple_mul (F.args_tuple_mul_2 _ _) (Qku a its.toArray n dd sl k t (by simp;omega) (by rw[hem];simp;omega) (by rw[hem];simp;omega) (by omega) (by unfold Tuple.tupleTooMany;rw[decide_eq_true_eq];omega) (by rw[hnew,Qr];omega)) ⟨ho,?_⟩⟩)
 rw[hnew];refine⟨.ref s.heap.objs.size,_,I.laid (t':=s.toks) (o:=.tup (Q1 k.toNat xs).flatten) (λb ob q=>Qd _ q) (Qj _) ?_,rfl,q _ (I.hok.fresh (Qj _))⟩;exact⟨by rw[QiI,Qfc];omega,_,r.rep k.toNat,Qj7 _ _⟩
end
end L2
namespace Dl
open L2 _root_.Rd Rk Rt
def Qy6:Qb->Qb->(Qb->Prop)->Prop
 |.tuple a,.int k,Q=>(a≠[]/\2<=k/\k<=1000/\a.length*k.toNat<=1000000)/\Q (.tuple (Q1 k.toNat a).flatten)
 |_,_,_=>False
theorem QtN{K:PySem.W.Frag}:OpD (Qv0 K) Qy6:=λA P H x y d1 d2 R Q ln dm hx hy h k=>by
 cases d1<;>cases d2<;>first | exact h.elim | skip
 obtain⟨l1,xs,rfl,e1,q1⟩:=hx.tuple;rw[hy.int];obtain⟨⟨h1,h2,h3,h4⟩,h5⟩:=h;have ql:=q1.length;refine⟨l1,_,xs,rfl,rfl,SqT.of e1,λz=>h1 ?_,h2,h3,by rw[ql];exact h4,λp hp=>?_⟩
 ·subst z;exact Qb4.mp ql.symm
 ·exact k _ h5 _ _ (JC hp) (Qfh dm (JC hp) JB (q1.rep _)) (QaQ hp)
end Dl
namespace L2
section
variable{X:Cx}{pins:List (Addr×Obj)}{σ:St}{H H3:Hp}{s3:Shared}{M:List Str}{scope:YM}{cap:List (Option Nat)}{fp:List Addr}{h4:Heap}{t4:Nat}
end
section
variable{X:Cx}{pins:List (Addr×Obj)}{σ:St}{H:Hp}
end
end L2
namespace Rk
open L2 _root_.Rd Dl
end Rk
namespace Dl
open L2
section
variable{X:Cx}{E:XK}
end
end Dl
namespace Rk
open L2 _root_.Rd
def top(i:Nat):Yt:=PySem.Challenge.pw_rooklands_k65_no_stairs.main.body.getD i (.Pass ⟨0,0,0,0⟩)
abbrev Qfm:Yt:=top 22
abbrev Qdr:Yt:=top 23
abbrev Qfn:Yt:=top 24
abbrev Qki:Yt:=top 27
abbrev sOth:Yt:=top 28
abbrev Qds:Yt:=top 30
abbrev Qg5:Yt:=top 31
abbrev QbP:Yt:=top 32
abbrev QdT:Yt:=top 35
abbrev Qg7:Yt:=top 36
abbrev Qkh:Yt:=top 37
abbrev Qg6:Yt:=top 38
abbrev QdR:Yt:=top 39
abbrev Qf2:Yt:=top 40
abbrev sNBy:Yt:=top 41
abbrev QdS:Yt:=top 42
abbrev sIsR:Yt:=top 43
abbrev QdA:Yt:=top 45
abbrev lPot:Yt:=top 46
abbrev QkA:Yt:=top 47
abbrev Qdz:Yt:=top 48
abbrev QkC:Yt:=top 49
abbrev Qkz:Yt:=top 50
abbrev QkB:Yt:=top 51
abbrev sLaw:Yt:=top 52
section
variable{P:QC}{w:Ja}{K:PySem.W.Frag}{mg:Str->Option Value}{base:Heap}
theorem Qok:JA ["_law_script", "_law_k"] ["_law_script", "_law_k"] (Qx QdA):=⟨rfl,rfl,rfl,by decide +kernel,rfl,by decide +kernel,by decide +kernel⟩
theorem Qmj{f:Addr}{fd:QP}(F:Fun K "_law_cell_at" "_law_cell_at" QdA f fd)(T:GlbA mg):FnOk P w K mg base CX0 1 f fd ["_law_script", "_law_k"] (QcU K):=by
 refine F.ok Qok (λvs H Q E h=>?_) (λcdv A outer s H vs Q E hr h=>?_)
 ·obtain⟨a,ns,k,rfl,_⟩:=h;rfl
 ·obtain⟨a,ns,n,rfl,hs,hl,h0,k⟩:=h;refine⟨_,ZM (QoC (QeD Qpa (pv 1) (Qa2 Qa4 (by rfl) T.len Qb0 (YG (pv 0) ZP)) (Qai _)) (Qbb (QbS (Qiu QdB (pv 0) (pv 1) (λ_ _=>rfl)))) Qgb) (Qbb (QbS Yl)),?_⟩;refine⟨_,rfl,_,rfl,a,_,rfl,.inl hs,_,_,rfl,rfl,_,rfl,?_⟩;refine QAk (λhlt=>?_) (λ_=>k 0);have hlt':n<(ns.map V.int).length:=of_decide_eq_true hlt;rw[Qe] at hlt';obtain⟨j,rfl⟩:=Int.eq_ofNat_of_zero_le h0;have hj:j<ns.length:=by omega
  refine⟨_,rfl,_,rfl,a,_,_,.int ns[j],rfl,rfl,hs,Ys ?_,k _⟩;rw[Qz,Qf hj];rfl
theorem Qkg:JA ["_law_cell", "_law_number", "_law_j", "_law_more"] ["_law_cell"] (Qx lPot):=⟨rfl,rfl,rfl,by decide +kernel,rfl,by decide +kernel,by decide +kernel⟩
theorem QwT{f:Addr}{fd:QP}(F:Fun K "_law_pot" "_law_pot" lPot f fd)(T:GlbA mg):FnOk P w K mg base CX0 1 f fd ["_law_cell"] QvC:=by
 refine F.ok Qkg (λvs H Q E h=>?_) (λcdv A outer s H vs Q E hr h=>?_)
 ·obtain⟨c,rfl,_⟩:=h;rfl
 ·obtain⟨c,rfl,k⟩:=h;refine⟨_,ZM (QoC (QeD QwK (pv 0) (Qay Qfr Yl Yl) (Qai _)) (Qbb (QbS (Qry (YG (Qay Qjq (pv 0) (Qay Qfr Yl Yl)) ZP)))) Qgb)
   (ZM (QaO (i:=1) Qkg.nd rfl (Jp rfl) Yl)
   (ZM (Qrw Qad rfl (Qhe (by rfl) T.range (YG Yl ZP)) (QeE (i:=2) Qkg.nd rfl (Jp rfl))
    (ZM (QaO (i:=3) Qkg.nd rfl (Jp rfl) (Qay Qfu (Qay Qft (Qay Qfv (Qay Qfv (Qay Qfu (pv 0) Yl) (Qay Qft Yl (pv 2))) Yl) Yl) Yl))
    (ZM (QaO (i:=3) Qkg.nd rfl (Jp rfl) (Qay Qfu (Qay Qfv (Qay Qfv (Qay Qft (pv 3) (pv 3)) (Qay Qft Yl (pv 2))) Yl) Yl))
    (Qbb (QaO (i:=1) Qkg.nd rfl (Jp rfl) (Qay Qfv (Qay Qft (pv 1) Yl) (pv 3)))))))
   (Qbb (QbS (Qry (YG (pv 1) ZP)))))),?_⟩
  refine⟨_,rfl,_,_,rfl,rfl,⟨by decide,by decide,by decide⟩,_,_,rfl,rfl,_,rfl,?_⟩;refine QAk (λ_=>?_) (λ_=>?_)
  ·exact⟨_,rfl,_,_,rfl,rfl,⟨by decide,by decide,by decide⟩,_,_,rfl,rfl,by show 1<=sizeLine;decide,λp hp=>k p _ hp⟩
  ·refine⟨64,rfl,by decide,by decide,QmU (n:=64) (λi σ H2=>∃n v u,σ=[some (.int c),some (.int n),v,u]/\H2=H) ⟨0,none,none,rfl,rfl⟩ ?_ ?_⟩
   ·rintro i σ H2 hi ⟨n,v,u,rfl,rfl⟩;have b1:=QjM ((c % 2147483629+7919*(0+(i:Int))+1)*48271) (m:=2147483647) (by decide);refine⟨_,rfl,_,_,rfl,rfl,by show(0:Int)<2147483629;decide,_,rfl,_,_,rfl,rfl,.inl ⟨by decide,by decide⟩,_,_,rfl,rfl,_,_,rfl,rfl,_,_,rfl,rfl,.inr ⟨by decide,by decide⟩,_,_,rfl,rfl,by show(0:Int)<2147483647;decide,?_⟩;refine⟨_,rfl,_,rfl,_,_,rfl,rfl,.inl ⟨by omega,by omega⟩,_,rfl,_,_,rfl,rfl,.inl ⟨by decide,by decide⟩,_,_,rfl,rfl,_,_,rfl,rfl,_,_,rfl,rfl,by show(0:Int)<2147483587;decide,?_⟩;exact⟨_,rfl,_,_,rfl,rfl,.inr ⟨by decide,by decide⟩,_,rfl,_,_,rfl,rfl,_,_,_,rfl,rfl⟩
   ·rintro σ H2 ⟨n,v,u,rfl,rfl⟩;exact⟨_,rfl,by show 1<=sizeLine;decide,λp hp=>k p _ hp⟩
theorem Qrn:JA ["_law_pot_here", "_law_far", "_law_found"] ["_law_pot_here", "_law_far"] (Qx QkA):=⟨rfl,rfl,rfl,by decide +kernel,rfl,by decide +kernel,by decide +kernel⟩
theorem QtD{f:Addr}{fd:QP}(F:Fun K "_law_take" "_law_take" QkA f fd)(T:GlbA mg):FnOk P w K mg base CX0 1 f fd ["_law_pot_here", "_law_far"] Qjc:=by
 refine F.ok Qrn (λvs H Q E h=>?_) (λcdv A outer s H vs Q E hr h=>?_)
 ·obtain⟨p,n,m,rfl,_⟩:=h;rfl
 ·obtain⟨p,n,m,rfl,hp,h0,h1,k⟩:=h;refine⟨_,ZM (QaO (i:=2) Qrn.nd rfl (Jp rfl) (Qay Qfu (Qiu QdB (pv 0) Yl (λ_ _=>rfl)) (pv 1)))
   (ZM (Qwe (Qay Qpb (Qiu QdB (pv 0) Yl (λ_ _=>rfl)) (pv 1)) (Qwj (pv 0) Yl Qoe))
   (Qbb (QbS (pv 2)))),?_⟩
  have b:=QjM n h0;exact⟨_,rfl,p,_,_,_,rfl,rfl,SqL.of hp,rfl,_,rfl,_,_,rfl,rfl,h0,_,rfl,p,_,_,_,rfl,rfl,SqL.of hp,rfl,_,rfl,_,_,rfl,rfl,⟨h0,h1⟩,_,rfl,p,_,_,_,rfl,rfl,hp,rfl,_,rfl,k _ _ b.1 b.2⟩
end
end Rk
namespace Rk
open L2 _root_.Rd
open Dl
open Rt
def Qgk:DF:=λargs R _=>∃n:Int,args=[.pot,.v (.int n),.v (.int 6)]/\1<=n/\n<=6/\∀ns,Qaj ns->(ns.length:Int)=n->R (tI ns)
def Qhy:DF:=λargs R _=>∃ns,args=[.v (tI ns)]/\Qaj ns/\∀ms:List Int,ms.Perm (hdL ns)->ms.Pairwise (·<=·)->R (.list (ms.map Qh))
def Qyi:DF:=λargs R _=>∃(hs:List Int)(o:List Nat),args=[.v (.list (hs.map Qh)),.v (tNn o)]/\o.length<=6/\(∀x∈o,x<hs.length)/\R (tI (nbI hs o))
def QuG:DF:=λargs R _=>∃(t:List Int)(n:Int),args=[.v (.list (t.map Qh)),.v (.int n)]/\t.length<=10/\0<=n/\n<=6/\R (.list ((ccI t n).map Qh))
def QAl:DF:=λargs R _=>∃ns,args=[.v (tI ns)]/\Qaj ns/\R (.list ((hcI ns).map Qh))
def Qs3:DF:=λargs R _=>∃(ns:List Int)(x:Int),args=[.v (tI ns),.v (.int x)]/\Qaj ns/\0<=x/\x<=1000000000/\R (.int (prI x (hdL ns)))
theorem QkF(ns:List Int):Qxq (.list (ns.map Qh))=true:=Zi.mpr λd hd=>by
 obtain⟨i,_,rfl⟩:=QL.mp hd;rfl
theorem Qur(ns:List Int):(QcA (ns.map Qh)).map (λd=>match d with | .tuple [.int p,.int n]=>Qh (n - p) | _=>.none)=(hdL ns).map Qh:=by
 unfold QcA hdL;rw[Jo,Jo,Qe];refine J5 λi hi=>?_
 have hi:=QV.mp hi;have e:(ns.map Qh).getD i .none=.int (ns.getD i 0):=by
  rw[Qi,Qz,Qf hi,Qi,Qf hi];rfl
 show(match Zm [.int i,(ns.map Qh).getD i .none] with | .tuple [.int p,.int n]=>Qh (n - p) | _=>.none)=_;rw[e];rfl
theorem QrM:∀(ns t:List Int),(ns.foldl ccI t).length=ns.length+t.length
 |[],t=>by show t.length=0+t.length;omega
 |n::ns,t=>by show(ns.foldl ccI (ccI t n)).length=_;rw[QrM ns,QdG,Qy];omega
def wrI(t:List Int)(n:Int):List Int:=(Qq t.length).map λi=>t.getD i 0*(n - (i:Int))
theorem Qlf(t:List Int)(n:Int):(wrI t n).length=t.length:=by unfold wrI;rw[Qe,QN]
theorem Qup(t:List Int)(n:Int):(QcA (t.map Qh)).map (λd=>match d with | .tuple [.int s,.int m]=>Qh (m*(n - s)) | _=>.none)=(wrI t n).map Qh:=by
 unfold QcA wrI;rw[Jo,Jo,Qe];refine J5 λi hi=>?_
 have hi:=QV.mp hi;have e:(t.map Qh).getD i .none=.int (t.getD i 0):=by
  rw[Qi,Qz,Qf hi,Qi,Qf hi];rfl
 show(match Zm [.int i,(t.map Qh).getD i .none] with | .tuple [.int s,.int m]=>Qh (m*(n - s)) | _=>.none)=_;rw[e];rfl
theorem Qvo(t:List Int)(n:Int):(QgJ (t.map Qh++[.int 0]) ([.int 0]++(wrI t n).map Qh)).map (λd=>match d with | .tuple [.int a,.int b]=>Qh (a+b) | _=>.none)=(ccI t n).map Qh:=by
 have e1:t.map Qh++[.int 0]=(t++[0]).map Qh:=by rw[Zu];rfl
 have e2:[Qh 0]++(wrI t n).map Qh=(0::wrI t n).map Qh:=rfl;rw[e1,e2];unfold QgJ;rw[List.zipWith_map,Qsh];have e3:QcH (λ(a b:Int)=>(match Zm [.int a,.int b] with | .tuple [.int a,.int b]=>Qh (a+b) | _=>.none)) (t++[0]) (0::wrI t n)=(QcH (λa b=>a+b) (t++[0]) (0::wrI t n)).map Qh:=by rw[Qsh]
 rw[e3]
 congr 1
 refine Qfe (by rw[QdI,QdG,Qw];show min (t.length+1) ((wrI t n).length+1)=_;rw[Qlf];exact Qk9 _) λk h1 h2=>?_
 rw[QdG] at h2;have a:=QxM t n k;rw[Qi,Qf (by rw[QdG];exact h2)] at a;have a:(ccI t n)[k]=_:=a;rw[a,List.getElem_zipWith];have b1:(t++[0])[k]'(by rw[Qw];exact h2)=t.getD k 0:=by
  by_cases z:k<t.length
  ·rw[List.getElem_append_left z,Qi,Qf z];rfl
  ·have:k=t.length:=by omega
   subst this;rw[List.getElem_append_right (Qj _),Qi,JR (Qj _)];simp
 rw[b1]
 congr 1
 cases k with
 |zero=>rfl
 |succ k=>
  rw[if_neg (by omega)];show(wrI t n)[k]'_=t.getD k 0*(n - (k:Int));unfold wrI;rw[Qcn,Qn0]
theorem int_at{ms:List Int}{i:Nat}{d:Qb}(h:(ms.map Qh)[i]? = some d):∃m,ms[i]? = some m/\d=.int m:=by
 rw[Qz] at h;cases z:ms[i]? with
 |none=>rw[z] at h;cases h
 |some r=>rw[z] at h;cases h;exact⟨r,rfl,rfl⟩
theorem QzH{ns:List Int}(hs:Qaj ns){m:Int}(h:m∈hdL ns) : -6<=m/\m<=6:=by
 unfold hdL at h;obtain⟨i,hi,rfl⟩:=QL.mp h;have hi:=QV.mp hi;have:=hs.bd _ (getD_mem hi);have:=hs.l6;omega
theorem Qja(o:List Nat):(Qdf o).map (λe=>(toI e).toNat)=o:=by
 unfold Qdf;rw[Jo]
 conv=>rhs;rw[<- Qbe o]
 exact J5 λx _=>by show((x:Int)).toNat=x;omega
theorem Quq(hs:List Int)(o:List Nat):(QcA (Qdf o)).map (λd=>match d with | .tuple [.int p,.int a]=>Qh (hs.getD a.toNat 0+p) | _=>.none)=(nbI hs o).map Qh:=by
 unfold QcA nbI Qdf;rw[Jo,Jo,Qe];refine J5 λi hi=>?_
 have hi:=QV.mp hi;have e:(o.map λ(c:Nat)=>Qh (c:Int)).getD i .none=.int ((o.getD i 0:Nat):Int):=by
  rw[Qi,Qz,Qf hi,Qi,Qf hi];rfl
 show(match Zm [.int i,(o.map λ(c:Nat)=>Qh (c:Int)).getD i .none] with | .tuple [.int p,.int a]=>Qh (hs.getD a.toNat 0+p) | _=>.none)=_;rw[e];show Qh (hs.getD ((o.getD i 0:Nat):Int).toNat 0+(i:Int))=_;rw[ZR];rfl
section
variable{P:QC}{w:Ja}{K:PySem.W.Frag}{mg:Str->Option Value}{base:Heap}
theorem Qog:JA ["thing"] ["thing"] (Qx Qfm):=⟨rfl,rfl,rfl,by decide +kernel,rfl,by decide +kernel,by decide +kernel⟩
theorem Qpc{f   : Addr}{fd  : QP}(F:Fun K "is_whole" "is_whole" Qfm f fd)(T:GlbA mg) :
  FnOk P w K mg base CX0 1 f fd ["thing"] (Zf false Qlh):=by
 refine okQ false F Qog (λargs R EX h=>?_) (λcdv A outer s H E hr=>?_)
 ·obtain⟨d,rfl,_⟩:=h;rfl
 ·have hU:=Room.u60 hr;have hI:=Room.i60 hr;refine⟨_,JT (QaN (QsX (Jm (QlR .int (by rfl) T.isinstance (qp 0) (by rfl) T.int Qr1)) (QlQ (Qzg (Jm (QlR .bool (by rfl) T.isinstance (qp 0) (by rfl) T.bool QuK)))))),λargs R EX h=>?_⟩;obtain⟨d,rfl,hR⟩:=h;cases d<;>exact hR
theorem QlC:JA ["thing", "least", "most"] ["thing", "least", "most"] (Qx Qdr):=⟨rfl,rfl,rfl,by decide +kernel,rfl,by decide +kernel,by decide +kernel⟩
theorem Qmg{f f1  : Addr}{fd fd1:QP}(F:Fun K "is_whole_within" "is_whole_within" Qdr f fd)(T:GlbA mg)
  (m1:mg "is_whole" = some (.ref f1))(G1:FnOk P w K mg base CX0 1 f1 fd1 ["thing"] (Zf false Qlh))(b1:Binds K fd1 ["thing"] [])(k1:PySem.W.keepIn K (.ref f1)=true) :
  FnOk P w K mg base CX0 2 f fd ["thing", "least", "most"] (Zf false Qev):=by
 refine okQ false F QlC (λargs R EX h=>?_) (λcdv A outer s H E hr=>?_)
 ·obtain⟨d,a,b,rfl,_⟩:=h;rfl
 ·have hU:=Room.u60 hr;have hI:=Room.i60 hr;refine⟨_,JT (QaN (QsX (J7 (ZX G1 (hr.mono (by decide)) (by rfl) m1 k1 b1 Yb (YL (qv 0) JV))) (QlQ (Z9 (QA0 Qmf Qmf (qp 1) (qp 0) (qp 2)))))),λargs R EX h=>?_⟩;obtain⟨d,a,b,rfl,hR⟩:=h;refine⟨d,rfl,?_⟩;cases d with
  |int i=>exact QrH (QxQ hR)
  |_=>exact hR
theorem Qhn:(["one", "other"]:List Str).Nodup:=by decide +kernel
theorem Qoi:JA ["things"] ["things"] (Qx Qfn):=⟨rfl,rfl,rfl,by decide +kernel,rfl,by decide +kernel,by decide +kernel⟩
theorem Qpe{f   : Addr}{fd  : QP}(F:Fun K "is_never_falling" "is_never_falling" Qfn f fd)(T:GlbA mg) :
  FnOk P w K mg base CX0 1 f fd ["things"] (Zf false Qhm):=by
 refine okQ false F Qoi (λargs R EX h=>?_) (λcdv A outer s H E hr=>?_)
 ·obtain⟨ns,rfl,_⟩:=h;rfl
 ·have hU:=Room.u60 hr;have hI:=Room.i60 hr;refine⟨_,JT (QbQ (YF Qgy (Qnn rfl) (by rfl) T.all Qns (QdU (Jm (QbD ["one", "other"] [none,none] (QlP (by rfl) T.zip (qp 0) (Jm (Qga (qp 0) (Qf7 (J7 Zg)) Qf8))) (λcl ex s3 H3 C=>⟨(QeB rfl (Qah 0 (Qah 1 QeC Qhn rfl (Jp rfl) (JF rfl)) Qhn rfl (Jp rfl) (JF rfl))),Qao,(Z9 (Qkk Qmf Qhj (qp 0) (qp 1) (Qai _)))⟩))) J6))),λargs R EX h=>?_⟩;obtain⟨ns,rfl,hR⟩:=h;refine Qcs (λd=>.bool (Qyj d)) (λd hd k2 hk=>?_) (QiX (items:=QgJ (ns.map Qh) (Dl.cutD (ns.map Qh) (some 1) none)) rfl (by rw[Qrc];exact hR));obtain⟨i,hi⟩:=QZ.mp hd;obtain⟨a,b,ha,hb,rfl⟩:=Dl.zip_get hi;obtain⟨x,_,rfl⟩:=QL.mp (QK ha);obtain⟨y,_,rfl⟩:=QL.mp (QjP (QK hb));exact⟨rfl,hk⟩
theorem Qkt:(["part"]:List Str).Nodup:=by decide +kernel
theorem QlE:JA ["thing"] ["thing"] (Qx Qds):=⟨rfl,rfl,rfl,by decide +kernel,rfl,by decide +kernel,by decide +kernel⟩
theorem Qmh{f f1 f2  : Addr}{fd fd1 fd2:QP}(hA:∃t,mg "MOST_LINES" = some (.int 6 t))(F:Fun K "is_stairs" "is_stairs" Qds f fd)(T:GlbA mg)
  (m1:mg "is_whole_within" = some (.ref f1))(G1:FnOk P w K mg base CX0 2 f1 fd1 ["thing", "least", "most"] (Zf false Qev))(b1:Binds K fd1 ["thing", "least", "most"] [])(k1:PySem.W.keepIn K (.ref f1)=true)
  (m2:mg "is_never_falling" = some (.ref f2))(G2:FnOk P w K mg base CX0 1 f2 fd2 ["things"] (Zf false Qhm))(b2:Binds K fd2 ["things"] [])(k2:PySem.W.keepIn K (.ref f2)=true) :
  FnOk P w K mg base CX0 3 f fd ["thing"] (Zf false QfR):=by
 refine okQ false F QlE (λargs R EX h=>?_) (λcdv A outer s H E hr=>?_)
 ·obtain⟨d,rfl,_⟩:=h;rfl
 ·obtain⟨tA,mA⟩:=hA;have hU:=Room.u60 hr;have hI:=Room.i60 hr;refine⟨_,Je (Qd5 (QAZ (Qze (Qfo (Qez (Jm (QlR .tuple (by rfl) T.isinstance (qp 0) (by rfl) T.tuple Qgz)))) (Qv5 (Qfo (Qzf Qmf Qmf (J7 Zg) (Jm (YF Qas QdX (by rfl) T.len Qb0 (QdU (qp 0) J6))) (J7 (Qjh 6 (by rfl) mA ⟨_,rfl⟩))))))) (JT (QaN Qrt)) Qaw)
   (JT (QaN (QsX (Jm (YF Qgy (Qnn rfl) (by rfl) T.all Qns (QdU (Jm (QbD ["part"] [none] (Qrs (qp 0)) (λcl ex s3 H3 C=>⟨(Y0 0 Qkt rfl (Jp rfl) (JF rfl)),Qao,(ZX G1 (hr.mono (by decide)) (by rfl) m1 k1 b1 Yb (YL (qv 0) (YL Zg (YL (Qjh 6 (by rfl) mA ⟨_,rfl⟩) JV))))⟩))) J6))) (QlQ (ZX G2 (hr.mono (by decide)) (by rfl) m2 k2 b2 Yb (YL (qv 0) JV)))))),λargs R EX h=>?_⟩
  obtain⟨d,rfl,hR⟩:=h;cases d with
  |tuple ds=>
   have hR:R (.bool ((decide ((1:Int)<=ds.length)&&decide ((ds.length:Int)<=6))&&(ds.all (λd=>inW d 0 6)&&nfI (ds.map toI)))):=hR;refine ifC (λz1=>?_) λz1=>?_
   ·rw[show decide ((1:Int)<=ds.length)=true from z1,Qi3] at hR;show if(!decide ((ds.length:Int)<=6))=true then _ else _
    cases z2:decide ((ds.length:Int)<=6) with
    |false=>rw[z2] at hR;exact hR
    |true=>
     rw[z2,Qi3] at hR;refine Qcs (λd=>.bool (inW d 0 6)) (λd hd k2 hk=>⟨_,_,_,rfl,hk⟩) (QiX (items:=ds) rfl ?_);refine QuN hR λha hR=>⟨ds.map toI,?_,hR⟩
     rw[tI,<- (QjG ha).1]
   ·rw[show decide ((1:Int)<=ds.length)=false from z1] at hR;exact hR
  |_=>exact hR
theorem Qoh:JA ["stairs"] ["stairs"] (Qx Qg5):=⟨rfl,rfl,rfl,by decide +kernel,rfl,by decide +kernel,by decide +kernel⟩
theorem Qpd{f f1  : Addr}{fd fd1:QP}(F:Fun K "refuse_no_stairs" "refuse_no_stairs" Qg5 f fd)(T:GlbA mg)
  (m1:mg "is_stairs" = some (.ref f1))(G1:FnOk P w K mg base CX0 3 f1 fd1 ["thing"] (Zf false QfR))(b1:Binds K fd1 ["thing"] [])(k1:PySem.W.keepIn K (.ref f1)=true) :
  FnOk P w K mg base CX0 4 f fd ["stairs"] (Zf false Qir):=by
 refine okQ false F Qoh (λargs R EX h=>?_) (λcdv A outer s H E hr=>?_)
 ·obtain⟨ns,rfl,_⟩:=h;rfl
 ·have hU:=Room.u60 hr;have hI:=Room.i60 hr;refine⟨_,JT (Qd5 (Qfo (Qez (J7 (ZX G1 (hr.mono (by decide)) (by rfl) m1 k1 b1 Yb (YL (qv 0) JV))))) Qag Qaw),λargs R EX h=>?_⟩;obtain⟨ns,rfl,hs,hR⟩:=h;refine⟨_,rfl,?_⟩;rw[QfQ hs];exact hR
theorem Qdx:(["row", "column", "many", "stairs"]:List Str).Nodup:=by decide +kernel
theorem Qew:JA ["stairs", "high", "cells"] ["stairs"] (Qx QbP):=⟨rfl,rfl,rfl,by decide +kernel,rfl,by decide +kernel,by decide +kernel⟩
theorem Qmi{f f1  : Addr}{fd fd1:QP}(F:Fun K "stair_board" "stair_board" QbP f fd)(T:GlbA mg)
  (m1:mg "refuse_no_stairs" = some (.ref f1))(G1:FnOk P w K mg base CX0 4 f1 fd1 ["stairs"] (Zf false Qir))(b1:Binds K fd1 ["stairs"] [])(k1:PySem.W.keepIn K (.ref f1)=true) :
  FnOk P w K mg base CX0 5 f fd ["stairs"] (Zf false Qz1):=by
 refine okQ false F Qew (λargs R EX h=>?_) (λcdv A outer s H E hr=>?_)
 ·obtain⟨ns,rfl,_⟩:=h;rfl
 ·have hU:=Room.u60 hr;have hI:=Room.i60 hr;refine⟨_,Je (Qax (J7 (ZX G1 (hr.mono (by decide)) (by rfl) m1 k1 b1 Yb (YL (qv 0) JV))))
   (Je (QaB 1 (Z9 (YF (QhG rfl) QpO (by rfl) T.max Qr0 (QdU (J7 (Qov QcY Qge (qp 0) (Jm (QsV (J7 Zg))) (λ_ _=>rfl))) (QdU (J7 Zg) J6)))) Qew.nd)
   (Je (Qot ["row", "column", "many", "stairs"] [none,none,none,some 0] 2 Qew.nd (QjI 0) (QbR (by rfl) T.range (qp 1)) (λcl ex s3 H3 C=>⟨(Y0 0 Qdx rfl (Jp rfl) (JF rfl)),Qao,(Qf9 (by rfl) T.enumerate (qv 3)),(QeB rfl (Qah 1 (Qah 2 QeC Qdx rfl (Jp rfl) (JF rfl)) Qdx rfl (Jp rfl) (JF rfl))),(Qf5 (Qcr Qpa Qhj (qp 0) (qp 2) (Qai _))),(Z9 (Qd6 (QaG (qv 0) (QaG (qv 1) J6))))⟩))
   (JT (QbQ (Qd6 (QaG (qv 1) (QaG (Z9 (YF Qas QdX (by rfl) T.len Qb0 (QdU (qp 0) J6))) (QaG (Z9 (Qej Qct QjV (by rfl) T.tuple Qgz (QdU (qp 2) J6))) J6)))))))),λargs R EX h=>?_⟩
  obtain⟨ns,rfl,hs,hR⟩:=h;have hh:=QvT hs;have h6:=hs.l6;refine⟨_,rfl,hs,_,Qt4 hs.l1,QtZ Qy5 ⟨⟨by omega,by omega⟩,Qni (QsJ ns) 36 ?_ (λd hd acc N hb hN=>?_) ?_⟩⟩
  ·rw[Qjg,Qe];exact Qsz hs
  ·obtain⟨i,hi⟩:=QZ.mp hd;obtain⟨hi,rfl⟩:=Qcw hi;have er:QsJ ns (.int (0+(i:Int)))=(QcA (ns.map Qh)).filterMap (Qyf (i:Int)):=by
    rw[QpI];show(Qoo (0+(i:Int)).toNat ns.length (stF ns)).map pairD=_;rw[show(0+(i:Int)).toNat=i by omega]
   refine Qxj (Qyf (i:Int)) ?_ (λd hd k1 k2 h1 h2=>?_) (by rw[<- er];exact hN)
   ·rw[Qc0,Qe];exact Z7 (show acc.length+ns.length<=42 by omega) (by decide)
   ·obtain⟨c,hc⟩:=QZ.mp hd;obtain⟨e,he,rfl⟩:=Qce hc;obtain⟨m,_,rfl⟩:=QL.mp (QK he);have h1:(if(i:Int)<m then some (pairD ((i:Int),(c:Int))) else none)=none->k1:=h1;have h2:∀e,(if(i:Int)<m then some (pairD ((i:Int),(c:Int))) else none)=some e->k2 e:=h2
    refine⟨rfl,?_⟩;show if decide (0+(i:Int)<m)=true then k2 (.tuple [.int (0+(i:Int)),.int (c:Int)]) else k1
    rw[show(0:Int)+(i:Int)=(i:Int) by omega];by_cases z:(i:Int)<m
    ·rw[if_pos (decide_eq_true z)];exact h2 _ (if_pos z)
    ·rw[if_neg (by simpa using z)];exact h1 (if_neg z)
  ·rw[Qjg,ZR];have hR:R (.tuple [.int (sH ns),.int ns.length,.tuple ((stC ns).map pairD)]):=hR;rw[<- Qe (f:=Qh)] at hR;exact hR
theorem Y3:JA ["_law_pot_here", "_law_columns", "_law_most", "_law_found", "_law_least", "_law_column", "_law_step"] ["_law_pot_here", "_law_columns", "_law_most"] (Qx Qdz):=⟨rfl,rfl,rfl,by decide +kernel,rfl,by decide +kernel,by decide +kernel⟩
theorem Qkq{f f1  : Addr}{fd fd1:QP}(F:Fun K "_law_stairs" "_law_stairs" Qdz f fd)(T:GlbA mg)
  (m1:mg "_law_take" = some (.ref f1))(G1:FnOk P w K mg base CX0 1 f1 fd1 ["_law_pot_here", "_law_far"] (Zf true Qlo))(b1:Binds K fd1 ["_law_pot_here", "_law_far"] [])(k1:PySem.W.keepIn K (.ref f1)=true) :
  FnOk P w K mg base CX0 2 f fd ["_law_pot_here", "_law_columns", "_law_most"] (Zf false Qgk):=by
 refine okQ false F Y3 (λargs R EX h=>?_) (λcdv A outer s H E hr=>?_)
 ·obtain⟨n,rfl,_⟩:=h;rfl
 ·have hU:=Room.u60 hr;have hI:=Room.i60 hr;refine⟨_,Je (QaB 3 (Z9 (Qd6 J6)) Y3.nd)
   (Je (QaB 4 Zg Y3.nd)
   (Je (Qhb Qad rfl (QbR (by rfl) T.range (qp 1)) (Y0 5 Y3.nd rfl (by first | exact Jp rfl | exact JF rfl))
    (Je (QaB 6 (Z9 (Yr G1 (hr.mono (by decide)) (by rfl) m1 k1 b1 Yb (Qbj 0 (YL Zg JV)))) Y3.nd)
   (Je (Qd5 (Qcr Qjr (Qph hU) (Jm (Yr G1 (hr.mono (by decide)) (by rfl) m1 k1 b1 Yb (Qbj 0 (YL Zg JV)))) (J7 Zg) (Qai _)) (JT (QaB 6 (Z9 (Yr G1 (hr.mono (by decide)) (by rfl) m1 k1 b1 Yb (Qbj 0 (YL (Z9 (Y8 YH QaC (qp 2) (J7 Zg))) JV)))) Y3.nd)) Qaw)
   (Je (QaB 4 (Z9 (YF (QhF rfl) QpN (by rfl) T.min QrZ (QdU (qp 2) (QdU (Jm (Y8 YH QaC (qp 4) (Jm (Y8 Qgd Qjt (qp 6) (Jm (Qej Qnp QxL (by rfl) T.int Qr1 (QdU (J7 (QAf (Jm (Qkk Qzu Qhj (qp 5) (J7 Zg) (Qai _))) (QlQ (Z9 (Qkk Qjr (Qph hU) (Jm (Yr G1 (hr.mono (by decide)) (by rfl) m1 k1 b1 Yb (Qbj 0 (YL Zg JV)))) (J7 Zg) (Qai _)))))) J6))))))) J6)))) Y3.nd)
   (JT (QaB 3 (Z9 (Y8 YH QaC (qp 3) (Jm (Qd6 (QaG (qv 4) J6))))) Y3.nd))))))
   (JT (QaN (qv 3))))),λargs R EX h=>?_⟩
  obtain⟨n,rfl,n1,n6,hR⟩:=h;refine⟨⟨by omega,by omega⟩,QiN (λi δ=>∃ns x4 x5 x6,δ=[.pot,.v (.int n),.v (.int 6),.v (tI ns),.v (.int x4),x5,x6]/\ns.length=i/\(∀j∈ns,0<=j/\j<=6)/\nfI ns=true/\0<=x4/\x4<=6/\∀b,ns.getLast? = some b->b<=x4) ⟨[],0,_,_,rfl,rfl,λj hj=>(nomatch hj),rfl,by decide,by decide,λb hb=>(nomatch hb)⟩ ?_ ?_⟩
  ·rintro i δ hi ⟨ns,x4,x5,x6,rfl,hl,hb,hn,h0,h6,hlast⟩;refine⟨_,rfl,by decide,by decide,λr1 r10 r11=>⟨_,rfl,by decide,by decide,λr2 r20 r21=>?_⟩⟩;refine ifC (λzz=>?_) λzz=>?_
   ·refine⟨_,rfl,by decide,by decide,λr3 r30 r31=>?_⟩;have fin:∀v:Int,x4<=v->v<=6->∃ns' x4' x5' x6',[Sl.pot,.v (.int n),.v (.int 6),.v (.tuple (ns.map Qh++[.int v])),.v (.int v),.v (.int (0+(i:Int))),.v (.int r3)]=[.pot,.v (.int n),.v (.int 6),.v (tI ns'),.v (.int x4'),x5',x6']/\ns'.length=i+1/\(∀j∈ns',0<=j/\j<=6)/\nfI ns'=true/\0<=x4'/\x4'<=6/\∀b,ns'.getLast? = some b->b<=x4':=λv v0 v6=>by
     refine⟨ns++[v],v,_,_,by rw[tI,Zu];rfl,by rw[Qw,hl];rfl,λj hj=>?_,QiC hn λb hb'=>QcQ (hlast b hb') v0,by omega,v6,λb hb'=>?_⟩
     ·rcases Js.mp hj with z | z
      ·exact hb j z
      ·rw[Jj.mp z];omega
     ·rw[Qla] at hb';have:v=b:=by simpa using hb'
      omega
    have fin2:∀t:Int,0<=t->∃v,(if x4+t<6 then x4+t else 6)=v/\x4<=v/\v<=6:=λt t0=>⟨_,rfl,by split<;>omega,by split<;>omega⟩
    refine ifC (λz=>?_) λz=>?_
    ·refine⟨.inl (.inr (by decide)),?_⟩;obtain⟨v,ev,v0,v6⟩:=fin2 (r3*1) (by omega);refine Qgh ev ⟨by rw[Qe];show _+1<=_;omega,fin v v0 v6⟩
    ·refine⟨_,rfl,by decide,by decide,λrb rb0 rb1=>?_⟩;refine⟨.inl (.inr (by show -(2^64:Int)<(if decide (rb=0)=true then 1 else 0)/\(if decide (rb=0)=true then(1:Int) else 0)<2^64;split<;>decide)),?_⟩;obtain⟨v,ev,v0,v6⟩:=fin2 (r3*(if decide (rb=0)=true then 1 else 0)) (by split<;>omega);refine Qgh ev ⟨by rw[Qe];show _+1<=_;omega,fin v v0 v6⟩
   ·skip
    have fin:∀v:Int,x4<=v->v<=6->∃ns' x4' x5' x6',[Sl.pot,.v (.int n),.v (.int 6),.v (.tuple (ns.map Qh++[.int v])),.v (.int v),.v (.int (0+(i:Int))),.v (.int r1)]=[.pot,.v (.int n),.v (.int 6),.v (tI ns'),.v (.int x4'),x5',x6']/\ns'.length=i+1/\(∀j∈ns',0<=j/\j<=6)/\nfI ns'=true/\0<=x4'/\x4'<=6/\∀b,ns'.getLast? = some b->b<=x4':=λv v0 v6=>by
     refine⟨ns++[v],v,_,_,by rw[tI,Zu];rfl,by rw[Qw,hl];rfl,λj hj=>?_,QiC hn λb hb'=>QcQ (hlast b hb') v0,by omega,v6,λb hb'=>?_⟩
     ·rcases Js.mp hj with z | z
      ·exact hb j z
      ·rw[Jj.mp z];omega
     ·rw[Qla] at hb';have:v=b:=by simpa using hb'
      omega
    have fin2:∀t:Int,0<=t->∃v,(if x4+t<6 then x4+t else 6)=v/\x4<=v/\v<=6:=λt t0=>⟨_,rfl,by split<;>omega,by split<;>omega⟩
    refine ifC (λz=>?_) λz=>?_
    ·refine⟨.inl (.inr (by decide)),?_⟩;obtain⟨v,ev,v0,v6⟩:=fin2 (r1*1) (by omega);refine Qgh ev ⟨by rw[Qe];show _+1<=_;omega,fin v v0 v6⟩
    ·refine⟨_,rfl,by decide,by decide,λrb rb0 rb1=>?_⟩;refine⟨.inl (.inr (by show -(2^64:Int)<(if decide (rb=0)=true then 1 else 0)/\(if decide (rb=0)=true then(1:Int) else 0)<2^64;split<;>decide)),?_⟩;obtain⟨v,ev,v0,v6⟩:=fin2 (r1*(if decide (rb=0)=true then 1 else 0)) (by split<;>omega);refine Qgh ev ⟨by rw[Qe];show _+1<=_;omega,fin v v0 v6⟩
  ·rintro δ ⟨ns,x4,x5,x6,rfl,hl,hb,hn,h0,h6,hlast⟩;exact hR ns ⟨by omega,by omega,hb,hn⟩ (by omega)
theorem Qho:(["place", "number"]:List Str).Nodup:=by decide +kernel
theorem Qoj:JA ["stairs"] ["stairs"] (Qx QdT):=⟨rfl,rfl,rfl,by decide +kernel,rfl,by decide +kernel,by decide +kernel⟩
theorem Qpf{f f1  : Addr}{fd fd1:QP}(F:Fun K "heads" "heads" QdT f fd)(T:GlbA mg)
  (m1:mg "refuse_no_stairs" = some (.ref f1))(G1:FnOk P w K mg base CX0 4 f1 fd1 ["stairs"] (Zf false Qir))(b1:Binds K fd1 ["stairs"] [])(k1:PySem.W.keepIn K (.ref f1)=true) :
  FnOk P w K mg base CX0 5 f fd ["stairs"] (Zf true Qhy):=by
 refine okQ true F Qoj (λargs R EX h=>?_) (λcdv A outer s H E hr=>?_)
 ·obtain⟨ns,rfl,_⟩:=h;rfl
 ·have hU:=Room.u60 hr;have hI:=Room.i60 hr;refine⟨_,Je (Qax (J7 (ZX G1 (hr.mono (by decide)) (by rfl) m1 k1 b1 Yb (YL (qv 0) JV))))
   (JT (QbQ (YF QkJ QuE (by rfl) T.sorted Qnr (QdU (Jm (QbD ["place", "number"] [none,none] (Qf9 (by rfl) T.enumerate (qp 0)) (λcl ex s3 H3 C=>⟨(QeB rfl (Qah 0 (Qah 1 QeC Qho rfl (Jp rfl) (JF rfl)) Qho rfl (Jp rfl) (JF rfl))),Qao,(Z9 (Y8 Qjq Qmm (qp 1) (qp 0)))⟩))) J6)))),λargs R EX h=>?_⟩
  obtain⟨ns,rfl,hs,hR⟩:=h;refine⟨ns,rfl,hs,?_⟩;refine Qcs (λd=>match d with | .tuple [.int p,.int n]=>.int (n - p) | _=>.none) (λd hd k2 hk=>?_) ?_
  ·obtain⟨i,hi⟩:=QZ.mp hd;obtain⟨e,he,rfl⟩:=Qce hi;obtain⟨m,_,rfl⟩:=QL.mp (QK he);exact⟨rfl,hk⟩
  ·rw[Qur];have l6:=hs.l6;exact(QsB (ds:=(hdL ns).map Qh) (ns:=hdL ns) (QkM _) (by unfold hdL;rw[Qe,QN];omega) λms pm pw=>hR ms pm pw).1
theorem QtU:(["number", "numbers"]:List Str).Nodup:=by decide +kernel
theorem QvN:JA ["many", "numbers"] ["many", "numbers"] (Qx sOth):=⟨rfl,rfl,rfl,by decide +kernel,rfl,by decide +kernel,by decide +kernel⟩
theorem QwU{f   : Addr}{fd  : QP}(F:Fun K "others" "others" sOth f fd)(T:GlbA mg) :
  FnOk P w K mg base CX0 1 f fd ["many", "numbers"] (Zf false Qzt):=by
 refine okQ false F QvN (λargs R EX h=>?_) (λcdv A outer s H E hr=>?_)
 ·obtain⟨n,o,rfl,_⟩:=h;rfl
 ·have hU:=Room.u60 hr;have hI:=Room.i60 hr;refine⟨_,JT (QbQ (QbD ["number", "numbers"] [none,some 1] (QbR (by rfl) T.range (qp 0)) (λcl ex s3 H3 C=>⟨(Y0 0 QtU rfl (Jp rfl) (JF rfl)),(Qf5 (Qcr Qme (Qzx hI) (qp 0) (qp 1) (by rfl))),(qv 0)⟩))),λargs R EX h=>?_⟩;obtain⟨n,o,rfl,n6,hR⟩:=h;refine⟨⟨by omega,by omega⟩,QxK (λd=>match d with | .int x=>if(!decide (x.toNat∈o))=true then some d else none | _=>none) (λd hd k1 k2 h1 h2=>?_) ?_⟩
  ·obtain⟨x,hx⟩:=QZ.mp hd;obtain⟨hx,rfl⟩:=Qcw hx;have h1:(if(!decide ((0+(x:Int)).toNat∈o))=true then some (Qh (0+(x:Int))) else none)=none->k1:=h1;have h2:∀e,(if(!decide ((0+(x:Int)).toNat∈o))=true then some (Qh (0+(x:Int))) else none)=some e->k2 e:=h2
   rw[show(0+(x:Int)).toNat=x by omega] at h1 h2;have ei:Qdf o=(o.map λ(y:Nat)=>(y:Int)).map Qh:=by unfold Qdf;rw[Jo];rfl
   refine⟨⟨by rw[ei];exact Qgg _,rfl,by show Qbg (.int _)<=50;unfold Qbg;decide⟩,?_⟩;show if(!(Qdf o).any λe=>JD e (.int (0+(x:Int))))=true then _ else k1
   rw[ei,QuM];have em:decide (0+(x:Int)∈o.map λ(y:Nat)=>(y:Int))=decide (x∈o):=decide_eq_decide.mpr (by
    rw[QL];constructor
    ·rintro⟨y,hy,e⟩;have e:(y:Int)=0+(x:Int):=e;rw[show x=y by omega];exact hy
    ·intro hx;exact⟨x,hx,by show(x:Int)=0+x;omega⟩)
   rw[em];by_cases z:(!decide (x∈o))=true
   ·rw[if_pos z];exact h2 _ (if_pos z)
   ·rw[if_neg z];exact h1 (if_neg z)
  ·have er:(QlG 0 ((n:Nat):Int).toNat).filterMap (λd=>match d with | .int x=>if(!decide (x.toNat∈o))=true then some d else none | _=>none)=Qdf (oth n o):=by
    unfold QlG Qdf oth;rw[ZR,Qbr];refine Qum (p:=λx => !decide (x∈o)) λx _=>?_
    show(if(!decide ((0+(x:Int)).toNat∈o))=true then some (Qh (0+(x:Int))) else none)=if(!decide (x∈o))=true then some (Qh (x:Int)) else none
    rw[show(0+(x:Int)).toNat=x by omega,show(0:Int)+(x:Int)=(x:Int) by omega]
   rw[er];exact hR
theorem Qjy:(["order", "number", "many"]:List Str).Nodup:=by decide +kernel
theorem Qf1:JA ["many", "orders", "step"] ["many"] (Qx Qki):=⟨rfl,rfl,rfl,by decide +kernel,rfl,by decide +kernel,by decide +kernel⟩
theorem QtK{f f1  : Addr}{fd fd1:QP}(F:Fun K "all_orders" "all_orders" Qki f fd)(T:GlbA mg)
  (m1:mg "others" = some (.ref f1))(G1:FnOk P w K mg base CX0 1 f1 fd1 ["many", "numbers"] (Zf false Qzt))(b1:Binds K fd1 ["many", "numbers"] [])(k1:PySem.W.keepIn K (.ref f1)=true) :
  FnOk P w K mg base CX0 2 f fd ["many"] (Zf true Qtw):=by
 refine okQ true F Qf1 (λargs R EX h=>?_) (λcdv A outer s H E hr=>?_)
 ·obtain⟨n,rfl,_⟩:=h;rfl
 ·have hU:=Room.u60 hr;have hI:=Room.i60 hr;refine⟨_,Je (Qis 1 (Qd8 (QaG (Z9 (Qd6 J6)) J6)) Qf1.nd)
   (Je (Qhb Qad rfl (QbR (by rfl) T.range (qp 0)) (Y0 2 Qf1.nd rfl (by first | exact Jp rfl | exact JF rfl))
    (JT (QlO ["order", "number", "many"] [none,none,some 0] 1 Qf1.nd (QjI 0) (QeA (qp 1)) (λcl ex s3 H3 C=>⟨(Y0 0 Qjy rfl (Jp rfl) (JF rfl)),Qao,(QeA (ZX G1 (hr.mono (by decide)) (by rfl) m1 k1 b1 Yb (YL (qv 2) (YL (qv 0) JV)))),(Y0 1 Qjy rfl (Jp rfl) (JF rfl)),Qao,(Z9 (Y8 YH QaC (qp 0) (Jm (Qd6 (QaG (qv 1) J6)))))⟩))))
   (JT (QlN 1))),λargs R EX h=>?_⟩
  obtain⟨n,rfl,n6,hR⟩:=h;have eG:∀i,((ordsN n i).map tNn).flatMap (λd=>match d with | .tuple ds=>(oth n (ds.map λe=>(toI e).toNat)).map λx=>Zm (ds++[.int (x:Nat)]) | _=>[])=(ordsN n (i+1)).map tNn:=λi=>by
   show _=((ordsN n i).flatMap λo=>(oth n o).map λx=>o++[x]).map tNn;rw[Qsk,Qsj];refine Qfz λo _=>?_
   show(oth n ((Qdf o).map λe=>(toI e).toNat)).map (λx=>Zm (Qdf o++[.int (x:Nat)]))=((oth n o).map λx=>o++[x]).map tNn;rw[Qja,Jo];refine J5 λx _=>?_
   show _=Zm (Qdf (o++[x]));unfold Qdf;rw[Zu];rfl
  refine⟨⟨by omega,by omega⟩,QiN (λi δ=>∃ds x2,δ=[.v (.int n),.own ds,x2]/\ds=(ordsN n i).map tNn) ⟨_,_,rfl,rfl⟩ ?_ ?_⟩
  ·rintro i δ hi ⟨ds,x2,rfl,rfl⟩;rw[ZR] at hi;refine Qni (λd=>match d with | .tuple ds=>(oth n (ds.map λe=>(toI e).toNat)).map λx=>Zm (ds++[.int (x:Nat)]) | _=>[]) 50000 (by rw[eG,Qe];exact Qo7 n6 (i+1) (by omega)) (λd hd acc N hb hN=>?_) ?_
   ·obtain⟨o,ho,rfl⟩:=QL.mp hd;have lo:=QcX ho;have hb:acc.length+((oth n ((Qdf o).map λe=>(toI e).toNat)).map λx=>Zm (Qdf o++[.int (x:Nat)])).length<=50000:=hb;have hN:N (acc++(oth n ((Qdf o).map λe=>(toI e).toNat)).map λx=>Zm (Qdf o++[.int (x:Nat)])):=hN;rw[Qja] at hb hN;rw[Qe] at hb;have l1:(Qdf o).length=o.length:=by unfold Qdf;exact Qe _
    have l2:(Qdf (oth n o)).length=(oth n o).length:=by unfold Qdf;exact Qe _
    refine⟨_,_,rfl,n6,Qxi (λd=>.tuple (Qdf o++[d])) (by rw[l2];exact Z7 hb (by decide)) (λd hd k2 hk=>?_) ?_⟩
    ·exact⟨by rw[l1];show _+1<=_;omega,hk⟩
    ·have e:(Qdf (oth n o)).map (λd=>Zm (Qdf o++[d]))=(oth n o).map λx=>Zm (Qdf o++[.int (x:Nat)]):=by
      conv=>lhs;unfold Qdf
      rw[Jo];rfl
     rw[e];exact hN
   ·rw[eG];exact⟨_,_,rfl,rfl⟩
  ·rintro δ ⟨ds,x2,rfl,rfl⟩;rw[ZR];exact hR
theorem Qmp:(["place", "at", "put"]:List Str).Nodup:=by decide +kernel
theorem QvO:JA ["put", "order"] ["put", "order"] (Qx sNBy):=⟨rfl,rfl,rfl,by decide +kernel,rfl,by decide +kernel,by decide +kernel⟩
theorem QwV{f   : Addr}{fd  : QP}(F:Fun K "numbers_by" "numbers_by" sNBy f fd)(T:GlbA mg) :
  FnOk P w K mg base CX0 1 f fd ["put", "order"] (Zf false Qyi):=by
 refine okQ false F QvO (λargs R EX h=>?_) (λcdv A outer s H E hr=>?_)
 ·obtain⟨hs,o,rfl,_⟩:=h;rfl
 ·have hU:=Room.u60 hr;have hI:=Room.i60 hr;refine⟨_,JT (QbQ (Qej Qct QjV (by rfl) T.tuple Qgz (QdU (Jm (QbD ["place", "at", "put"] [none,none,some 0] (Qf9 (by rfl) T.enumerate (qp 1)) (λcl ex s3 H3 C=>⟨(QeB rfl (Qah 0 (Qah 1 QeC Qmp rfl (Jp rfl) (JF rfl)) Qmp rfl (Jp rfl) (JF rfl))),Qao,(Z9 (Y8 YH QaC (J7 (Qov QcY Qge (qp 2) (qp 1) (λ_ _=>rfl))) (qp 0)))⟩))) J6))),λargs R EX h=>?_⟩;obtain⟨hs,o,rfl,o6,hb,hR⟩:=h;refine Qcs (λd=>match d with | .tuple [.int p,.int a]=>.int (hs.getD a.toNat 0+p) | _=>.none) (λd hd k2 hk=>?_) ?_
  ·obtain⟨i,hi⟩:=QZ.mp hd;obtain⟨e,he,rfl⟩:=Qce hi;obtain⟨x,hx,rfl⟩:=QL.mp (QK he);have hx:=hb x hx;refine⟨rfl,.int (hs.getD x 0),Ys (j:=x) ?_,hk⟩;rw[Qz,Qf hx,Qi,Qf hx];rfl
  ·rw[Quq];exact hR
theorem Qjx:(["size", "many", "number"]:List Str).Nodup:=by decide +kernel
theorem Qjw:(["many", "more"]:List Str).Nodup:=by decide +kernel
theorem QlF:JA ["told", "number", "with_rook"] ["told", "number"] (Qx Qkh):=⟨rfl,rfl,rfl,by decide +kernel,rfl,by decide +kernel,by decide +kernel⟩
theorem QtJ{f   : Addr}{fd  : QP}(F:Fun K "counts_with_column" "counts_with_column" Qkh f fd)(T:GlbA mg) :
  FnOk P w K mg base CX0 1 f fd ["told", "number"] (Zf true QuG):=by
 refine okQ true F QlF (λargs R EX h=>?_) (λcdv A outer s H E hr=>?_)
 ·obtain⟨t,n,rfl,_⟩:=h;rfl
 ·have hU:=Room.u60 hr;have hI:=Room.i60 hr;refine⟨_,Je (QsR ["size", "many", "number"] [none,none,some 1] 2 QlF.nd (Qou (by rfl) T.enumerate (qp 0)) (λcl ex s3 H3 C=>⟨(QeB rfl (Qah 0 (Qah 1 QeC Qjx rfl (Jp rfl) (JF rfl)) Qjx rfl (Jp rfl) (JF rfl))),Qao,(Z9 (Y8 Qgd Qjt (qp 1) (Jm (Y8 Qjq Qmm (qp 2) (qp 0)))))⟩))
   (JT (QbQ (QbD ["many", "more"] [none,none] (QsS (by rfl) T.zip (Jm (Y8 YH QaC (qp 0) (Jm (Qd8 (QaG Zg J6))))) (Jm (Y8 YH QaC (Jm (Qd8 (QaG Zg J6))) (qp 2)))) (λcl ex s3 H3 C=>⟨(QeB rfl (Qah 0 (Qah 1 QeC Qjw rfl (Jp rfl) (JF rfl)) Qjw rfl (Jp rfl) (JF rfl))),Qao,(Z9 (Y8 YH QaC (qp 0) (qp 1)))⟩)))),λargs R EX h=>?_⟩
  obtain⟨t,n,rfl,hl,n0,n6,hR⟩:=h;have lt:(t.map Qh).length=t.length:=Qe _;refine Qcs (λd=>match d with | .tuple [.int s,.int m]=>.int (m*(n - s)) | _=>.none) (λd hd k2 hk=>?_) ?_
  ·obtain⟨i,hi⟩:=QZ.mp hd;obtain⟨e,he,rfl⟩:=Qce hi;have hil:=(QM.mp he).1;obtain⟨m,_,rfl⟩:=QL.mp (QK he);exact⟨rfl,.inl (.inr (by show -(2^64:Int)<n - (i:Int)/\n - (i:Int)<2^64;omega)),hk⟩
  ·rw[Qup];refine⟨by rw[lt];show _+1<=_;omega,by rw[Qe,Qlf];show 1+_<=_;omega,Qcs (λd=>match d with | .tuple [.int a,.int b]=>.int (a+b) | _=>.none) (λd hd k2 hk=>?_) ?_⟩
   ·obtain⟨i,hi⟩:=QZ.mp hd;obtain⟨a,b,ha,hb,rfl⟩:=Dl.zip_get hi;have ia:∃x,a=.int x:=by
     rcases Js.mp (QK ha) with z | z
     ·obtain⟨x,_,rfl⟩:=QL.mp z;exact⟨x,rfl⟩
     ·exact⟨0,Jj.mp z⟩
    have ib:∃x,b=.int x:=by
     rcases Js.mp (QK hb) with z | z
     ·exact⟨0,Jj.mp z⟩
     ·obtain⟨x,_,rfl⟩:=QL.mp z;exact⟨x,rfl⟩
    obtain⟨x,rfl⟩:=ia;obtain⟨y,rfl⟩:=ib;exact⟨rfl,hk⟩
   ·rw[Qvo];exact hR
theorem QfZ:JA ["stairs", "told", "number"] ["stairs"] (Qx Qg7):=⟨rfl,rfl,rfl,by decide +kernel,rfl,by decide +kernel,by decide +kernel⟩
theorem QtI{f f1 f2  : Addr}{fd fd1 fd2:QP}(F:Fun K "head_counts" "head_counts" Qg7 f fd)(T:GlbA mg)
  (m1:mg "refuse_no_stairs" = some (.ref f1))(G1:FnOk P w K mg base CX0 4 f1 fd1 ["stairs"] (Zf false Qir))(b1:Binds K fd1 ["stairs"] [])(k1:PySem.W.keepIn K (.ref f1)=true)
  (m2:mg "counts_with_column" = some (.ref f2))(G2:FnOk P w K mg base CX0 1 f2 fd2 ["told", "number"] (Zf true QuG))(b2:Binds K fd2 ["told", "number"] [])(k2:PySem.W.keepIn K (.ref f2)=true) :
  FnOk P w K mg base CX0 5 f fd ["stairs"] (Zf true QAl):=by
 refine okQ true F QfZ (λargs R EX h=>?_) (λcdv A outer s H E hr=>?_)
 ·obtain⟨ns,rfl,_⟩:=h;rfl
 ·have hU:=Room.u60 hr;have hI:=Room.i60 hr;refine⟨_,Je (Qax (J7 (ZX G1 (hr.mono (by decide)) (by rfl) m1 k1 b1 Yb (YL (qv 0) JV))))
   (Je (Qis 1 (Qd8 (QaG Zg J6)) QfZ.nd)
   (Je (Qhb Qad rfl (Qrs (qv 0)) (Y0 2 QfZ.nd rfl (by first | exact Jp rfl | exact JF rfl))
    (JT (Qis 1 (QsW G2 (hr.mono (by decide)) (by rfl) m2 k2 b2 Yb (QdU (qp 1) (QdU (qp 2) J6))) QfZ.nd)))
   (JT (QlN 1)))),λargs R EX h=>?_⟩
  obtain⟨ns,rfl,hs,hR⟩:=h;have l6:=hs.l6;refine⟨ns,rfl,hs,?_⟩;refine Qhz (λi δ=>∃x2,δ=[.v (tI ns),.own (((ns.take i).foldl ccI [1]).map Qh),x2]) ⟨_,rfl⟩ ?_ ?_
  ·rintro i d δ hd ⟨x2,rfl⟩;rw[Qz] at hd;obtain⟨m,hm,rfl⟩:∃m,ns[i]? = some m/\d=.int m:=by
    cases z:ns[i]? with
    |none=>rw[z] at hd;cases hd
    |some r=>rw[z] at hd;cases hd;exact⟨r,rfl,rfl⟩
   have hb:=hs.bd m (QK hm);have hl:=QrM (ns.take i) [1];have ht:(ns.take i).length<=ns.length:=by rw[Jr];omega
   have hl:((ns.take i).foldl ccI [1]).length=(ns.take i).length+1:=by rw[hl];rfl
   refine⟨_,m,rfl,by omega,hb.1,hb.2,QkF _,⟨.v (.int m),?_⟩⟩;rw[ZO,hm,List.foldl_append];rfl
  ·rintro δ ⟨x2,rfl⟩;rw[Qe,ZJ];exact hR
theorem QfX:JA ["stairs", "number", "told", "head"] ["stairs", "number"] (Qx Qg6):=⟨rfl,rfl,rfl,by decide +kernel,rfl,by decide +kernel,by decide +kernel⟩
theorem QtF{f f1 f2 f3  : Addr}{fd fd1 fd2 fd3:QP}(hB:∃t,mg "MOST_TAKEN" = some (.int 1000000000 t))(F:Fun K "product_at" "product_at" Qg6 f fd)(T:GlbA mg)
  (m1:mg "refuse_no_stairs" = some (.ref f1))(G1:FnOk P w K mg base CX0 4 f1 fd1 ["stairs"] (Zf false Qir))(b1:Binds K fd1 ["stairs"] [])(k1:PySem.W.keepIn K (.ref f1)=true)
  (m2:mg "is_whole_within" = some (.ref f2))(G2:FnOk P w K mg base CX0 2 f2 fd2 ["thing", "least", "most"] (Zf false Qev))(b2:Binds K fd2 ["thing", "least", "most"] [])(k2:PySem.W.keepIn K (.ref f2)=true)
  (m3:mg "heads" = some (.ref f3))(G3:FnOk P w K mg base CX0 5 f3 fd3 ["stairs"] (Zf true Qhy))(b3:Binds K fd3 ["stairs"] [])(k3:PySem.W.keepIn K (.ref f3)=true) :
  FnOk P w K mg base CX0 6 f fd ["stairs", "number"] (Zf false Qs3):=by
 refine okQ false F QfX (λargs R EX h=>?_) (λcdv A outer s H E hr=>?_)
 ·obtain⟨ns,x,rfl,_⟩:=h;rfl
 ·obtain⟨tB,mB⟩:=hB;have hU:=Room.u60 hr;have hI:=Room.i60 hr;refine⟨_,Je (Qax (J7 (ZX G1 (hr.mono (by decide)) (by rfl) m1 k1 b1 Yb (YL (qv 0) JV))))
   (Je (Qd5 (Qfo (Qez (J7 (ZX G2 (hr.mono (by decide)) (by rfl) m2 k2 b2 Yb (YL (qv 1) (YL Zg (YL (Qjh 1000000000 (by rfl) mB ⟨_,rfl⟩) JV))))))) Qag Qaw)
   (Je (QaB 2 Zg QfX.nd)
   (Je (Qhb Qad rfl (QeA (Z9 (Yr G3 (hr.mono (by decide)) (by rfl) m3 k3 b3 Yb (YL (qv 0) JV)))) (Y0 3 QfX.nd rfl (by first | exact Jp rfl | exact JF rfl))
    (JT (Qv7 2 (QzC Qud) QtM (Jm (Y8 YH QaC (qp 1) (qp 3))) QfX.nd)))
   (JT (QaN (qv 2)))))),λargs R EX h=>?_⟩
  obtain⟨ns,x,rfl,hs,x0,x9,hR⟩:=h;refine⟨ns,rfl,hs,_,_,_,rfl,?_⟩;rw[show inW (.int x) 0 1000000000=true from Qxk x0 x9];refine⟨ns,rfl,hs,λms pm pw=>?_⟩;refine Qhz (λi δ=>∃x3,δ=[.v (tI ns),.v (.int x),.v (.int (prI x (ms.take i))),x3]) ⟨_,rfl⟩ ?_ ?_
  ·rintro i d δ hd ⟨x3,rfl⟩;obtain⟨m,hm,rfl⟩:=int_at hd;have hb:=QzH hs (pm.mem_iff.mp (QK hm));refine⟨.inr ⟨by omega,by omega⟩,.v (.int m),?_⟩;rw[ZO,hm,QlV];show _=[_,_,Sl.v (.int (prI x (ms.take i)*((x+m)*1))),_];rw[Int.mul_one];rfl
  ·rintro δ ⟨x3,rfl⟩;rw[Qe,ZJ,QoE x pm];exact hR
end
end Rk
namespace Rk
open L2 _root_.Rd
open Rt Dl Zt
def Qrk:Sp:=λvs H Q _=>∃(a:Addr)(ns hs:List Int),vs=[.ref a]/\H a=some (.tup (ns.map V.int))/\Qaj ns/\hs.Perm (hdL ns)/\hs.Pairwise (·<=·)/\∀(t:Addr)(ys:List V)(rows:List (List Int))(H':Hp),Same H H'->H t=none->H' t=some (.lst ys)->Dats H' ys (rows.map tI)->rows.Nodup->(∀x,x∈rows↔(∃o∈ordsN ns.length ns.length,nbI hs o=x)/\okR x=true)->(rows.map tI).Pairwise (λa b=>ltD b a=false)->Q (.ref t) H'
theorem Qo8:∀m:Fin 7,(ordsN m.val m.val).length<=720:=by decide +kernel
theorem Qmb{m:Nat}(h:m<=6):(ordsN m m).length<=720:=Qo8 ⟨m,by omega⟩
theorem QmQ{α:Type}{l:List α}{i:Nat}{d:α}(h:i<l.length):l.getD i d∈l:=by
 rw[Qi,Qf h];exact Qaf h
def unT:Qb->List Int
 |.tuple ds=>ds.map toI
 |_=>[]
theorem Qi7(x:List Int):unT (tI x)=x:=by
 show(x.map Qh).map toI=x;rw[Jo]
 conv=>rhs;rw[<- Qbe x]
 exact J5 λ_ _=>rfl
theorem Qss{L:List (List Int)}{es:List Qb}(h:es.Perm (L.map tI)):∃rows:List (List Int),es=rows.map tI/\rows.Perm L:=by
 refine⟨es.map unT,?_,?_⟩
 ·rw[Jo]
  conv=>lhs;rw[<- Qbe es]
  refine J5 λd hd=>?_
  obtain⟨x,_,rfl⟩:=QL.mp (h.mem_iff.mp hd);exact(congrArg tI (Qi7 x)).symm
 ·have:=h.map unT;rw[Jo] at this;rw[show L.map (unT∘tI)=L by
                   conv=>rhs;rw[<- Qbe L]
                   exact J5 λx _=>Qi7 x] at this
  exact this
theorem QjW{fr:Bool}{fD:DF}{vs:List V}{H:Hp}{Q:VK}{Ex:XK}(ds:List Qb)(R:Qb->Prop)(hv:DAs (λ_=>False) H vs ds)(hf:fD (ds.map Sl.v) R XF)(k:∀d,R d->∀v H',Same H H'->DA (λ_=>False) H' v d->(fr=true->FrV H H' v)->Q v H'):Zf fr fD vs H Q Ex:=by
 refine⟨λ_=>False,λ_=>False,ds.map Sl.v,R,XF,λ_ z=>z.elim,λ_ z=>z.elim,?_,hf,λd hd v H' kq da hfr=>k d hd v H' (λb o e=>kq.1 b o (λz=>z) e) da hfr,λC z=>z.elim⟩;clear hf k;induction vs generalizing ds with
 |nil=>cases hv;exact .nil
 |cons v vs ih=>cases hv with
  |cons q qs=>exact .cons q (ih _ qs)
theorem Qxy{H:Hp}{a:Addr}{ns:List Int}(h:H a=some (.tup (ns.map V.int))):DA (λ_=>False) H (.ref a) (tI ns):=.tup (λz=>z) h (Qcc ns)
theorem daL{A:Addr->Prop}{H:Hp}{v:V}{ds:List Qb}(h:DA A H v (.list ds)):∃l xs,v=.ref l/\H l=some (.lst xs)/\DAs A H xs ds:=by
 cases h with
 |lst n e q=>exact⟨_,_,rfl,e,q⟩
theorem daT{A:Addr->Prop}{H:Hp}{v:V}{ds:List Qb}(h:DA A H v (.tuple ds)):∃l xs,v=.ref l/\H l=some (.tup xs)/\DAs A H xs ds:=by
 cases h with
 |tup n e q=>exact⟨_,_,rfl,e,q⟩
theorem Qoa{a b:List Int}(p:a.Perm b)(h1:a.Pairwise (·<=·))(h2:b.Pairwise (·<=·)):a=b:=Qff (le:=λa b=>a<=b) (λa b _ _ h1 h2=>Qvh h1 h2) h1 h2 p
theorem Qm9{A:Addr->Prop}{H:Hp}:∀{xs:List V}{ds:List Qb},DAs A H xs ds->∀(i:Nat)(d:Qb),ds[i]? = some d->∃x,xs[i]? = some x/\DA A H x d
 |_,_,.nil,i,d,h=>by simp at h
 |_,_,.cons q qs,0,d,h=>by simp at h;subst h;exact⟨_,rfl,q⟩
 |_,_,.cons q qs,i+1,d,h=>by
  simp only[Yk] at h;obtain⟨x,e,q⟩:=Qm9 qs i d h;exact⟨x,by simpa using e,q⟩
structure Sg (P:QC) (W:Ja) (H0 H:Hp) (p:Addr) (M:List (List Int)) (ps:List (List Int×Addr)):Prop where
 at_:H p=some (.ext (QfW P W p ps (ledOf W)))
 kp:∀b o,b≠p->H0 b=some o->H b=some o
 mem:∀q∈ps,H q.2=some (.tup (q.1.map V.int))
 nd:(ps.map (·.1)).Nodup
 iff_:∀x,x∈ps.map (·.1)↔x∈M
 len:ps.length<=M.length
theorem Sg.more{P:QC}{W:Ja}{H0 H H5:Hp}{p b:Addr}{M:List (List Int)}{ks:List Int}{ps:List (List Int×Addr)}(g:Sg P W H0 H p M ps)(s5:Same H H5)(eb:H5 b=some (.tup (ks.map V.int))):(ks∈ps.map (·.1)->Sg P W H0 (upd H5 p (.ext (QfW P W p ps (ledOf W)))) p (M++[ks]) ps)/\(ks∉ps.map (·.1)->∀ps',ps'.Perm ((ks,b)::ps)->Sg P W H0 (upd H5 p (.ext (QfW P W p ps' (ledOf W)))) p (M++[ks]) ps'):=by
 have np:∀(c:Addr)(xs:List V),H5 c=some (.tup xs)->c≠p:=λc xs e z=>by
  subst z;rw[s5 _ _ g.at_] at e;cases e
 refine⟨λhm=>{ at_:=JB,kp:=λc o nc ec=>by rw[JG nc];exact s5 _ _ (g.kp _ _ nc ec),mem:=λq hq=>?_,nd:=g.nd,iff_:=λx=>?_,len:=?_ },λhm ps' pp=>{ at_:=JB,kp:=λc o nc ec=>by rw[JG nc];exact s5 _ _ (g.kp _ _ nc ec),mem:=λq hq=>?_,nd:=?_,iff_:=λx=>?_,len:=?_ }⟩
 ·have e:=s5 _ _ (g.mem q hq);rw[JG (np _ _ e)];exact e
 ·rw[Js,Jj,<- g.iff_];exact⟨.inl,λh=>h.elim id λe=>e ▸ hm⟩
 ·have:=g.len;rw[Qw];omega
 ·rcases Qv.mp (pp.mem_iff.mp hq) with z | z
  ·subst z;rw[JG (np _ _ eb)];exact eb
  ·have e:=s5 _ _ (g.mem q z);rw[JG (np _ _ e)];exact e
 ·exact((pp.map (·.1)).nodup_iff).mpr (YI.mpr ⟨hm,g.nd⟩)
 ·rw[(pp.map (·.1)).mem_iff,Jd,Qv,Js,Jj,<- g.iff_];exact⟨λh=>h.symm,λh=>h.symm⟩
 ·have:=g.len;rw[pp.length_eq,Qw,Qy];simp;omega
section
variable{P:QC}{w:Ja}{K:PySem.W.Frag}{mg:Str->Option Value}{base:Heap}
theorem Qms:(["order", "put"]:List Str).Nodup:=by decide +kernel
theorem Qmr:(["numbers"]:List Str).Nodup:=by decide +kernel
theorem Qf0:JA ["stairs", "put", "found"] ["stairs"] (Qx Qf2):=⟨rfl,rfl,rfl,by decide +kernel,rfl,by decide +kernel,by decide +kernel⟩
theorem Qpg{f f1 f2 f3 f4  : Addr}{fd fd1 fd2 fd3 fd4:QP}(F:Fun K "all_stairs" "all_stairs" Qf2 f fd)(T:GlbA mg)
  (m1:mg "heads" = some (.ref f1))(G1:FnOk P w K mg base CX0 5 f1 fd1 ["stairs"] (Dl.Zf true Qhy))(b1:Binds K fd1 ["stairs"] [])(k1:PySem.W.keepIn K (.ref f1)=true)
  (m2:mg "numbers_by" = some (.ref f2))(G2:FnOk P w K mg base CX0 1 f2 fd2 ["put", "order"] (Dl.Zf false Qyi))(b2:Binds K fd2 ["put", "order"] [])(k2:PySem.W.keepIn K (.ref f2)=true)
  (m3:mg "all_orders" = some (.ref f3))(G3:FnOk P w K mg base CX0 2 f3 fd3 ["many"] (Dl.Zf true Qtw))(b3:Binds K fd3 ["many"] [])(k3:PySem.W.keepIn K (.ref f3)=true)
  (m4:mg "is_never_falling" = some (.ref f4))(G4:FnOk P w K mg base CX0 1 f4 fd4 ["things"] (Dl.Zf false Qhm))(b4:Binds K fd4 ["things"] [])(k4:PySem.W.keepIn K (.ref f4)=true) :
  FnOk P w K mg base CX0 6 f fd ["stairs"] Qrk:=by
 refine F.ok Qf0 (λvs H Q E h=>?_) (λcdv A outer s H vs Q E hr h=>?_)
 ·obtain⟨a,ns,hs,rfl,_⟩:=h;rfl
 ·obtain⟨a,ns,hs,rfl,ha,hst,hp,hw,k⟩:=h;have un:=hr.units;have hU6:(A.deeper (envOfC "all_stairs" (Qx Qf2) s.heap.objs.size f cdv)).units+60<cLine:=by omega
  refine⟨_,ZM (QaO (i:=1) Qf0.nd rfl (by first | exact Jp rfl | exact JF rfl) (QbT G1 (hr.mono (by decide)) (by rfl) m1 k1 b1 .nil Qo5 (YG (pv 0) ZP)))
   (ZM (Qoz (i:=2) (M:=["order", "put"]) (cap:=[none,some 1]) (g:=(Qd9 0)) (tc:=Qif) (te:=(Qlq (Dl.Zf false Qyi) [] E0 (Qe8 (QhZ 1) (Qe8 (QhZ 0) Qsx)))) Qf0.nd rfl rfl hU6 rfl (by rfl) (Qit (QbT G3 (hr.mono (by decide)) (by rfl) m3 k3 b3 .nil Qo5 (YG (Qa2 Qa4 (by rfl) T.len Qb0 (YG (pv 0) ZP)) ZP))) (λcl ex s3 H3 C=>⟨(QeE (i:=0) Qms rfl (Jp rfl) (JF rfl)),QlT,(QbT G2 (hr.mono (by decide)) (by rfl) m2 k2 b2 .nil Qo5 (YG (pv 1) (YG (pv 0) ZP)))⟩))
   (Qbb (QbS (Qjn (M:=["numbers"]) (cap:=[none]) (g:=(Qd9 0)) (tc:=(QzX (Qsv (tOp (rI0 λi j=>.bl (decide (j<=i))) (tOp (Qza K) (QhZ 0) (tC (.int 0))) (tC (.int 0)))) (tB (Qlq (Dl.Zf false Qhm) [] E0 (Qe8 (QhZ 0) Qsx))))) (te:=(QhZ 0)) rfl (by rfl) (Qit (Qa2 (QkH rfl hU6) (by rfl) T.sorted L2.boot_sorted (YG (pv 2) ZP))) (λcl ex s3 H3 C=>⟨(QeE (i:=0) Qmr rfl (Jp rfl) (JF rfl)),(QlS (PW.pt (Qwb (QeD QwK (Qiu QrG (pv 0) Yl (λ_ _=>rfl)) Yl (Qai _)) (QsY (QlU (QbT G4 (hr.mono (by decide)) (by rfl) m4 k4 b4 .nil Qo5 (YG (pv 0) ZP))))))),(pv 0)⟩))))),?_⟩
  have l6:=hst.l6;have l1:=hst.l1;refine⟨_,rfl,QjW [tI ns] (λd=>d=.list (hs.map Qh)) (.cons (Qxy ha) .nil) ⟨ns,rfl,hst,λms pm pw=>?_⟩ λd hd v H1 s1 da _=>?_⟩
  ·rw[Qoa (pm.trans hp.symm) pw hw]
  subst hd;obtain⟨p1,x1,rfl,e1,q1⟩:=daL da;rw[Qcf q1] at e1;refine⟨_,rfl,a,_,rfl,.inr (SqT.of (s1 _ _ ha)),QjW [.int ns.length] (λd=>d=.list ((ordsN ns.length ns.length).map tNn)) (by rw[Qe];exact .cons (.int _) .nil) ⟨ns.length,rfl,l6,rfl⟩ λd hd v H2 s2 da2 _=>?_⟩;subst hd;obtain⟨p2,x2,rfl,e2,q2⟩:=daL da2;have lx:=q2.length;rw[Qe] at lx;have ln:hs.length=ns.length:=by rw[hp.length_eq];unfold hdL;rw[Qe,QN]
  refine⟨p2,rfl,⟨_,SqL.of e2⟩,λp np=>?_⟩;have pp2:p2≠p:=Zp e2 np;have pp1:p1≠p:=Zp (s2 _ _ e1) np;have few:=Qmb l6;refine Qdy x2.length (λi H3=>∃ps,Sg P w H2 H3 p (((ordsN ns.length ns.length).take i).map (nbI hs)) ps) ⟨[],{ at_:=JB,kp:=λb o nb eb=>by rw[JG nb];exact eb,mem:=λq hq=>(nomatch hq),nd:=Qve,iff_:=λx=>by simp,len:=Qu _ }⟩ (λi H3 hi ⟨ps,g⟩=>?_) λH3 ⟨ps,g⟩=>⟨⟨x2,SqL.of (g.kp _ _ pp2 e2),Qj _⟩,?_⟩
  ·have e23:=g.kp _ _ pp2 e2;obtain⟨o,ho⟩:∃o,(ordsN ns.length ns.length)[i]? = some o:=⟨_,Qf (by omega)⟩
   obtain⟨x,hx,dx⟩:=Qm9 q2 i (tNn o) (by rw[Qz,ho];rfl);refine⟨⟨x2,x,SqL.of e23,hx⟩,λy H4 ⟨eH,ey⟩ kk hk=>?_⟩;subst eH;have ey:=ey x2 (SqL.of e23);rw[hx] at ey;cases ey;have om:=QK ho;have ol:=QcX om;have dx3:DA (λ_=>False) H4 x (tNn o):=dx.mv (λb ob _ eb=>g.kp b ob (Zp eb np) eb) λb z=>z.elim
   have dp3:DA (λ_=>False) H4 (.ref p1) (.list (hs.map Qh)):=.lst (λz=>z) (g.kp _ _ pp1 (s2 _ _ e1)) (Qcc hs);have e:((ordsN ns.length ns.length).take (i+1)).map (nbI hs)=((ordsN ns.length ns.length).take i).map (nbI hs)++[nbI hs o]:=by rw[ZO,ho,Zu];rfl
   refine⟨⟨rfl,trivial⟩,QtP ⟨_,rfl,_,rfl,QjW [.list (hs.map Qh),tNn o] (λd=>d=tI (nbI hs o)) (.cons dp3 (.cons dx3 .nil)) ⟨hs,o,rfl,by omega,λz hz=>by rw[ln];exact Qiy om z hz,rfl⟩ λd hd v H5 s5 da5 _=>?_⟩⟩;subst hd;obtain⟨b,xb,rfl,eb,qb⟩:=daT da5;rw[Qcf qb] at eb;have gl:=g.len;rw[Qe,Jr] at gl;obtain⟨ga,gb⟩:=g.more s5 eb;rw[<- e] at ga gb;exact⟨nbI hs o,b,ps,rfl,s5 _ _ g.at_,λq hq=>s5 _ _ (g.mem q hq),eb,by omega,λhm=>hk _ ⟨_,ga hm⟩,λhm ps' pp=>hk _ ⟨_,gb hm ps' pp⟩⟩
  ·have gl:=g.len;rw[Qe,Jr] at gl;refine⟨_,rfl,p,ps,rfl,by omega,g.at_,g.mem,λt ys es H4 s4 nt et dt pe pw _=>?_⟩;obtain⟨rw0,rfl,pr⟩:=Qss (L:=ps.map (·.1)) (es:=es) (by rw[Jo];exact pe);have yl:ys.length=rw0.length:=by have:=dt.length;rwa [Qe] at this
   have rl:rw0.length=ps.length:=by rw[pr.length_eq,Qe]
   have memR:∀x,x∈rw0↔∃o∈ordsN ns.length ns.length,nbI hs o=x:=λx=>by rw[pr.mem_iff,g.iff_,lx,ZJ,QL]
   refine⟨t,rfl,⟨_,SqL.of et⟩,λpl npl=>?_⟩;refine QpM rw0.length (Qt2 (by omega)) (λi=>if okR (rw0.getD i [])=true then some (Qhx (rw0.getD i [])) else none) (λi _ d e=>?_) npl (λi H5 hi s5 _=>?_) (λH5 s5=>⟨ys,SqL.of (s5 _ _ et),by omega⟩) λH5 zs s5 ez dz=>?_
   ·split at e
    ·cases e;exact Qmn _
    ·cases e
   ·have hi':i<ys.length:=by omega
    refine⟨⟨ys,ys[i],SqL.of (s5 _ _ et),Qf hi'⟩,λz H6 ⟨eH,ev⟩ kn kv h1 h2=>?_⟩;subst eH;obtain⟨_,t',rfl,et'⟩:=Qpu dt (ev ys (SqL.of (s5 _ _ et)));have et':=s5 _ _ et';obtain⟨c,cs,ec⟩:∃c cs,rw0.getD i []=c::cs:=by
     obtain⟨o,om,eo⟩:=(memR _).mp (QmQ (l:=rw0) (d:=[]) hi);have:=congrArg QgF eo;rw[QiD,QcX om] at this
     match rw0.getD i [],this with
     |[],h=>exact absurd (show ns.length=0 from h) (by omega)
     |c::cs,_=>exact⟨c,cs,rfl⟩
    have et2:=et';rw[ec] at et2;refine⟨trivial,_,rfl,t',_,0,.int c,rfl,rfl,SqT.of et2,Ys (j:=0) rfl,c,0,rfl,rfl,_,rfl,?_⟩;cases hc:decide (0<=c) with
    |false=>exact Qua (h1 (if_neg (by rw[ec];show ¬(decide (0<=c)&&nfI (c::cs))=true;rw[hc];exact QJ)) _ (Same.refl _))
    |true=>
     refine QrH ⟨_,rfl,QjW [tI (c::cs)] (λd=>d=.bool (nfI (c::cs))) (.cons (Qxy et2) .nil) ⟨_,rfl,rfl⟩ λd hd v H7 s7 da7 _=>?_⟩;subst hd;cases da7;refine⟨_,rfl,?_⟩;cases hn:nfI (c::cs) with
     |false=>exact Qua (h1 (if_neg (by rw[ec];show ¬(decide (0<=c)&&nfI (c::cs))=true;rw[hc,hn];decide)) _ s7)
     |true=>exact QrH ⟨_,rfl,h2 _ _ _ (if_pos (by rw[ec];show(decide (0<=c)&&nfI (c::cs))=true;rw[hc,hn];rfl)) s7 (QmH (s7 _ _ et'))⟩
   ·rw[Qha rw0 [] okR Qhx] at dz;have p24:∀(b:Addr)(o:HO),H b=some o->H4 b=some o:=λb o e=>s4 _ _ (g.kp _ _ (Zp (s2 _ _ (s1 _ _ e)) np) (s2 _ _ (s1 _ _ e)))
    have npl':H pl=none:=by
     cases e:H pl with
     |none=>rfl
     |some o=>have:=p24 _ _ e;rw[npl] at this;cases this
    refine k pl zs (rw0.filter okR) H5 (λb o e=>s5 _ _ (p24 _ _ e)) npl' ez dz (QbJ _ (pr.nodup_iff.mpr g.nd)) (λx=>?_) (QyI (List.Sublist.map _ List.filter_sublist) pw);rw[ZU,memR]
end
end Rk
namespace Rk
open L2 _root_.Rd
open Dl
open Rt
def QnE:DF:=λargs R _=>∃ns,args=[.v (tI ns)]/\Qaj ns/\∀rows,AllS ns rows->R (.list (rows.map tI))
def Qyk:DF:=λargs R _=>∃x:List Int,args=[.v (tI x)]/\R (.bool (Qip x))
def Qz3:DF:=λargs R _=>∃ns,args=[.v (tI ns)]/\Qaj ns/\∀x,Qu0 ns x->Qip x=true->R (tI x)
def Qy3:DF:=λargs R _=>∃ns ms,args=[.v (tI ns),.v (tI ms)]/\Qaj ns/\Qaj ms/\ns.length=ms.length/\R (.bool (decide (srtS (hdL ns)=srtS (hdL ms))))
theorem QjL:∀(ns ms:List Int),JD (.list (ns.map Qh)) (.list (ms.map Qh))=decide (ns=ms)
 |[],[]=>rfl
 |[],_::_=>rfl
 |_::_,[]=>rfl
 |n::ns,m::ms=>by
  show((n == m)&&JD (.list (ns.map Qh)) (.list (ms.map Qh)))=_;rw[QjL ns ms,Qaq];simp
theorem Qxu(ns:List Int):(QkV (ns.map Qh)).depth<=50:=by
 show Jl (ns.map Qh)+1<=50;have:=QcB (n:=0) (ds:=ns.map Qh) λd hd=>by obtain⟨p,_,rfl⟩:=QL.mp hd;exact Qj _
 omega
theorem QmV(p:List Int->Bool):∀rows:List (List Int),(rows.map tI).filterMap (λd=>if p (unT d)=true then some d else none)=(rows.filter p).map tI
 |[]=>rfl
 |x::r=>by
  rw[Jd,ZC,Qi7,QmV p r];cases h:p x with
  |true=>rw[Qi1 h];rfl
  |false=>rw[Qi2 (by rw[h];exact QJ)];rfl
theorem Qjf{A:Addr->Prop}{H:Hp}(dm:∀a,A a->∃xs,H a=some (.lst xs)):∀(rows:List (List Int))(ys:List V),Dats H ys (rows.map tI)->DAs A H ys (rows.map tI)
 |[],_,.nil=>.nil
 |x::r,_,.cons q qs=>by
  refine .cons ?_ (Qjf dm r _ qs)
  obtain⟨t,rfl,et⟩:=QhB (ns:=x) q;exact .tup (λz=>by obtain⟨xs,e'⟩:=dm _ z;rw[e'] at et;cases et) et (Qcc x)
theorem QxR{vs:List V}{H:Hp}{Q:VK}{Ex:XK}(h:Zf true QnE vs H Q Ex):Qrk vs H Q Ex:=by
 obtain⟨A,pt,args,R,EX,dm,hp,q,⟨ns,rfl,hs,hR⟩,k,_⟩:=h;cases q with
 |cons q1 q2=>
  cases q2;cases q1 with
  |@tup b xs ds nb e qq=>
   rw[Qcf qq] at e;have ln:(srtS (hdL ns)).length=ns.length:=by rw[(Yq _).length_eq,Qbw]
   refine⟨b,ns,srtS (hdL ns),rfl,e,hs,Yq _,Qdo _,λt ys rows H' s n e' dt nd im sr=>?_⟩;have al:AllS ns rows:=⟨nd,λx=>by
    rw[im x];have:=Qw2 (hs:=srtS (hdL ns)) (x:=x);rw[ln] at this;rw[this];exact⟨λz=>⟨z.1.trans (Yq _),z.2⟩,λz=>⟨z.1.trans (Yq _).symm,z.2⟩⟩,sr⟩
   have dm':∀a,A a->∃xs,H' a=some (.lst xs):=λa z=>by obtain⟨xs,e⟩:=dm a z;exact⟨xs,s _ _ e⟩
   refine k _ (hR rows al) _ H' ⟨λb o _ e=>s _ _ e,λp pp=>?_⟩ (.lst (λz=>by obtain⟨xs,e⟩:=dm _ z;rw[n] at e;cases e) e' (Qjf dm' rows ys dt)) λ_=>QaQ n
   obtain⟨_,m,em⟩:=hp p pp;exact⟨m,s _ _ em⟩
def Qop:Qb->Bool
 |.tuple [.int a,.int b]=>decide (b=0)||decide (a<b)
 |_=>false
theorem Qlb:∀ns:List Int,(QgJ (ns.map Qh) (Dl.cutD (ns.map Qh) (some 1) none)).all Qop=Qip ns
 |[]=>by
  have h:(QgJ ([]:List Qb) (Dl.cutD [] (some 1) none))=[]:=by unfold QgJ;rfl
  rw[Qe5,h];rfl
 |[x]=>by rw[Jd,QpL];rfl
 |x::y::r=>by
  have ih:=Qlb (y::r);rw[Jd,QpL] at ih ⊢;show(Qop (.tuple [.int x,.int y])&&(QgJ (Qh y::r.map Qh) (r.map Qh)).all Qop)=_;rw[ih];rfl
section
variable{P:QC}{w:Ja}{K:PySem.W.Frag}{mg:Str->Option Value}{base:Heap}
theorem Qmq:(["one", "other"]:List Str).Nodup:=by decide +kernel
theorem QvP:JA ["numbers"] ["numbers"] (Qx sIsR):=⟨rfl,rfl,rfl,by decide +kernel,rfl,by decide +kernel,by decide +kernel⟩
theorem QwX{f   : Addr}{fd  : QP}(F:Fun K "is_risen" "is_risen" sIsR f fd)(T:GlbA mg) :
  FnOk P w K mg base CX0 1 f fd ["numbers"] (Zf false Qyk):=by
 refine okQ false F QvP (λargs R EX h=>?_) (λcdv A outer s H E hr=>?_)
 ·obtain⟨x,rfl,_⟩:=h;rfl
 ·have hU:=Room.u60 hr;have hI:=Room.i60 hr;refine⟨_,JT (QbQ (YF Qgy (Qnn rfl) (by rfl) T.all Qns (QdU (Jm (QbD ["one", "other"] [none,none] (QlP (by rfl) T.zip (qp 0) (Jm (Qga (qp 0) (Qf7 (J7 Zg)) Qf8))) (λcl ex s3 H3 C=>⟨(QeB rfl (Qah 0 (Qah 1 QeC Qmq rfl (Jp rfl) (JF rfl)) Qmq rfl (Jp rfl) (JF rfl))),Qao,(QAf (Jm (Qkk Qjr (Qph hU) (qp 1) (J7 Zg) (Qai _))) (QlQ (Z9 (Qkk Qpa Qhj (qp 0) (qp 1) (Qai _)))))⟩))) J6))),λargs R EX h=>?_⟩;obtain⟨x,rfl,hR⟩:=h;refine Qcs (λd=>.bool (Qop d)) (λd hd k2 hk=>?_) (QiX (items:=QgJ (x.map Qh) (Dl.cutD (x.map Qh) (some 1) none)) rfl (by rw[Qlb];exact hR));obtain⟨i,hi⟩:=QZ.mp hd;obtain⟨a,b,ha,hb,rfl⟩:=Dl.zip_get hi;obtain⟨x,_,rfl⟩:=QL.mp (QK ha);obtain⟨y,_,rfl⟩:=QL.mp (QjP (QK hb));refine⟨rfl,?_⟩;have hk:k2 (.bool (decide (y=0)||decide (x<y))):=hk;show if decide (y=0)=true then k2 (.bool true) else k2 (.bool (decide (x<y)))
  cases z:decide (y=0) with
  |true=>rw[z] at hk;exact QrH hk
  |false=>rw[z] at hk;exact Qua hk
theorem QtS:(["numbers"]:List Str).Nodup:=by decide +kernel
theorem QvK:JA ["stairs"] ["stairs"] (Qx QdS):=⟨rfl,rfl,rfl,by decide +kernel,rfl,by decide +kernel,by decide +kernel⟩
theorem QwQ{f f1 f2  : Addr}{fd fd1 fd2:QP}(F:Fun K "risen" "risen" QdS f fd)(T:GlbA mg)
  (m1:mg "all_stairs" = some (.ref f1))(G1:FnOk P w K mg base CX0 6 f1 fd1 ["stairs"] (Zf true QnE))(b1:Binds K fd1 ["stairs"] [])(k1:PySem.W.keepIn K (.ref f1)=true)
  (m2:mg "is_risen" = some (.ref f2))(G2:FnOk P w K mg base CX0 1 f2 fd2 ["numbers"] (Zf false Qyk))(b2:Binds K fd2 ["numbers"] [])(k2:PySem.W.keepIn K (.ref f2)=true) :
  FnOk P w K mg base CX0 7 f fd ["stairs"] (Zf false Qz3):=by
 refine okQ false F QvK (λargs R EX h=>?_) (λcdv A outer s H E hr=>?_)
 ·obtain⟨ns,rfl,_⟩:=h;rfl
 ·have hU:=Room.u60 hr;have hI:=Room.i60 hr;refine⟨_,JT (QaN (Qov QcY Qge (Jm (QbD ["numbers"] [none] (QeA (Jm (Yr G1 (hr.mono (by decide)) (by rfl) m1 k1 b1 Yb (YL (qv 0) JV)))) (λcl ex s3 H3 C=>⟨(Y0 0 QtS rfl (Jp rfl) (JF rfl)),(Qf5 (Qez (J7 (ZX G2 (hr.mono (by decide)) (by rfl) m2 k2 b2 Yb (YL (qv 0) JV))))),(qv 0)⟩))) (J7 Zg) (λ_ _=>rfl))),λargs R EX h=>?_⟩;obtain⟨ns,rfl,hs,hR⟩:=h;refine⟨ns,rfl,hs,λrows ha=>?_⟩;obtain⟨x,ix,rx,ux⟩:=QsK hs;refine QxK (λd=>if Qip (unT d)=true then some d else none) (λd hd k1 k2 h1 h2=>?_) ?_
  ·obtain⟨y,_,rfl⟩:=QL.mp hd;refine⟨y,rfl,?_⟩;rw[Qi7] at h1 h2;show if Qip y=true then k2 (tI y) else k1
   cases r:Qip y with
   |true=>exact QrH (h2 _ (by rw[r];rfl))
   |false=>exact Qua (h1 (by rw[r];rfl))
  ·rw[QmV Qip,Qun ha.nd ((ha.iff_ x).mpr ix) rx λy hy ry=>ux y ((ha.iff_ y).mp hy) ry];exact⟨_,Ys (j:=0) rfl,hR x ix rx⟩
theorem QvH:JA ["one", "other"] ["one", "other"] (Qx QdR):=⟨rfl,rfl,rfl,by decide +kernel,rfl,by decide +kernel,by decide +kernel⟩
theorem QwN{f f1 f2  : Addr}{fd fd1 fd2:QP}(F:Fun K "same_counts" "same_counts" QdR f fd)(T:GlbA mg)
  (m1:mg "refuse_no_stairs" = some (.ref f1))(G1:FnOk P w K mg base CX0 4 f1 fd1 ["stairs"] (Zf false Qir))(b1:Binds K fd1 ["stairs"] [])(k1:PySem.W.keepIn K (.ref f1)=true)
  (m2:mg "heads" = some (.ref f2))(G2:FnOk P w K mg base CX0 5 f2 fd2 ["stairs"] (Zf true Qhy))(b2:Binds K fd2 ["stairs"] [])(k2:PySem.W.keepIn K (.ref f2)=true) :
  FnOk P w K mg base CX0 6 f fd ["one", "other"] (Zf false Qy3):=by
 refine okQ false F QvH (λargs R EX h=>?_) (λcdv A outer s H E hr=>?_)
 ·obtain⟨ns,ms,rfl,_⟩:=h;rfl
 ·have hU:=Room.u60 hr;have hI:=Room.i60 hr;refine⟨_,Je (Qax (J7 (ZX G1 (hr.mono (by decide)) (by rfl) m1 k1 b1 Yb (YL (qv 0) JV))))
   (Je (Qax (J7 (ZX G1 (hr.mono (by decide)) (by rfl) m1 k1 b1 Yb (YL (qv 1) JV))))
   (Je (Qd5 (Qcr Qfs (Qkr hU) (Jm (YF Qas QdX (by rfl) T.len Qb0 (QdU (qp 0) J6))) (Jm (YF Qas QdX (by rfl) T.len Qb0 (QdU (qp 1) J6))) (Qai _)) Qag Qaw)
   (JT (QbQ (Qkk Qjr (Qph hU) (Jm (Yr G2 (hr.mono (by decide)) (by rfl) m2 k2 b2 Yb (YL (qv 0) JV))) (Jm (Yr G2 (hr.mono (by decide)) (by rfl) m2 k2 b2 Yb (YL (qv 1) JV))) (Qai _)))))),λargs R EX h=>?_⟩
  obtain⟨ns,ms,rfl,hs,hm,el,hR⟩:=h;refine⟨ns,rfl,hs,⟨ms,rfl,hm,ifF ?_ ⟨ns,rfl,hs,λa pa wa=>⟨ms,rfl,hm,λb pb wb=>⟨⟨Qgg _,Qgg _,.inl (Qxu _)⟩,?_⟩⟩⟩⟩⟩
  ·show(!decide (((ns.map Qh).length:Int)=(ms.map Qh).length))=false;rw[Qe,Qe,decide_eq_true (by omega)];rfl
  ·rw[QjL,Qii (pa.trans (Yq _).symm) wa (Qdo _),Qii (pb.trans (Yq _).symm) wb (Qdo _)];exact hR
end
def QgK(CS:Addr):DF:=λargs R EX=>∃a,args=[.v a]/\(Jf a=false->EX CS)/\(Jf a=true->∀d,R d)
def QuY(CS:Addr):DF:=λargs R EX=>∃a,args=[.v a]/\Jf a=false/\EX CS
def QjA:Qb->Nat
 |.tuple ds=>ds.length
 |_=>0
def QoD(CS CN:Addr):DF:=λargs R EX=>∃a b,args=[.v a,.v b]/\(Jf a=false->EX CS)/\(Jf a=true->inW b 0 1000000000=false->EX CN)/\(Jf a=true->inW b 0 1000000000=true->∀d,R d)
def Qwf(CS CN:Addr):DF:=λargs R EX=>∃a b,args=[.v a,.v b]/\(Jf a=false->EX CS)/\(Jf a=true->inW b 0 1000000000=false/\EX CN)
def Qye(CS CA:Addr):DF:=λargs R EX=>∃a b,args=[.v a,.v b]/\(Jf a=false->EX CS)/\(Jf a=true->Jf b=false->EX CS)/\(Jf a=true->Jf b=true->QjA a≠QjA b->EX CA)/\(Jf a=true->Jf b=true->QjA a=QjA b->∀d,R d)
def QzZ(CS CA:Addr):DF:=λargs R EX=>∃a b,args=[.v a,.v b]/\(Jf a=false->EX CS)/\(Jf a=true->Jf b=false->EX CS)/\(Jf a=true->Jf b=true->QjA a≠QjA b/\EX CA)
theorem Qij{fr:Bool}{fD gD hD:DF}{vs:List V}{H:Hp}{Q:VK}{Ex:XK}(h:∀args R EX,hD args R EX->fD args R EX∨gD args R EX)(q:Zf fr hD vs H Q Ex):Zf fr fD vs H Q Ex∨Zf fr gD vs H Q Ex:=by
 obtain⟨A,pt,args,R,EX,dm,hp,qa,hh,k,kx⟩:=q;rcases h _ _ _ hh with z | z
 ·exact .inl ⟨A,pt,args,R,EX,dm,hp,qa,z,k,kx⟩
 ·exact .inr ⟨A,pt,args,R,EX,dm,hp,qa,z,k,kx⟩
theorem Qhi{fD:DF}{CS:Addr}(hf:∀ns R EX,Qaj ns->(∀d,R d)->fD [.v (tI ns)] R EX)(args:List Sl)(R:Qb->Prop)(EX:XP)(h:QgK CS args R EX):fD args R EX∨QuY CS args R EX:=by
 obtain⟨a,rfl,hX,hR⟩:=h;cases ha:Jf a with
 |false=>exact .inr ⟨a,rfl,ha,hX ha⟩
 |true=>
  obtain⟨ns,rfl,hs⟩:=Qb9 ha;exact .inl (hf ns R EX hs (hR ha))
theorem Qs2{CS CN:Addr}(args:List Sl)(R:Qb->Prop)(EX:XP)(h:QoD CS CN args R EX):Qs3 args R EX∨Qwf CS CN args R EX:=by
 obtain⟨a,b,rfl,hX,hN,hR⟩:=h;cases ha:Jf a with
 |false=>exact .inr ⟨a,b,rfl,hX,λz=>by rw[ha] at z;cases z⟩
 |true=>
  cases hb:inW b 0 1000000000 with
  |false=>exact .inr ⟨a,b,rfl,hX,λ_=>⟨hb,hN ha hb⟩⟩
  |true=>
   obtain⟨ns,rfl,hs⟩:=Qb9 ha;obtain⟨x,rfl,x0,x1⟩:=Qug hb;exact .inl ⟨ns,x,rfl,hs,x0,x1,hR ha hb _⟩
theorem QvD{CS CA:Addr}(args:List Sl)(R:Qb->Prop)(EX:XP)(h:Qye CS CA args R EX):Qy3 args R EX∨QzZ CS CA args R EX:=by
 obtain⟨a,b,rfl,hX,hY,hA,hR⟩:=h;cases ha:Jf a with
 |false=>exact .inr ⟨a,b,rfl,hX,hY,λz=>by rw[ha] at z;cases z⟩
 |true=>
  cases hb:Jf b with
  |false=>exact .inr ⟨a,b,rfl,hX,hY,λ_ z=>by rw[hb] at z;cases z⟩
  |true=>
   by_cases e:QjA a=QjA b
   ·have hR2:=hR ha hb e;obtain⟨ns,rfl,hs⟩:=Qb9 ha;obtain⟨ms,rfl,hm⟩:=Qb9 hb;have e:(ns.map Qh).length=(ms.map Qh).length:=e;rw[Qe,Qe] at e;exact .inl ⟨ns,ms,rfl,hs,hm,e,hR2 _⟩
   ·exact .inr ⟨a,b,rfl,hX,hY,λh1 h2=>⟨e,hA h1 h2 e⟩⟩
def Qdn(way:Int)(a b:Qb):Str:=
 if Jf a=false then "stairs" else if way=0 then(if inW b 0 1000000000=false then "number" else "told")
 else if way=1 then(if Jf b=false then "stairs" else if QjA a=QjA b then "told" else "alike") else "told"
def Qst:DF:=λargs R _=>∃way a b,args=[.v (.int way),.v a,.v b]/\0<=way/\way<=6/\R (.str (Qdn way a b))
def Qmx:DF:=λargs R _=>∃ns:List Int,args=[.pot,.v (tI ns)]/\Qaj ns/\∀d,Jf d=false->R d
theorem QvB{ds:List Qb}{d:Qb}(h:d∈ds)(hd:inW d 0 6=false):Jf (.tuple ds)=false:=by
 show(_&&(ds.all (λd=>inW d 0 6)&&_))=false;cases e:ds.all (λd=>inW d 0 6) with
 |false=>simp
 |true=>rw[Zi.mp e d h] at hd;cases hd
section
variable{P:QC}{w:Ja}{K:PySem.W.Frag}{mg:Str->Option Value}{base:Heap}
theorem QsH:JA ["stairs"] ["stairs"] (Qx Qg5):=⟨rfl,rfl,rfl,by decide +kernel,rfl,by decide +kernel,by decide +kernel⟩
theorem QtE{f f1 CS:Addr}{fd fd1:QP}(F:Fun K "refuse_no_stairs" "refuse_no_stairs" Qg5 f fd)(T:GlbA mg)
  (m1:mg "is_stairs" = some (.ref f1))(G1:FnOk P w K mg base CX0 3 f1 fd1 ["thing"] (Zf false QfR))(b1:Binds K fd1 ["thing"] [])(k1:PySem.W.keepIn K (.ref f1)=true)
  (mCS:mg "NoStairs" = some (.ref CS))(qCS:PySem.W.excIn K CS Rx.mroV "ValueError.__new__" = true) :
  FnOk P w K mg base (Rx.CXE P w) 4 f fd ["stairs"] (Zf false (Qiq CS)):=by
 refine QrC false F QsH (λargs R EX h=>?_) (λcdv A outer s H E hr=>?_)
 ·obtain⟨d,rfl,_⟩:=h;rfl
 ·have hU:=Room.u60 hr;have hI:=Room.i60 hr;refine⟨_,JT (Qd5 (Qfo (Qez (J7 (ZX G1 (hr.mono (by decide)) (by rfl) m1 k1 b1 Yb (YL (qv 0) JV))))) (JT (Qf6 (λ_ _ h=>h) mCS qCS (J7 Qd7))) Qaw),λargs R EX h=>?_⟩;obtain⟨d,rfl,hR,hX⟩:=h;refine⟨_,rfl,?_⟩;show if(!Jf d)=true then _ else _
  cases ha:Jf d with
  |false=>exact hX ha
  |true=>exact hR ha
theorem QvJ:JA ["stairs", "high", "cells"] ["stairs"] (Qx QbP):=⟨rfl,rfl,rfl,by decide +kernel,rfl,by decide +kernel,by decide +kernel⟩
theorem QwP{f f1  : Addr}{fd fd1:QP}{CS:Addr}(F:Fun K "stair_board" "stair_board" QbP f fd)(T:GlbA mg)
  (m1:mg "refuse_no_stairs" = some (.ref f1))(G1:FnOk P w K mg base (Rx.CXE P w) 4 f1 fd1 ["stairs"] (Zf false (Qiq CS)))(b1:Binds K fd1 ["stairs"] [])(k1:PySem.W.keepIn K (.ref f1)=true) :
  FnOk P w K mg base (Rx.CXE P w) 5 f fd ["stairs"] (Zf false (QuY CS)):=by
 refine QrC false F QvJ (λargs R EX h=>?_) (λcdv A outer s H E hr=>?_)
 ·obtain⟨a,rfl,_⟩:=h;rfl
 ·have hU:=Room.u60 hr;have hI:=Room.i60 hr;refine⟨_,Je (Qax (J7 (ZX G1 (hr.mono (by decide)) (by rfl) m1 k1 b1 (Rx.Qhg (E:=E) (λ_ _ h=>h) rfl rfl rfl) (YL (qv 0) JV))))
   Qag,λargs R EX h=>?_⟩
  obtain⟨a,rfl,ha,hX⟩:=h;exact⟨_,rfl,λz=>(by rw[ha] at z;cases z),λ_=>hX⟩
theorem QvQ:JA ["stairs"] ["stairs"] (Qx QdT):=⟨rfl,rfl,rfl,by decide +kernel,rfl,by decide +kernel,by decide +kernel⟩
theorem QwY{f f1  : Addr}{fd fd1:QP}{CS:Addr}(F:Fun K "heads" "heads" QdT f fd)(T:GlbA mg)
  (m1:mg "refuse_no_stairs" = some (.ref f1))(G1:FnOk P w K mg base (Rx.CXE P w) 4 f1 fd1 ["stairs"] (Zf false (Qiq CS)))(b1:Binds K fd1 ["stairs"] [])(k1:PySem.W.keepIn K (.ref f1)=true) :
  FnOk P w K mg base (Rx.CXE P w) 5 f fd ["stairs"] (Zf true (QuY CS)):=by
 refine QrC true F QvQ (λargs R EX h=>?_) (λcdv A outer s H E hr=>?_)
 ·obtain⟨a,rfl,_⟩:=h;rfl
 ·have hU:=Room.u60 hr;have hI:=Room.i60 hr;refine⟨_,Je (Qax (J7 (ZX G1 (hr.mono (by decide)) (by rfl) m1 k1 b1 (Rx.Qhg (E:=E) (λ_ _ h=>h) rfl rfl rfl) (YL (qv 0) JV))))
   Qag,λargs R EX h=>?_⟩
  obtain⟨a,rfl,ha,hX⟩:=h;exact⟨_,rfl,λz=>(by rw[ha] at z;cases z),λ_=>hX⟩
theorem QvR:JA ["stairs", "told", "number"] ["stairs"] (Qx Qg7):=⟨rfl,rfl,rfl,by decide +kernel,rfl,by decide +kernel,by decide +kernel⟩
theorem QwZ{f f1  : Addr}{fd fd1:QP}{CS:Addr}(F:Fun K "head_counts" "head_counts" Qg7 f fd)(T:GlbA mg)
  (m1:mg "refuse_no_stairs" = some (.ref f1))(G1:FnOk P w K mg base (Rx.CXE P w) 4 f1 fd1 ["stairs"] (Zf false (Qiq CS)))(b1:Binds K fd1 ["stairs"] [])(k1:PySem.W.keepIn K (.ref f1)=true) :
  FnOk P w K mg base (Rx.CXE P w) 5 f fd ["stairs"] (Zf true (QuY CS)):=by
 refine QrC true F QvR (λargs R EX h=>?_) (λcdv A outer s H E hr=>?_)
 ·obtain⟨a,rfl,_⟩:=h;rfl
 ·have hU:=Room.u60 hr;have hI:=Room.i60 hr;refine⟨_,Je (Qax (J7 (ZX G1 (hr.mono (by decide)) (by rfl) m1 k1 b1 (Rx.Qhg (E:=E) (λ_ _ h=>h) rfl rfl rfl) (YL (qv 0) JV))))
   Qag,λargs R EX h=>?_⟩
  obtain⟨a,rfl,ha,hX⟩:=h;exact⟨_,rfl,λz=>(by rw[ha] at z;cases z),λ_=>hX⟩
theorem Qrm:JA ["stairs", "put", "found"] ["stairs"] (Qx Qf2):=⟨rfl,rfl,rfl,by decide +kernel,rfl,by decide +kernel,by decide +kernel⟩
theorem Qw0{f f1  : Addr}{fd fd1:QP}{CS:Addr}(F:Fun K "all_stairs" "all_stairs" Qf2 f fd)(T:GlbA mg)
  (m1:mg "heads" = some (.ref f1))(G1:FnOk P w K mg base (Rx.CXE P w) 5 f1 fd1 ["stairs"] (Zf true (QgK CS)))(b1:Binds K fd1 ["stairs"] [])(k1:PySem.W.keepIn K (.ref f1)=true) :
  FnOk P w K mg base (Rx.CXE P w) 6 f fd ["stairs"] (Zf true (QuY CS)):=by
 refine QrC true F Qrm (λargs R EX h=>?_) (λcdv A outer s H E hr=>?_)
 ·obtain⟨a,rfl,_⟩:=h;rfl
 ·have hU:=Room.u60 hr;have hI:=Room.i60 hr;refine⟨_,Je (QaB 1 (Z9 (Yr G1 (hr.mono (by decide)) (by rfl) m1 k1 b1 (Rx.Qhg (E:=E) (λ_ _ h=>h) rfl rfl rfl) (YL (qv 0) JV))) Qrm.nd)
   Qag,λargs R EX h=>?_⟩
  obtain⟨a,rfl,ha,hX⟩:=h;exact⟨_,rfl,λ_=>hX,λz=>(by rw[ha] at z;cases z)⟩
theorem QtT:(["numbers"]:List Str).Nodup:=by decide +kernel
theorem QvL:JA ["stairs"] ["stairs"] (Qx QdS):=⟨rfl,rfl,rfl,by decide +kernel,rfl,by decide +kernel,by decide +kernel⟩
theorem QwR{f f1 f2  : Addr}{fd fd1 fd2:QP}{CS:Addr}(F:Fun K "risen" "risen" QdS f fd)(T:GlbA mg)
  (m1:mg "all_stairs" = some (.ref f1))(G1:FnOk P w K mg base (Rx.CXE P w) 6 f1 fd1 ["stairs"] (Zf true (QgK CS)))(b1:Binds K fd1 ["stairs"] [])(k1:PySem.W.keepIn K (.ref f1)=true)
  (m2:mg "is_risen" = some (.ref f2))(G2:FnOk P w K mg base CX0 1 f2 fd2 ["numbers"] (Zf false Qyk))(b2:Binds K fd2 ["numbers"] [])(k2:PySem.W.keepIn K (.ref f2)=true) :
  FnOk P w K mg base (Rx.CXE P w) 7 f fd ["stairs"] (Zf false (QuY CS)):=by
 refine QrC false F QvL (λargs R EX h=>?_) (λcdv A outer s H E hr=>?_)
 ·obtain⟨a,rfl,_⟩:=h;rfl
 ·have hU:=Room.u60 hr;have hI:=Room.i60 hr;refine⟨_,JT (QaN (Qov QcY Qge (Jm (QbD ["numbers"] [none] (QeA (Jm (Yr G1 (hr.mono (by decide)) (by rfl) m1 k1 b1 (Rx.Qhg (E:=E) (λ_ _ h=>h) rfl rfl rfl) (YL (qv 0) JV)))) (λcl ex s3 H3 C=>⟨(Y0 0 QtT rfl (Jp rfl) (JF rfl)),(Qf5 (Qez (J7 (ZX G2 (hr.mono (by decide)) (by rfl) m2 k2 b2 Yb (YL (qv 0) JV))))),(qv 0)⟩))) (J7 Zg) (λ_ _=>rfl))),λargs R EX h=>?_⟩;obtain⟨a,rfl,ha,hX⟩:=h;exact⟨_,rfl,λ_=>hX,λz=>(by rw[ha] at z;cases z)⟩
theorem QvM:JA ["stairs", "number", "told", "head"] ["stairs", "number"] (Qx Qg6):=⟨rfl,rfl,rfl,by decide +kernel,rfl,by decide +kernel,by decide +kernel⟩
theorem QwS{f f1 f2 CN:Addr}{fd fd1 fd2:QP}{CS:Addr}(hB:∃t,mg "MOST_TAKEN" = some (.int 1000000000 t))(F:Fun K "product_at" "product_at" Qg6 f fd)(T:GlbA mg)
  (m1:mg "refuse_no_stairs" = some (.ref f1))(G1:FnOk P w K mg base (Rx.CXE P w) 4 f1 fd1 ["stairs"] (Zf false (Qiq CS)))(b1:Binds K fd1 ["stairs"] [])(k1:PySem.W.keepIn K (.ref f1)=true)
  (m2:mg "is_whole_within" = some (.ref f2))(G2:FnOk P w K mg base CX0 2 f2 fd2 ["thing", "least", "most"] (Zf false Qev))(b2:Binds K fd2 ["thing", "least", "most"] [])(k2:PySem.W.keepIn K (.ref f2)=true)
  (mCN:mg "NoNumber" = some (.ref CN))(qCN:PySem.W.excIn K CN Rx.mroV "ValueError.__new__" = true) :
  FnOk P w K mg base (Rx.CXE P w) 6 f fd ["stairs", "number"] (Zf false (Qwf CS CN)):=by
 refine QrC false F QvM (λargs R EX h=>?_) (λcdv A outer s H E hr=>?_)
 ·obtain⟨a,b,rfl,_⟩:=h;rfl
 ·obtain⟨tB,mB⟩:=hB;have hU:=Room.u60 hr;have hI:=Room.i60 hr;refine⟨_,Je (Qax (J7 (ZX G1 (hr.mono (by decide)) (by rfl) m1 k1 b1 (Rx.Qhg (E:=E) (λ_ _ h=>h) rfl rfl rfl) (YL (qv 0) JV))))
   (Je (Qd5 (Qfo (Qez (J7 (ZX G2 (hr.mono (by decide)) (by rfl) m2 k2 b2 Yb (YL (qv 1) (YL Zg (YL (Qjh 1000000000 (by rfl) mB ⟨_,rfl⟩) JV))))))) (JT (Qf6 (λ_ _ h=>h) mCN qCN (J7 Qd7))) Qaw)
   Qag),λargs R EX h=>?_⟩
  obtain⟨a,b,rfl,hX,hN⟩:=h;refine⟨_,rfl,λha=>?_,hX⟩;obtain⟨hb,hN⟩:=hN ha;refine⟨_,_,_,rfl,?_⟩;rw[hb];exact hN
theorem QvI:JA ["one", "other"] ["one", "other"] (Qx QdR):=⟨rfl,rfl,rfl,by decide +kernel,rfl,by decide +kernel,by decide +kernel⟩
theorem QwO{f f1 CA:Addr}{fd fd1:QP}{CS:Addr}(F:Fun K "same_counts" "same_counts" QdR f fd)(T:GlbA mg)
  (m1:mg "refuse_no_stairs" = some (.ref f1))(G1:FnOk P w K mg base (Rx.CXE P w) 4 f1 fd1 ["stairs"] (Zf false (Qiq CS)))(b1:Binds K fd1 ["stairs"] [])(k1:PySem.W.keepIn K (.ref f1)=true)
  (mCA:mg "NotAlike" = some (.ref CA))(qCA:PySem.W.excIn K CA Rx.mroV "ValueError.__new__" = true) :
  FnOk P w K mg base (Rx.CXE P w) 6 f fd ["one", "other"] (Zf false (QzZ CS CA)):=by
 refine QrC false F QvI (λargs R EX h=>?_) (λcdv A outer s H E hr=>?_)
 ·obtain⟨a,b,rfl,_⟩:=h;rfl
 ·have hU:=Room.u60 hr;have hI:=Room.i60 hr;refine⟨_,Je (Qax (J7 (ZX G1 (hr.mono (by decide)) (by rfl) m1 k1 b1 (Rx.Qhg (E:=E) (λ_ _ h=>h) rfl rfl rfl) (YL (qv 0) JV))))
   (Je (Qax (J7 (ZX G1 (hr.mono (by decide)) (by rfl) m1 k1 b1 (Rx.Qhg (E:=E) (λ_ _ h=>h) rfl rfl rfl) (YL (qv 1) JV))))
   (Je (Qd5 (Qcr Qfs (Qkr hU) (Jm (YF Qas QdX (by rfl) T.len Qb0 (QdU (qp 0) J6))) (Jm (YF Qas QdX (by rfl) T.len Qb0 (QdU (qp 1) J6))) (Qai _)) (JT (Qf6 (λ_ _ h=>h) mCA qCA (J7 Qd7))) Qaw)
   Qag)),λargs R EX h=>?_⟩
  obtain⟨a,b,rfl,hX,hY,hA⟩:=h;refine⟨_,rfl,λha=>⟨_,rfl,λhb=>?_,λhb=>hY ha hb⟩,hX⟩;obtain⟨ne,hA2⟩:=hA ha hb;obtain⟨ns,rfl,hs⟩:=Qb9 ha;obtain⟨ms,rfl,hm⟩:=Qb9 hb;have ne:(ns.map Qh).length≠(ms.map Qh).length:=ne;refine ifT ?_ hA2
  show(!decide (((ns.map Qh).length:Int)=(ms.map Qh).length))=true;rw[decide_eq_false (by omega)];rfl
theorem QlD:JA ["_law_way", "_law_stairs_here", "_law_other", "_law_e"] ["_law_way", "_law_stairs_here", "_law_other"] (Qx Qkz):=⟨rfl,rfl,rfl,by decide +kernel,rfl,by decide +kernel,by decide +kernel⟩
theorem QtC{f f1 f2 f3 f4 f5 f6 f7  : Addr}{fd fd1 fd2 fd3 fd4 fd5 fd6 fd7:QP}{CS CN CA:Addr}(F:Fun K "_law_told" "_law_told" Qkz f fd)(T:GlbA mg)
  (m1:mg "product_at" = some (.ref f1))(G1:FnOk P w K mg base (Rx.CXE P w) 6 f1 fd1 ["stairs", "number"] (Zf false (QoD CS CN)))(b1:Binds K fd1 ["stairs", "number"] [])(k1:PySem.W.keepIn K (.ref f1)=true)
  (m2:mg "same_counts" = some (.ref f2))(G2:FnOk P w K mg base (Rx.CXE P w) 6 f2 fd2 ["one", "other"] (Zf false (Qye CS CA)))(b2:Binds K fd2 ["one", "other"] [])(k2:PySem.W.keepIn K (.ref f2)=true)
  (m3:mg "stair_board" = some (.ref f3))(G3:FnOk P w K mg base (Rx.CXE P w) 5 f3 fd3 ["stairs"] (Zf false (QgK CS)))(b3:Binds K fd3 ["stairs"] [])(k3:PySem.W.keepIn K (.ref f3)=true)
  (m4:mg "heads" = some (.ref f4))(G4:FnOk P w K mg base (Rx.CXE P w) 5 f4 fd4 ["stairs"] (Zf true (QgK CS)))(b4:Binds K fd4 ["stairs"] [])(k4:PySem.W.keepIn K (.ref f4)=true)
  (m5:mg "head_counts" = some (.ref f5))(G5:FnOk P w K mg base (Rx.CXE P w) 5 f5 fd5 ["stairs"] (Zf true (QgK CS)))(b5:Binds K fd5 ["stairs"] [])(k5:PySem.W.keepIn K (.ref f5)=true)
  (m6:mg "all_stairs" = some (.ref f6))(G6:FnOk P w K mg base (Rx.CXE P w) 6 f6 fd6 ["stairs"] (Zf true (QgK CS)))(b6:Binds K fd6 ["stairs"] [])(k6:PySem.W.keepIn K (.ref f6)=true)
  (m7:mg "risen" = some (.ref f7))(G7:FnOk P w K mg base (Rx.CXE P w) 7 f7 fd7 ["stairs"] (Zf false (QgK CS)))(b7:Binds K fd7 ["stairs"] [])(k7:PySem.W.keepIn K (.ref f7)=true)
  {fK R:Addr} {cs:List Addr} {fdK:QP} (mK:mg "_law_kind_of" = some (.ref fK)) (GK:Rx.FnM P w K mg base 1 fK fdK ["_law_e"] (QfT K cs)) (bK:Binds K fdK ["_law_e"] []) (kK:PySem.W.keepIn K (.ref fK)=true) (mR:mg "RookError" = some (.ref R)) (oS:KOk2 K cs R CS "stairs") (oN:KOk2 K cs R CN "number") (oA:KOk2 K cs R CA "alike") :
  FnOk P w K mg base CX0 8 f fd ["_law_way", "_law_stairs_here", "_law_other"] (Zf false Qst):=by
 refine okQ false F QlD (λargs R EX h=>?_) (λcdv A outer s H E hr=>?_)
 ·obtain⟨way,a,b,rfl,_⟩:=h;rfl
 ·have hU:=Room.u60 hr;have hI:=Room.i60 hr;refine⟨_,Je (Qv6 (i:=3) (ks:=λC wd=>KOk2 K cs R C wd) (Qig (Qy1 (Qcr Qpa Qhj (qp 0) (J7 Zg) (Qai _)) (Qig (Qlr (Qle (Qcz f1 (QoD CS CN) (by rfl) m1 (Qcz f2 (Qye CS CA) (by rfl) m2 QrO)) (Zk ⟨_,_,_,G1,hr.mono (by decide),k1,b1⟩ (Zk ⟨_,_,_,G2,hr.mono (by decide),k2,b2⟩ QhP)) (qp 0) (YL (qv 1) (YL (qv 2) JV))))) (Qig (Qlr (Qle (Qcz f3 (QgK CS) (by rfl) m3 (Qcz f4 (QgK CS) (by rfl) m4 (Qcz f5 (QgK CS) (by rfl) m5 (Qcz f6 (QgK CS) (by rfl) m6 (Qcz f7 (QgK CS) (by rfl) m7 QrO))))) (Zk ⟨_,_,_,G3,hr.mono (by decide),k3,b3⟩ (Zk ⟨_,_,_,G4.nofr,hr.mono (by decide),k4,b4⟩ (Zk ⟨_,_,_,G5.nofr,hr.mono (by decide),k5,b5⟩ (Zk ⟨_,_,_,G6.nofr,hr.mono (by decide),k6,b6⟩ (Zk ⟨_,_,_,G7,hr.mono (by decide),k7,b7⟩ QhP))))) (Jm (Y8 Qjq Qmm (qp 0) (J7 Zg))) (YL (qv 1) JV)))))) QlD.nd mR (QsT GK (hr.mono (by decide)) mK kK bK) (λo=>QpA o))
   (JT (QaN Qd7)),λargs R EX h=>?_⟩
  obtain⟨way,a,b,rfl,w0,w6,hR⟩:=h;have hw:way=0∨way=1∨way=2∨way=3∨way=4∨way=5∨way=6:=by omega
  have bad:Jf a=false->Qdn way a b = "stairs" := λh=>by unfold Qdn;rw[if_pos h]
  have good:Jf a=true->way≠0->way≠1->Qdn way a b = "told" := λh z0 z1=>by unfold Qdn;rw[if_neg (by rw[h];decide),if_neg z0,if_neg z1]
  rcases hw with rfl | rfl | rfl | rfl | rfl | rfl | rfl
  ·refine⟨_,Ys (j:=0) rfl,_,_,rfl,λhs=>⟨"stairs",oS,by decide +kernel,?_⟩,λha hb=>⟨"number",oN,by decide +kernel,?_⟩,λha hb d=>⟨rfl,?_⟩⟩
   ·rw[bad hs] at hR;exact hR
   ·rw[show Qdn 0 a b = "number" by unfold Qdn;rw[if_neg (by rw[ha];decide),if_pos rfl,if_pos hb]] at hR;exact hR
   ·rw[show Qdn 0 a b = "told" by unfold Qdn;rw[if_neg (by rw[ha];decide),if_pos rfl,if_neg (by rw[hb];decide)]] at hR;exact hR
  ·refine⟨_,Ys (j:=1) rfl,_,_,rfl,λhs=>⟨"stairs",oS,by decide +kernel,?_⟩,λha hb=>⟨"stairs",oS,by decide +kernel,?_⟩,λha hb ne=>⟨"alike",oA,by decide +kernel,?_⟩,λha hb e d=>⟨rfl,?_⟩⟩
   ·rw[bad hs] at hR;exact hR
   ·rw[show Qdn 1 a b = "stairs" by unfold Qdn;rw[if_neg (by rw[ha];decide),if_neg (by decide),if_pos rfl,if_pos hb]] at hR;exact hR
   ·rw[show Qdn 1 a b = "alike" by unfold Qdn;rw[if_neg (by rw[ha];decide),if_neg (by decide),if_pos rfl,if_neg (by rw[hb];decide),if_neg ne]] at hR;exact hR
   ·rw[show Qdn 1 a b = "told" by unfold Qdn;rw[if_neg (by rw[ha];decide),if_neg (by decide),if_pos rfl,if_neg (by rw[hb];decide),if_pos e]] at hR;exact hR
  ·refine⟨_,Ys (j:=0) rfl,_,rfl,λhs=>⟨"stairs",oS,by decide +kernel,?_⟩,λha d=>⟨rfl,?_⟩⟩
   ·rw[bad hs] at hR;exact hR
   ·rw[good ha (by decide) (by decide)] at hR;exact hR
  ·refine⟨_,Ys (j:=1) rfl,_,rfl,λhs=>⟨"stairs",oS,by decide +kernel,?_⟩,λha d=>⟨rfl,?_⟩⟩
   ·rw[bad hs] at hR;exact hR
   ·rw[good ha (by decide) (by decide)] at hR;exact hR
  ·refine⟨_,Ys (j:=2) rfl,_,rfl,λhs=>⟨"stairs",oS,by decide +kernel,?_⟩,λha d=>⟨rfl,?_⟩⟩
   ·rw[bad hs] at hR;exact hR
   ·rw[good ha (by decide) (by decide)] at hR;exact hR
  ·refine⟨_,Ys (j:=3) rfl,_,rfl,λhs=>⟨"stairs",oS,by decide +kernel,?_⟩,λha d=>⟨rfl,?_⟩⟩
   ·rw[bad hs] at hR;exact hR
   ·rw[good ha (by decide) (by decide)] at hR;exact hR
  ·refine⟨_,Ys (j:=4) rfl,_,rfl,λhs=>⟨"stairs",oS,by decide +kernel,?_⟩,λha d=>⟨rfl,?_⟩⟩
   ·rw[bad hs] at hR;exact hR
   ·rw[good ha (by decide) (by decide)] at hR;exact hR
theorem QfY:JA ["_law_pot_here", "_law_stairs_here", "_law_spot", "_law_odd", "_law_some"] ["_law_pot_here", "_law_stairs_here"] (Qx QkB):=⟨rfl,rfl,rfl,by decide +kernel,rfl,by decide +kernel,by decide +kernel⟩
theorem QtG{f f1  : Addr}{fd fd1:QP}(F:Fun K "_law_none" "_law_none" QkB f fd)(T:GlbA mg)
  (m1:mg "_law_take" = some (.ref f1))(G1:FnOk P w K mg base CX0 1 f1 fd1 ["_law_pot_here", "_law_far"] (Zf true Qlo))(b1:Binds K fd1 ["_law_pot_here", "_law_far"] [])(k1:PySem.W.keepIn K (.ref f1)=true) :
  FnOk P w K mg base CX0 2 f fd ["_law_pot_here", "_law_stairs_here"] (Zf false Qmx):=by
 refine okQ false F QfY (λargs R EX h=>?_) (λcdv A outer s H E hr=>?_)
 ·obtain⟨ns,rfl,_⟩:=h;rfl
 ·have hU:=Room.u60 hr;have hI:=Room.i60 hr;refine⟨_,Je (QaB 2 (Z9 (Yr G1 (hr.mono (by decide)) (by rfl) m1 k1 b1 Yb (Qbj 0 (YL (Z9 (YF Qas QdX (by rfl) T.len Qb0 (QdU (qp 1) J6))) JV)))) QfY.nd)
   (Je (QaB 3 (Qov QcY Qge (Jm (Qd8 (QaG Zg (QaG (Z9 (QsV (J7 Zg))) (QaG Qrt (QaG QsU (QaG Qd7 (QaG (Z9 (Qd6 (QaG Zg J6))) (QaG (Z9 (Y8 Qfr Qks (J7 Zg) (J7 Zg))) J6))))))))) (Jm (Yr G1 (hr.mono (by decide)) (by rfl) m1 k1 b1 Yb (Qbj 0 (YL Zg JV)))) (λ_ _=>rfl)) QfY.nd)
   (Je (QaB 4 (Z9 (Qd8 (QaG (Z9 (Y8 YH QaC (Jm (Y8 YH QaC (Jm (Qga (qp 1) Qf8 (Qf7 (qp 2)))) (Jm (Qd6 (QaG (qv 3) J6))))) (Jm (Qga (qp 1) (Qf7 (Jm (Y8 YH QaC (qp 2) (J7 Zg)))) Qf8)))) (QaG (Z9 (Qej Qgx QuF (by rfl) T.list QuJ (QdU (qp 1) J6))) (QaG QsU (QaG (Z9 (Qd6 J6)) (QaG (Z9 (Qd6 (QaG Zg (QaG Zg J6)))) (QaG (Z9 (Y8 Qty QtN (Jm (Qd6 (QaG Zg J6))) (J7 Zg))) (QaG Zg (QaG Qd7 (QaG Qzh J6))))))))))) QfY.nd)
   (JT (QaN (Qov QcY Qge (qp 4) (Jm (Yr G1 (hr.mono (by decide)) (by rfl) m1 k1 b1 Yb (Qbj 0 (YL Zg JV)))) (λ_ _=>rfl)))))),λargs R EX h=>?_⟩
  obtain⟨ns,rfl,hs,hR⟩:=h;have l1:=hs.l1;have l6:=hs.l6;have ll:(ns.map Qh).length=ns.length:=Qe _;have cp:Qyo 10 39:=⟨by decide,by decide,by decide⟩;refine⟨_,rfl,by omega,by omega,λr1 r10 r11=>⟨cp,_,rfl,by decide,by decide,λr2 r20 r21=>Qt9 r20 r21 λod hod=>?_⟩⟩;have ob:=Zk (p:=λd=>inW d 0 6=false) rfl (Zk rfl (Zk rfl (Zk rfl (Zk rfl (Zk rfl (Zk (by decide +kernel) QhP)))))) od hod;have c1:=QeT (ns.map Qh) none (some r1);have c2:=QeT (ns.map Qh) (some (r1+1)) none;refine⟨by show _+1<=_;omega,by rw[Qw];show _+1+_<=_;omega,⟨by decide,by decide,by decide,by decide⟩,_,rfl,by decide,by decide,λr3 r30 r31=>Qt9 r30 r31 λd hd=>hR d ?_⟩;exact Zk (p:=λd=>Jf d=false) (QvB (d:=od) (by simp) ob) (Zk rfl (Zk rfl (Zk rfl (Zk (by decide +kernel) (Zk (by decide +kernel) (Zk rfl (Zk rfl (Zk rfl QhP)))))))) d hd
end
def Qy2(f:Int->Str):Qb->Qb
 |.int k=>.str (f k)
 |_=>.none
theorem Qvr{a:Qb}(h:Jf a=false)(way:Int)(b:Qb):Qdn way a b = "stairs" := by unfold Qdn;rw[if_pos h]
theorem Qvq{a b:Qb}(h:Jf a=true)(hb:inW b 0 1000000000=false):Qdn 0 a b = "number" := by unfold Qdn;rw[if_neg (by rw[h];decide),if_pos rfl,if_pos hb]
theorem Qvp{a b:Qb}(h:Jf a=true)(hb:Jf b=false):Qdn 1 a b = "stairs" := by unfold Qdn;rw[if_neg (by rw[h];decide),if_neg (by decide),if_pos rfl,if_pos hb]
theorem Qn5{a b:Qb}(h:Jf a=true)(hb:Jf b=true)(ne:QjA a≠QjA b):Qdn 1 a b = "alike" := by unfold Qdn;rw[if_neg (by rw[h];decide),if_neg (by decide),if_pos rfl,if_neg (by rw[hb];decide),if_neg ne]
theorem Qli{a b:Qb}{way:Int}(h:Jf a=true)(h0:way=0->inW b 0 1000000000=true)(h1:way=1->b=a):Qdn way a b = "told" := by
 unfold Qdn;rw[if_neg (by rw[h];decide)];by_cases z0:way=0
 ·rw[if_pos z0,if_neg (by rw[h0 z0];decide)]
 ·rw[if_neg z0];by_cases z1:way=1
  ·rw[if_pos z1,h1 z1,if_neg (by rw[h];decide),if_pos rfl]
  ·rw[if_neg z1]
section
variable{P:QC}{w:Ja}{K:PySem.W.Frag}{mg:Str->Option Value}{base:Heap}
theorem QtX:(["_law_way", "_law_bad"]:List Str).Nodup:=by decide +kernel
theorem QtW:(["_law_way", "_law_bad", "_law_number", "_law_stairs_here"]:List Str).Nodup:=by decide +kernel
theorem QtV:(["_law_way", "_law_stairs_here"]:List Str).Nodup:=by decide +kernel
theorem Qex:JA ["_law_script", "_law_at", "_law_pot_here", "_law_stairs_here", "_law_bad", "_law_number", "_law_other"] ["_law_script"] (Qx sLaw):=⟨rfl,rfl,rfl,by decide +kernel,rfl,by decide +kernel,by decide +kernel⟩
theorem QwW{f f1 f2 f3 f4 f5 f6  : Addr}{fd fd1 fd2 fd3 fd4 fd5 fd6:QP}(F:Fun K "law" "law" sLaw f fd)(T:GlbA mg)
  (m1:mg "_law_cell_at" = some (.ref f1))(G1:FnOk P w K mg base CX0 1 f1 fd1 ["_law_script", "_law_k"] (QcU K))(b1:Binds K fd1 ["_law_script", "_law_k"] [])(k1:PySem.W.keepIn K (.ref f1)=true)
  (m2:mg "_law_pot" = some (.ref f2))(G2:FnOk P w K mg base CX0 1 f2 fd2 ["_law_cell"] (Zf true Qzj))(b2:Binds K fd2 ["_law_cell"] [])(k2:PySem.W.keepIn K (.ref f2)=true)
  (m3:mg "_law_take" = some (.ref f3))(G3:FnOk P w K mg base CX0 1 f3 fd3 ["_law_pot_here", "_law_far"] (Zf true Qlo))(b3:Binds K fd3 ["_law_pot_here", "_law_far"] [])(k3:PySem.W.keepIn K (.ref f3)=true)
  (m4:mg "_law_stairs" = some (.ref f4))(G4:FnOk P w K mg base CX0 2 f4 fd4 ["_law_pot_here", "_law_columns", "_law_most"] (Zf false Qgk))(b4:Binds K fd4 ["_law_pot_here", "_law_columns", "_law_most"] [])(k4:PySem.W.keepIn K (.ref f4)=true)
  (m5:mg "_law_none" = some (.ref f5))(G5:FnOk P w K mg base CX0 2 f5 fd5 ["_law_pot_here", "_law_stairs_here"] (Zf false Qmx))(b5:Binds K fd5 ["_law_pot_here", "_law_stairs_here"] [])(k5:PySem.W.keepIn K (.ref f5)=true)
  (m6:mg "_law_told" = some (.ref f6))(G6:FnOk P w K mg base CX0 8 f6 fd6 ["_law_way", "_law_stairs_here", "_law_other"] (Zf false Qst))(b6:Binds K fd6 ["_law_way", "_law_stairs_here", "_law_other"] [])(k6:PySem.W.keepIn K (.ref f6)=true) :
  FnOk P w K mg base CX0 9 f fd ["_law_script"] (Qfk K):=by
 refine QA1 F Qex (λcdv A outer s H E hr=>?_);have hU:=Room.u60 hr;have hI:=Room.i60 hr;refine⟨_,Je (Qhb Qad rfl (QbR (by rfl) T.range (Jm (YF (QhG rfl) Qnm (by rfl) T.max Qr0 (QdU (J7 Zg) (QdU (Jm (YF (QhF rfl) Qnl (by rfl) T.min QrZ (QdU (Jm (Qv8 0 (by rfl) T.len)) (QdU (J7 Zg) J6)))) J6))))) (Y0 1 Qex.nd rfl (by first | exact Jp rfl | exact JF rfl))
    (Je (QsQ 2 (Yr G2 (hr.mono (by decide)) (by rfl) m2 k2 b2 Yb (YL (Z9 (Qv9 0 G1 (hr.mono (by decide)) (by rfl) m1 k1 b1 (qp 1))) JV)) Qex.nd)
   (Je (QaB 3 (ZX G4 (hr.mono (by decide)) (by rfl) m4 k4 b4 Yb (Qbj 2 (YL (Z9 (Y8 YH QaC (J7 Zg) (Jm (Yr G3 (hr.mono (by decide)) (by rfl) m3 k3 b3 Yb (Qbj 2 (YL Zg JV)))))) (YL Zg JV)))) Qex.nd)
   (Je (QaB 4 (ZX G5 (hr.mono (by decide)) (by rfl) m5 k5 b5 Yb (Qbj 2 (YL (qv 3) JV))) Qex.nd)
   (Je (Qd5 (Qcr Qfs (Qkr hU) (Jm (QbD ["_law_way", "_law_bad"] [none,some 4] (QbR (by rfl) T.range (J7 Zg)) (λcl ex s3 H3 C=>⟨(Y0 0 QtX rfl (Jp rfl) (JF rfl)),Qao,(ZX G6 (hr.mono (by decide)) (by rfl) m6 k6 b6 Yb (YL (qv 0) (YL (qv 1) (YL (qv 1) JV))))⟩))) (Jm (Y8 Qgd Qjt (Jm (Qd8 (QaG Qd7 J6))) (J7 Zg))) (Qai _)) (JT (QaN Qrt)) Qaw)
   (Je (QaB 5 (Qov QcY Qge (Jm (Qd8 (QaG (Z9 (QsV (J7 Zg))) (QaG (Z9 (Y8 YH QaC (Jm (Y8 Qfr Qks (J7 Zg) (J7 Zg))) (J7 Zg))) (QaG Qrt (QaG QsU (QaG Qd7 (QaG (Z9 (Qd6 (QaG Zg J6))) (QaG (Z9 (Y8 Qfr Qks (J7 Zg) (J7 Zg))) J6))))))))) (Jm (Yr G3 (hr.mono (by decide)) (by rfl) m3 k3 b3 Yb (Qbj 2 (YL Zg JV)))) (λ_ _=>rfl)) Qex.nd)
   (Je (Qd5 (Qcr Qfs (Qkr hU) (Jm (QbD ["_law_way", "_law_bad", "_law_number", "_law_stairs_here"] [none,some 4,some 5,some 3] (QbR (by rfl) T.range (J7 Zg)) (λcl ex s3 H3 C=>⟨(Y0 0 QtW rfl (Jp rfl) (JF rfl)),Qao,(ZX G6 (hr.mono (by decide)) (by rfl) m6 k6 b6 Yb (YL (qv 0) (YL (qv 3) (YL (Qov QcY Qge (Jm (Qd8 (QaG (qv 2) (QaG (qv 1) J6)))) (qp 0) (λ_ _=>rfl)) JV))))⟩))) (Jm (Qd8 (QaG Qd7 (QaG Qd7 J6)))) (Qai _)) (JT (QaN Qrt)) Qaw)
   (Je (QaB 6 (ZX G4 (hr.mono (by decide)) (by rfl) m4 k4 b4 Yb (Qbj 2 (YL (Z9 (Y8 YH QaC (J7 Zg) (Jm (Y8 Qfu Qks (Jm (Y8 YH QaC (Jm (YF Qas QdX (by rfl) T.len Qb0 (QdU (qp 3) J6))) (Jm (Yr G3 (hr.mono (by decide)) (by rfl) m3 k3 b3 Yb (Qbj 2 (YL Zg JV)))))) (J7 Zg))))) (YL Zg JV)))) Qex.nd)
   (Je (Qd5 (Qcr Qfs (Qkr hU) (J7 (ZX G6 (hr.mono (by decide)) (by rfl) m6 k6 b6 Yb (YL Zg (YL (qv 3) (YL (qv 6) JV))))) (J7 Qd7) (Qai _)) (JT (QaN Qrt)) Qaw)
   (JT (Qd5 (Qcr Qfs (Qkr hU) (Jm (QbD ["_law_way", "_law_stairs_here"] [none,some 3] (QbR (by rfl) T.range (J7 Zg)) (λcl ex s3 H3 C=>⟨(Y0 0 QtV rfl (Jp rfl) (JF rfl)),Qao,(ZX G6 (hr.mono (by decide)) (by rfl) m6 k6 b6 Yb (YL (qv 0) (YL (qv 1) (YL (Qov QcY Qge (Jm (Qd8 (QaG (Z9 (Y8 Qfr Qks (J7 Zg) (J7 Zg))) (QaG (qv 1) J6)))) (Jm (Y8 Qfu Qks (qp 0) (J7 Zg))) (λ_ _=>rfl)) JV))))⟩))) (Jm (Y8 Qgd Qjt (Jm (Qd8 (QaG Qd7 J6))) (J7 Zg))) (Qai _)) (JT (QaN Qrt)) Qaw)))))))))))
   (JT (QaN Qrt)),?_⟩
 intro n0 n63;refine⟨⟨by split<;>split<;>omega,by split<;>split<;>omega⟩,QiN (λi δ=>∃x1 x2 x3 x4 x5 x6,δ=[.scr,x1,x2,x3,x4,x5,x6]) ⟨_,_,_,_,_,_,rfl⟩ ?_ ?_⟩
 ·rintro i δ hi ⟨x1,x2,x3,x4,x5,x6,rfl⟩;refine⟨by omega,λc=>⟨c,rfl,λn1=>?_⟩⟩;refine⟨_,rfl,by decide,by decide,λa a0 a1=>⟨1+a,rfl,by omega,by omega,λns hs hl=>?_⟩⟩;have l1:=hs.l1;have l6:=hs.l6;have ha:=QfQ hs;have cp:Qyo 10 9:=⟨by decide,by decide,by decide⟩;have cq:Qyo 10 39:=⟨by decide,by decide,by decide⟩;refine⟨ns,rfl,hs,λbad hb=>?_⟩;refine⟨⟨by decide,by decide⟩,Qcs (Qy2 λ_ => "stairs") (λd hd k2 hk=>?_) ?_⟩
  ·obtain⟨q,hq⟩:=QZ.mp hd;obtain⟨hq',rfl⟩:=Qcw hq;have hq7:q<7:=hq';refine⟨_,_,_,rfl,by omega,by omega,?_⟩;rw[Qvr hb];exact hk
  refine⟨⟨by decide,by decide,by decide⟩,⟨rfl,rfl,.inr (by decide +kernel)⟩,ifF (by show(!JD (.list [.str "stairs",.str "stairs",.str "stairs",.str "stairs",.str "stairs",.str "stairs",.str "stairs"]) (.list [.str "stairs",.str "stairs",.str "stairs",.str "stairs",.str "stairs",.str "stairs",.str "stairs"]))=false;decide +kernel) ?_⟩;refine⟨cp,cq,_,rfl,by decide,by decide,λr2 r20 r21=>Qt9 r20 r21 λnum hnum=>?_⟩;have nb:=Zk (p:=λd=>inW d 0 1000000000=false) rfl (Zk (by decide +kernel) (Zk rfl (Zk rfl (Zk rfl (Zk rfl (Zk (by decide +kernel) QhP)))))) num hnum;refine⟨⟨by decide,by decide⟩,Qcs (Qy2 λway=>if way=0 then "number" else "stairs") (λd hd k2 hk=>?_) ?_⟩
  ·obtain⟨q,hq⟩:=QZ.mp hd;obtain⟨hq',rfl⟩:=Qcw hq;have hq2:q<2:=hq';have:q=0∨q=1:=by omega
   rcases this with rfl | rfl
   ·refine⟨_,Ys (j:=0) rfl,_,_,_,rfl,by decide,by decide,?_⟩;show k2 (.str (Qdn 0 (tI ns) num));rw[Qvq ha nb];exact hk
   ·refine⟨_,Ys (j:=1) rfl,_,_,_,rfl,by decide,by decide,?_⟩;show k2 (.str (Qdn 1 (tI ns) bad));rw[Qvp ha hb];exact hk
  refine⟨⟨rfl,rfl,.inr (by decide +kernel)⟩,ifF (by show(!JD (.list [.str "number",.str "stairs"]) (.list [.str "number",.str "stairs"]))=false;decide +kernel) ?_⟩;have ll:(ns.map Qh).length=ns.length:=Qe _;refine⟨_,rfl,by decide,by decide,λr5 r50 r51=>?_⟩;refine⟨show(0:Int)<6 by decide,_,rfl,by omega,by omega,λms hm hml=>?_⟩;have hml:(ms.length:Int)=1+(((ns.map Qh).length:Int)+r5) % 6:=hml;have ne:QjA (tI ns)≠QjA (tI ms):=by
   show(ns.map Qh).length≠(ms.map Qh).length;rw[Qe (as:=ms)];omega
  have hbm:=QfQ hm;refine⟨1,_,_,rfl,by decide,by decide,?_⟩;rw[Qn5 ha hbm ne];refine⟨⟨by decide,by decide⟩,Qcs (Qy2 λ_ => "told") (λd hd k2 hk=>?_) ?_⟩
  ·obtain⟨q,hq⟩:=QZ.mp hd;obtain⟨hq',rfl⟩:=Qcw hq;have hq7:q<7:=hq';have cas:(q % 2=0/\(0+(q:Int)) % 2=((0:Nat):Int))∨(q % 2=1/\(0+(q:Int)) % 2=((1:Nat):Int)):=by omega
   rcases cas with⟨q2,e⟩ | ⟨q2,e⟩
   ·refine⟨cp,show(0:Int)<2 by decide,.int (10^9),?_,_,_,_,rfl,by omega,by omega,?_⟩
    ·rw[e];exact Ys (j:=0) rfl
    ·rw[Qli ha (λ_=>by decide +kernel) (λz=>by omega)];exact hk
   ·refine⟨cp,show(0:Int)<2 by decide,tI ns,?_,_,_,_,rfl,by omega,by omega,?_⟩
    ·rw[e];exact Ys (j:=1) rfl
    ·rw[Qli ha (λz=>by omega) (λ_=>rfl)];exact hk
  refine⟨⟨by decide,by decide,by decide⟩,⟨rfl,rfl,.inr (by decide +kernel)⟩,ifF (by show(!JD (.list [.str "told",.str "told",.str "told",.str "told",.str "told",.str "told",.str "told"]) (.list [.str "told",.str "told",.str "told",.str "told",.str "told",.str "told",.str "told"]))=false;decide +kernel) ?_⟩;exact⟨_,_,_,_,_,_,rfl⟩
 ·rintro δ ⟨x1,x2,x3,x4,x5,x6,rfl⟩;rfl
end
end Rk
namespace Rk
open L2 _root_.Rd
section
variable{P:QC}{w:Ja}{K:PySem.W.Frag}{mg:Str->Option Value}{base:Heap}
theorem Qey:JA ["_law_e", "_law_some", "_law_words"] ["_law_e"] (Qx QkC):=⟨rfl,rfl,rfl,by decide +kernel,rfl,by decide +kernel,by decide +kernel⟩
theorem QtH{f c1 c2 c3 c4 c5 c6 c7 c8 c9 c10 c11 c12 c13 c14 c15 c16 c17 c18 c19:Addr}{fd:QP}(F:Fun K "_law_kind_of" "_law_kind_of" QkC f fd)(T:GlbA mg)(mV:mg "ValueError" = none)
  (m1:mg "NoOrder" = some (.ref c1))(m2:mg "NoSize" = some (.ref c2))(m3:mg "TooMany" = some (.ref c3))(m4:mg "NoNumber" = some (.ref c4))(m5:mg "NoStand" = some (.ref c5))(m6:mg "NotSquare" = some (.ref c6))(m7:mg "NoCounts" = some (.ref c7))(m8:mg "NoHits" = some (.ref c8))(m9:mg "NoStairs" = some (.ref c9))(m10:mg "NotAlike" = some (.ref c10))(m11:mg "NoText" = some (.ref c11))(m12:mg "NoLines" = some (.ref c12))(m13:mg "TooFew" = some (.ref c13))(m14:mg "NoCell" = some (.ref c14))(m15:mg "NoParting" = some (.ref c15))(m16:mg "NoPlace" = some (.ref c16))(m17:mg "Double" = some (.ref c17))(m18:mg "NoDeed" = some (.ref c18))(m19:mg "NoRow" = some (.ref c19)) :
  Rx.FnM P w K mg base 1 f fd ["_law_e"] (QfT K [c1,c2,c3,c4,c5,c6,c7,c8,c9,c10,c11,c12,c13,c14,c15,c16,c17,c18,c19]):=by
 refine Rx.okM F Qey (λvs H Q E h=>?_) (λcdv A outer s H vs Q E hr h=>?_)
 ·obtain⟨a,C,bs,j,wd,rfl,_⟩:=h;rfl
 ·obtain⟨a,C,bs,j,wd,rfl,ha,hc,pb,eV,hcnt,hj,hm,hw,k⟩:=h;refine' ⟨_,ZM (QaO (i:=1) Qey.nd rfl (Jp rfl) (Qbt (Qfq (x := "_law_e") (ns:=["NoOrder", "NoSize", "TooMany", "NoNumber"]) (cs:=[c1,c2,c3,c4]) rfl (Jp rfl) (by decide) (by decide) (by rfl) T.isinstance (by decide +kernel) (by rfl) (.cons m1 (.cons m2 (.cons m3 (.cons m4 .nil))))))) ?p1,?rd⟩
  case p1=>
   show PSs _ _ _;refine' ZM (QaO (i:=1) Qey.nd rfl (Jp rfl) (Qay QeF (pv 1) (Qbt (Qfq (x := "_law_e") (ns:=["NoStand", "NotSquare", "NoCounts", "NoHits"]) (cs:=[c5,c6,c7,c8]) rfl (Jp rfl) (by decide) (by decide) (by rfl) T.isinstance (by decide +kernel) (by rfl) (.cons m5 (.cons m6 (.cons m7 (.cons m8 .nil)))))))) ?_
   show PSs _ _ _;refine' ZM (QaO (i:=1) Qey.nd rfl (Jp rfl) (Qay QeF (pv 1) (Qbt (Qfq (x := "_law_e") (ns:=["NoStairs", "NotAlike", "NoText", "NoLines"]) (cs:=[c9,c10,c11,c12]) rfl (Jp rfl) (by decide) (by decide) (by rfl) T.isinstance (by decide +kernel) (by rfl) (.cons m9 (.cons m10 (.cons m11 (.cons m12 .nil)))))))) ?_
   show PSs _ _ _;refine' ZM (QaO (i:=1) Qey.nd rfl (Jp rfl) (Qay QeF (pv 1) (Qbt (Qfq (x := "_law_e") (ns:=["TooFew", "NoCell", "NoParting", "NoPlace"]) (cs:=[c13,c14,c15,c16]) rfl (Jp rfl) (by decide) (by decide) (by rfl) T.isinstance (by decide +kernel) (by rfl) (.cons m13 (.cons m14 (.cons m15 (.cons m16 .nil)))))))) ?_
   show PSs _ _ _;refine' ZM (QaO (i:=1) Qey.nd rfl (Jp rfl) (Qay QeF (pv 1) (Qbt (Qfq (x := "_law_e") (ns:=["Double", "NoDeed", "NoRow"]) (cs:=[c17,c18,c19]) rfl (Jp rfl) (by decide) (by decide) (by rfl) T.isinstance (by decide +kernel) (by rfl) (.cons m17 (.cons m18 (.cons m19 .nil))))))) ?_
   show PSs _ _ _;refine' ZM (QoC (Qwa (QeD QwJ (Qwn PySem.F.plainAttrs_list PySem.F.slot_list_count PySem.F.type_list_count Rx.Qpn (pv 1) (YG Qtc ZP)) Yl (Qai _)) (Qru (Qrv (QlU (Qa2 Rx.QhI (by rfl) T.isinstance Qbx (YG (pv 0) (YG (Ql0 (v:=.ty "ValueError") (by rfl) mV QzO rfl) ZP))))))).pt (Qbb (QbS Qjm)) Qgb) ?_
   show PSs _ _ _;refine' ZM ?a1 ?_
   case a1=>
    refine' QaO (i:=2) (hs:=?hh) (hf:=?hf) ?hN ?hi ?hx ?he
    case hN=>exact Qey.nd
    case hi=>exact rfl
    case hx=>exact Jp rfl
    case hf=>exact Jp rfl
    case hh=>kernel_rfl
    case he=>
     refine' Qbt ?ww
     case ww=>exact Ql8 (ws:=Qlg) (by kernel_rfl)
   show PSs _ _ _;exact Qbb (QbS (Qiu QdB (Qay QeF (pv 2) (Qay Qtx (Qbt (Qel Qjm ZP)) Yl)) (Qwn PySem.F.plainAttrs_list PySem.F.slot_list_index PySem.F.type_list_index Rx.Qpm (pv 1) (YG Qtc ZP)) (λ_ _=>rfl)))
  obtain⟨b1,bs1,rfl,q1,pb1⟩:=JN pb;obtain⟨b2,bs2,rfl,q2,pb2⟩:=JN pb1;obtain⟨b3,bs3,rfl,q3,pb3⟩:=JN pb2;obtain⟨b4,bs4,rfl,q4,pb4⟩:=JN pb3;obtain⟨b5,bs5,rfl,q5,pb5⟩:=JN pb4;obtain⟨b6,bs6,rfl,q6,pb6⟩:=JN pb5;obtain⟨b7,bs7,rfl,q7,pb7⟩:=JN pb6;obtain⟨b8,bs8,rfl,q8,pb8⟩:=JN pb7;obtain⟨b9,bs9,rfl,q9,pb9⟩:=JN pb8;obtain⟨b10,bs10,rfl,q10,pb10⟩:=JN pb9;obtain⟨b11,bs11,rfl,q11,pb11⟩:=JN pb10;obtain⟨b12,bs12,rfl,q12,pb12⟩:=JN pb11;obtain⟨b13,bs13,rfl,q13,pb13⟩:=JN pb12;obtain⟨b14,bs14,rfl,q14,pb14⟩:=JN pb13;obtain⟨b15,bs15,rfl,q15,pb15⟩:=JN pb14;obtain⟨b16,bs16,rfl,q16,pb16⟩:=JN pb15;obtain⟨b17,bs17,rfl,q17,pb17⟩:=JN pb16;obtain⟨b18,bs18,rfl,q18,pb18⟩:=JN pb17;obtain⟨b19,bs19,rfl,q19,pb19⟩:=JN pb18;cases Qkm pb19;refine⟨a,C,[b1,b2,b3,b4],rfl,ha,hc,(.cons q1 (.cons q2 (.cons q3 (.cons q4 .nil)))),by show 4<=1000;decide,λl1 H1 s1 n1 e_1=>?_⟩;have h1:=s1 _ _ ha;refine⟨_,rfl,a,C,[b5,b6,b7,b8],rfl,h1,hc,(.cons q5 (.cons q6 (.cons q7 (.cons q8 .nil)))),by show 4<=1000;decide,λl2 H2 s2 n2 e_2=>⟨l1,l2,_,_,rfl,rfl,s2 _ _ e_1,e_2,by show 8<=1000;decide,λl3 H3 s3 n3 e_3=>?_⟩⟩;have h3:=s3 _ _ (s2 _ _ h1);refine⟨_,rfl,a,C,[b9,b10,b11,b12],rfl,h3,hc,(.cons q9 (.cons q10 (.cons q11 (.cons q12 .nil)))),by show 4<=1000;decide,λl4 H4 s4 n4 e_4=>⟨l3,l4,_,_,rfl,rfl,s4 _ _ e_3,e_4,by show 12<=1000;decide,λl5 H5 s5 n5 e_5=>?_⟩⟩;have h5:=s5 _ _ (s4 _ _ h3);refine⟨_,rfl,a,C,[b13,b14,b15,b16],rfl,h5,hc,(.cons q13 (.cons q14 (.cons q15 (.cons q16 .nil)))),by show 4<=1000;decide,λl6 H6 s6 n6 e_6=>⟨l5,l6,_,_,rfl,rfl,s6 _ _ e_5,e_6,by show 16<=1000;decide,λl7 H7 s7 n7 e_7=>?_⟩⟩;have h7:=s7 _ _ (s6 _ _ h5);refine⟨_,rfl,a,C,[b17,b18,b19],rfl,h7,hc,(.cons q17 (.cons q18 (.cons q19 .nil))),by show 3<=1000;decide,λl8 H8 s8 n8 e_8=>⟨l7,l8,_,_,rfl,rfl,s8 _ _ e_7,e_8,by show 19<=1000;decide,λl9 H9 s9 n9 e_9=>?_⟩⟩;have h9:=s9 _ _ (s8 _ _ h7);have S:=((((((((s1.trans s2).trans s3).trans s4).trans s5).trans s6).trans s7).trans s8).trans s9);have EL:H9 l9=some (.lst (([b1,b2,b3,b4,b5,b6,b7,b8,b9,b10,b11,b12,b13,b14,b15,b16,b17,b18,b19]:List Bool).map V.bl)):=e_9;refine⟨_,rfl,.inl ⟨rfl,_,SqL.of EL⟩,l9,_,rfl,rfl,EL,rfl,_,rfl,?_⟩;rw[hcnt];refine QzB rfl ?_
  refine⟨_,rfl,a,C,.ty "ValueError",.type "ValueError",true,rfl,h9,hc,(λu r=>r),eV,_,rfl,?_⟩;refine⟨by show 10<=1000;decide,λl10 H10 s10 n10 e_10=>?_⟩;refine⟨_,rfl,by show 1<=1000;decide,λl11 H11 s11 n11 e_11=>⟨l11,_,_,rfl,rfl,e_11,by decide,by decide,by decide,λl12 H12 s12 n12 e_12=>⟨l10,l12,_,_,rfl,rfl,s12 _ _ (s11 _ _ e_10),e_12,by show 10+_<=1000;decide,λl13 H13 s13 n13 e_13=>?_⟩⟩⟩;have EL2:=s13 _ _ (s12 _ _ (s11 _ _ (s10 _ _ EL)));refine⟨_,rfl,.inl ⟨rfl,_,SqL.of EL2⟩,l9,_,j,rfl,rfl,EL2,hj,hm,?_⟩;have EW:H13 l13=some (.lst (Qic.map V.str)):=e_13;exact⟨l13,_,_,.str wd,rfl,rfl,SqL.of EW,Ys (by rw[Qz,hw];rfl),k H13 ((((S.trans s10).trans s11).trans s12).trans s13)⟩
end
end Rk
def PySem.W.Fast.tw3196266456052847598:Nat:=0
def PySem.W.Fast.tw5839061391797377189:Nat:=0
def PySem.W.Fast.tw15149305236637331246:Nat:=0
def PySem.W.Fast.tw13977650845325312775:Nat:=0
def PySem.W.Fast.tw5564948547274392047:Nat:=0
def PySem.W.Fast.tw13464881412794788819:Nat:=0
def PySem.W.Fast.tw5525302756696972345:Nat:=0
def PySem.W.Fast.tw8959967301967945423:Nat:=0
def PySem.W.Fast.tw4930173449885426737:Nat:=0
def PySem.W.Fast.tw17188477646258003755:Nat:=0
def PySem.W.Fast.tw3683695433369587350:Nat:=0
def PySem.W.Fast.tw13149963014510965387:Nat:=0
def PySem.W.Fast.tw2162830303701592889:Nat:=0
def PySem.W.Fast.tw1485812036920973988:Nat:=0
def PySem.W.Fast.tw748213982300002796:Nat:=0
def PySem.W.Fast.tw5660185141299167518:Nat:=0
def PySem.W.Fast.tw6763556129614945835:Nat:=0
def PySem.W.Fast.tw4430980578410709428:Nat:=0
def PySem.W.Fast.tw4297658081817023437:Nat:=0
def PySem.W.Fast.tw9830254503251678340:Nat:=0
def PySem.W.Fast.tw15912196977908781615:Nat:=0
def PySem.W.Fast.tw17018686941066235856:Nat:=0
def PySem.W.Fast.tw7398768055508004308:Nat:=0
def PySem.W.Fast.tw4654157361452717204:Nat:=0
def PySem.W.Fast.tw13058973753339693236:Nat:=0
def PySem.W.Fast.tw6619427301624005504:Nat:=0
def PySem.W.Fast.tw10578911289342967225:Nat:=0
def PySem.W.Fast.tw15618618750137266510:Nat:=0
def PySem.W.Fast.tw1215563066971639766:Nat:=0
def PySem.W.Fast.tw3872807447396475410:Nat:=0
def PySem.W.Fast.tw10581790264172956080:Nat:=0
def PySem.W.Fast.tw12837602086117498374:Nat:=0
def PySem.W.Fast.tw10314986445678119570:Nat:=0
def PySem.W.Fast.tw5203284429120725304:Nat:=0
def PySem.W.Fast.tw4988730229446047950:Nat:=0
def PySem.W.Fast.tw10562211135966920753:Nat:=0
def PySem.W.Fast.tw12151138530771599180:Nat:=0
def PySem.W.Fast.tw6455381025863177678:Nat:=0
def PySem.W.Fast.tw369151693829002170:Nat:=0
def PySem.W.Fast.tw9400063343458419011:Nat:=0
def PySem.W.Fast.tw11963492966296431053:Nat:=0
def PySem.W.Fast.tw17846366337721590430:Nat:=0
def PySem.W.Fast.tw15776196745533248235:Nat:=0
def PySem.W.Fast.tw11738939465235342549:Nat:=0
def PySem.W.Fast.tw8602004833575112850:Nat:=0
def PySem.W.Fast.tw8917241406325286522:Nat:=0
def PySem.W.Fast.tw6949530124192702821:Nat:=0
def PySem.W.Fast.tw2911782718660332364:Nat:=0
def PySem.W.Fast.tw1732638053124120252:Nat:=0
def PySem.W.Fast.tw8906334221244541686:Nat:=0
def PySem.W.Fast.tw3494197376471801774:Nat:=0
def PySem.W.Fast.tw4801432921753490927:Nat:=0
def PySem.W.Fast.tw9477003317889027176:Nat:=0
def PySem.W.Fast.tw17891767727277250214:Nat:=0
def PySem.W.Fast.tw9777493476327934668:Nat:=0
def PySem.W.Fast.tw11065784165785188465:Nat:=0
def PySem.W.Fast.tw17544409603871719773:Nat:=0
def PySem.W.Fast.tw16470223583159648790:Nat:=0
def PySem.W.Fast.tw14475019389056258668:Nat:=0
def PySem.W.Fast.tw4672502796293408560:Nat:=0
def PySem.W.Fast.tw15617750508775772364:Nat:=0
def PySem.W.Fast.tw216905597351826962:Nat:=0
def PySem.W.Fast.tw13497492554450812750:Nat:=0
def PySem.W.Fast.tw1679371673567519515:Nat:=0
def PySem.W.Fast.tw1082212158505804723:Nat:=0
def PySem.W.Fast.tw9860732901330889085:Nat:=0
def PySem.W.Fast.tw10024595723118581745:Nat:=0
def PySem.W.Fast.tw18308116062586162691:Nat:=0
def PySem.W.Fast.tw12969061084733180191:Nat:=0
def PySem.W.Fast.tw14863764619114303279:Nat:=0
def PySem.W.Fast.tw18253699192543171740:Nat:=0
def PySem.W.Fast.tw10333505942979128299:Nat:=0
def PySem.W.Fast.tw2245878398819036554:Nat:=0
def PySem.W.Fast.tw17053459029164615133:Nat:=0
def PySem.W.Fast.tw12382606851628720956:Nat:=0
def PySem.W.Fast.tw13347617888355898803:Nat:=0
def PySem.W.Fast.tw17356862326486661621:Nat:=0
def PySem.W.Fast.tw6025276293412413109:Nat:=0
def PySem.W.Fast.tw1517006540384832298:Nat:=0
def PySem.W.Fast.tw12070840822075367196:Nat:=0
def PySem.W.Fast.tw12006669997570130741:Nat:=0
def PySem.W.Fast.tw16357356829688841640:Nat:=0
def PySem.W.Fast.tw11008828065239237521:Nat:=0
def PySem.W.Fast.tw17206298628333005774:Nat:=0
def PySem.W.Fast.tw8514289401463668234:Nat:=0
def PySem.W.Fast.tw15860145171941029083:Nat:=0
def PySem.W.Fast.tw5623886215724101300:Nat:=0
def PySem.W.Fast.tw4513949452905395767:Nat:=0
def PySem.W.Fast.tw11312274492668870287:Nat:=0
def PySem.W.Fast.tw10973669386479674717:Nat:=0
def PySem.W.Fast.tw15825017709931496043:Nat:=0
def PySem.W.Fast.tw13789249909264320478:Nat:=0
def PySem.W.Fast.tw6945813971006416720:Nat:=0
def PySem.W.Fast.tw852369492990673510:Nat:=0
def PySem.W.Fast.tw14236384991327264394:Nat:=0
def PySem.W.Fast.tw9911507241598735833:Nat:=0
def PySem.W.Fast.tw9793422336448444201:Nat:=0
def PySem.W.Fast.tw7899283264439165913:Nat:=0
def PySem.W.Fast.tw7236615946645822512:Nat:=0
def PySem.W.Fast.tw7529484839186931968:Nat:=0
def PySem.W.Fast.tw354775037925964971:Nat:=0
def PySem.W.Fast.tw13180601845880280341:Nat:=0
def PySem.W.Fast.tw11273577826824435034:Nat:=0
def PySem.W.Fast.tw10245674502598675009:Nat:=0
def PySem.W.Fast.tw10378239335545048849:Nat:=0
def PySem.W.Fast.tw7644107438271375220:Nat:=0
def PySem.W.Fast.tw5802881864370781930:Nat:=0
namespace Rk
open L2
theorem QxS{l:PySem.W.OpenLaw}{w:Ja}{K:PySem.W.Frag}{h:Heap}{mg:Str->Option Value}{fa f1 f2 f3 f4 f5 f6 f7 f8 f9 f10 f11 f12 f13 f14 f15 f16 f17 f18 f19 f20 f21 f22 f23 f24 f25:Addr}(X:K.In h)(G:h.Ns mainGlobals mg)(hfa:mg "law" = some (.ref fa))
  {od1 an1 od2 an2 od3 an3 od4 an4 od5 an5 od6 an6 od7 an7 od8 an8 od9 an9 od10 an10 od11 an11 od12 an12 od13 an13 od14 an14 od15 an15 od16 an16 od17 an17 od18 an18 od19 an19 od20 an20 od21 an21 od22 an22 od23 an23 od24 an24 od25 an25:Option Addr} {sl1 sl2 sl3 sl4 sl5 sl6 sl7 sl8 sl9 sl10 sl11 sl12 sl13 sl14 sl15 sl16 sl17 sl18 sl19 sl20 sl21 sl22 sl23 sl24 sl25:Array (Option Value)} {oc1 kV1 dc1 pm1 cd1 ct1 oc2 kV2 dc2 pm2 cd2 ct2 oc3 kV3 dc3 pm3 cd3 ct3 oc4 kV4 dc4 pm4 cd4 ct4 oc5 kV5 dc5 pm5 cd5 ct5 oc6 kV6 dc6 pm6 cd6 ct6 oc7 kV7 dc7 pm7 cd7 ct7 oc8 kV8 dc8 pm8 cd8 ct8 oc9 kV9 dc9 pm9 cd9 ct9 oc10 kV10 dc10 pm10 cd10 ct10 oc11 kV11 dc11 pm11 cd11 ct11 oc12 kV12 dc12 pm12 cd12 ct12 oc13 kV13 dc13 pm13 cd13 ct13 oc14 kV14 dc14 pm14 cd14 ct14 oc15 kV15 dc15 pm15 cd15 ct15 oc16 kV16 dc16 pm16 cd16 ct16 oc17 kV17 dc17 pm17 cd17 ct17 oc18 kV18 dc18 pm18 cd18 ct18 oc19 kV19 dc19 pm19 cd19 ct19 oc20 kV20 dc20 pm20 cd20 ct20 oc21 kV21 dc21 pm21 cd21 ct21 oc22 kV22 dc22 pm22 cd22 ct22 oc23 kV23 dc23 pm23 cd23 ct23 oc24 kV24 dc24 pm24 cd24 ct24 oc25 kV25 dc25 pm25 cd25 ct25:Value}
  (a1:PySem.W.nsIn K mainGlobals "is_whole" = some (some (.ref f1))) (l1:K.lookup f1=some ⟨oc1,od1,.func (PySem.W.fnOf "is_whole" "is_whole" (Zj Qfm) (JO Qfm) (Qx Qfm) .none kV1 dc1 pm1 an1 cd1 ct1),sl1⟩) (c1:PySem.W.codeIn K cd1 "is_whole" = true) (k1:PySem.W.keepIn K (.ref f1)=true)
  (a2:PySem.W.nsIn K mainGlobals "is_whole_within" = some (some (.ref f2)))(l2:K.lookup f2=some ⟨oc2,od2,.func (PySem.W.fnOf "is_whole_within" "is_whole_within" (Zj Qdr) (JO Qdr) (Qx Qdr) .none kV2 dc2 pm2 an2 cd2 ct2),sl2⟩)(c2:PySem.W.codeIn K cd2 "is_whole_within" = true)(k2:PySem.W.keepIn K (.ref f2)=true)
  (a3:PySem.W.nsIn K mainGlobals "is_never_falling" = some (some (.ref f3)))(l3:K.lookup f3=some ⟨oc3,od3,.func (PySem.W.fnOf "is_never_falling" "is_never_falling" (Zj Qfn) (JO Qfn) (Qx Qfn) .none kV3 dc3 pm3 an3 cd3 ct3),sl3⟩)(c3:PySem.W.codeIn K cd3 "is_never_falling" = true)(k3:PySem.W.keepIn K (.ref f3)=true)
  (a4:PySem.W.nsIn K mainGlobals "all_orders" = some (some (.ref f4)))(l4:K.lookup f4=some ⟨oc4,od4,.func (PySem.W.fnOf "all_orders" "all_orders" (Zj Qki) (JO Qki) (Qx Qki) .none kV4 dc4 pm4 an4 cd4 ct4),sl4⟩)(c4:PySem.W.codeIn K cd4 "all_orders" = true)(k4:PySem.W.keepIn K (.ref f4)=true)
  (a5:PySem.W.nsIn K mainGlobals "others" = some (some (.ref f5)))(l5:K.lookup f5=some ⟨oc5,od5,.func (PySem.W.fnOf "others" "others" (Zj sOth) (JO sOth) (Qx sOth) .none kV5 dc5 pm5 an5 cd5 ct5),sl5⟩)(c5:PySem.W.codeIn K cd5 "others" = true)(k5:PySem.W.keepIn K (.ref f5)=true)
  (a6:PySem.W.nsIn K mainGlobals "is_stairs" = some (some (.ref f6)))(l6:K.lookup f6=some ⟨oc6,od6,.func (PySem.W.fnOf "is_stairs" "is_stairs" (Zj Qds) (JO Qds) (Qx Qds) .none kV6 dc6 pm6 an6 cd6 ct6),sl6⟩)(c6:PySem.W.codeIn K cd6 "is_stairs" = true)(k6:PySem.W.keepIn K (.ref f6)=true)
  (a7:PySem.W.nsIn K mainGlobals "refuse_no_stairs" = some (some (.ref f7)))(l7:K.lookup f7=some ⟨oc7,od7,.func (PySem.W.fnOf "refuse_no_stairs" "refuse_no_stairs" (Zj Qg5) (JO Qg5) (Qx Qg5) .none kV7 dc7 pm7 an7 cd7 ct7),sl7⟩)(c7:PySem.W.codeIn K cd7 "refuse_no_stairs" = true)(k7:PySem.W.keepIn K (.ref f7)=true)
  (a8:PySem.W.nsIn K mainGlobals "stair_board" = some (some (.ref f8)))(l8:K.lookup f8=some ⟨oc8,od8,.func (PySem.W.fnOf "stair_board" "stair_board" (Zj QbP) (JO QbP) (Qx QbP) .none kV8 dc8 pm8 an8 cd8 ct8),sl8⟩)(c8:PySem.W.codeIn K cd8 "stair_board" = true)(k8:PySem.W.keepIn K (.ref f8)=true)
  (a9:PySem.W.nsIn K mainGlobals "heads" = some (some (.ref f9)))(l9:K.lookup f9=some ⟨oc9,od9,.func (PySem.W.fnOf "heads" "heads" (Zj QdT) (JO QdT) (Qx QdT) .none kV9 dc9 pm9 an9 cd9 ct9),sl9⟩)(c9:PySem.W.codeIn K cd9 "heads" = true)(k9:PySem.W.keepIn K (.ref f9)=true)
  (a10:PySem.W.nsIn K mainGlobals "head_counts" = some (some (.ref f10)))(l10:K.lookup f10=some ⟨oc10,od10,.func (PySem.W.fnOf "head_counts" "head_counts" (Zj Qg7) (JO Qg7) (Qx Qg7) .none kV10 dc10 pm10 an10 cd10 ct10),sl10⟩)(c10:PySem.W.codeIn K cd10 "head_counts" = true)(k10:PySem.W.keepIn K (.ref f10)=true)
  (a11:PySem.W.nsIn K mainGlobals "counts_with_column" = some (some (.ref f11)))(l11:K.lookup f11=some ⟨oc11,od11,.func (PySem.W.fnOf "counts_with_column" "counts_with_column" (Zj Qkh) (JO Qkh) (Qx Qkh) .none kV11 dc11 pm11 an11 cd11 ct11),sl11⟩)(c11:PySem.W.codeIn K cd11 "counts_with_column" = true)(k11:PySem.W.keepIn K (.ref f11)=true)
  (a12:PySem.W.nsIn K mainGlobals "product_at" = some (some (.ref f12)))(l12:K.lookup f12=some ⟨oc12,od12,.func (PySem.W.fnOf "product_at" "product_at" (Zj Qg6) (JO Qg6) (Qx Qg6) .none kV12 dc12 pm12 an12 cd12 ct12),sl12⟩)(c12:PySem.W.codeIn K cd12 "product_at" = true)(k12:PySem.W.keepIn K (.ref f12)=true)
  (a13:PySem.W.nsIn K mainGlobals "same_counts" = some (some (.ref f13)))(l13:K.lookup f13=some ⟨oc13,od13,.func (PySem.W.fnOf "same_counts" "same_counts" (Zj QdR) (JO QdR) (Qx QdR) .none kV13 dc13 pm13 an13 cd13 ct13),sl13⟩)(c13:PySem.W.codeIn K cd13 "same_counts" = true)(k13:PySem.W.keepIn K (.ref f13)=true)
  (a14:PySem.W.nsIn K mainGlobals "all_stairs" = some (some (.ref f14)))(l14:K.lookup f14=some ⟨oc14,od14,.func (PySem.W.fnOf "all_stairs" "all_stairs" (Zj Qf2) (JO Qf2) (Qx Qf2) .none kV14 dc14 pm14 an14 cd14 ct14),sl14⟩)(c14:PySem.W.codeIn K cd14 "all_stairs" = true)(k14:PySem.W.keepIn K (.ref f14)=true)
  (a15:PySem.W.nsIn K mainGlobals "numbers_by" = some (some (.ref f15)))(l15:K.lookup f15=some ⟨oc15,od15,.func (PySem.W.fnOf "numbers_by" "numbers_by" (Zj sNBy) (JO sNBy) (Qx sNBy) .none kV15 dc15 pm15 an15 cd15 ct15),sl15⟩)(c15:PySem.W.codeIn K cd15 "numbers_by" = true)(k15:PySem.W.keepIn K (.ref f15)=true)
  (a16:PySem.W.nsIn K mainGlobals "risen" = some (some (.ref f16)))(l16:K.lookup f16=some ⟨oc16,od16,.func (PySem.W.fnOf "risen" "risen" (Zj QdS) (JO QdS) (Qx QdS) .none kV16 dc16 pm16 an16 cd16 ct16),sl16⟩)(c16:PySem.W.codeIn K cd16 "risen" = true)(k16:PySem.W.keepIn K (.ref f16)=true)
  (a17:PySem.W.nsIn K mainGlobals "is_risen" = some (some (.ref f17)))(l17:K.lookup f17=some ⟨oc17,od17,.func (PySem.W.fnOf "is_risen" "is_risen" (Zj sIsR) (JO sIsR) (Qx sIsR) .none kV17 dc17 pm17 an17 cd17 ct17),sl17⟩)(c17:PySem.W.codeIn K cd17 "is_risen" = true)(k17:PySem.W.keepIn K (.ref f17)=true)
  (a18:PySem.W.nsIn K mainGlobals "_law_cell_at" = some (some (.ref f18)))(l18:K.lookup f18=some ⟨oc18,od18,.func (PySem.W.fnOf "_law_cell_at" "_law_cell_at" (Zj QdA) (JO QdA) (Qx QdA) .none kV18 dc18 pm18 an18 cd18 ct18),sl18⟩)(c18:PySem.W.codeIn K cd18 "_law_cell_at" = true)(k18:PySem.W.keepIn K (.ref f18)=true)
  (a19:PySem.W.nsIn K mainGlobals "_law_pot" = some (some (.ref f19)))(l19:K.lookup f19=some ⟨oc19,od19,.func (PySem.W.fnOf "_law_pot" "_law_pot" (Zj lPot) (JO lPot) (Qx lPot) .none kV19 dc19 pm19 an19 cd19 ct19),sl19⟩)(c19:PySem.W.codeIn K cd19 "_law_pot" = true)(k19:PySem.W.keepIn K (.ref f19)=true)
  (a20:PySem.W.nsIn K mainGlobals "_law_take" = some (some (.ref f20)))(l20:K.lookup f20=some ⟨oc20,od20,.func (PySem.W.fnOf "_law_take" "_law_take" (Zj QkA) (JO QkA) (Qx QkA) .none kV20 dc20 pm20 an20 cd20 ct20),sl20⟩)(c20:PySem.W.codeIn K cd20 "_law_take" = true)(k20:PySem.W.keepIn K (.ref f20)=true)
  (a21:PySem.W.nsIn K mainGlobals "_law_stairs" = some (some (.ref f21)))(l21:K.lookup f21=some ⟨oc21,od21,.func (PySem.W.fnOf "_law_stairs" "_law_stairs" (Zj Qdz) (JO Qdz) (Qx Qdz) .none kV21 dc21 pm21 an21 cd21 ct21),sl21⟩)(c21:PySem.W.codeIn K cd21 "_law_stairs" = true)(k21:PySem.W.keepIn K (.ref f21)=true)
  (a22:PySem.W.nsIn K mainGlobals "_law_kind_of" = some (some (.ref f22)))(l22:K.lookup f22=some ⟨oc22,od22,.func (PySem.W.fnOf "_law_kind_of" "_law_kind_of" (Zj QkC) (JO QkC) (Qx QkC) .none kV22 dc22 pm22 an22 cd22 ct22),sl22⟩)(c22:PySem.W.codeIn K cd22 "_law_kind_of" = true)(k22:PySem.W.keepIn K (.ref f22)=true)
  (a23:PySem.W.nsIn K mainGlobals "_law_told" = some (some (.ref f23)))(l23:K.lookup f23=some ⟨oc23,od23,.func (PySem.W.fnOf "_law_told" "_law_told" (Zj Qkz) (JO Qkz) (Qx Qkz) .none kV23 dc23 pm23 an23 cd23 ct23),sl23⟩)(c23:PySem.W.codeIn K cd23 "_law_told" = true)(k23:PySem.W.keepIn K (.ref f23)=true)
  (a24:PySem.W.nsIn K mainGlobals "_law_none" = some (some (.ref f24)))(l24:K.lookup f24=some ⟨oc24,od24,.func (PySem.W.fnOf "_law_none" "_law_none" (Zj QkB) (JO QkB) (Qx QkB) .none kV24 dc24 pm24 an24 cd24 ct24),sl24⟩)(c24:PySem.W.codeIn K cd24 "_law_none" = true)(k24:PySem.W.keepIn K (.ref f24)=true)
  (a25:PySem.W.nsIn K mainGlobals "law" = some (some (.ref f25)))(l25:K.lookup f25=some ⟨oc25,od25,.func (PySem.W.fnOf "law" "law" (Zj sLaw) (JO sLaw) (Qx sLaw) .none kV25 dc25 pm25 an25 cd25 ct25),sl25⟩)(c25:PySem.W.codeIn K cd25 "law" = true)(k25:PySem.W.keepIn K (.ref f25)=true)
  (z1:PySem.W.nsIn K mainGlobals "isinstance" = some none)
  (z2:PySem.W.nsIn K mainGlobals "int" = some none)
  (z3:PySem.W.nsIn K mainGlobals "bool" = some none)
  (z4:PySem.W.nsIn K mainGlobals "str" = some none)
  (z5:PySem.W.nsIn K mainGlobals "tuple" = some none)
  (z6:PySem.W.nsIn K mainGlobals "list" = some none)
  (z7:PySem.W.nsIn K mainGlobals "all" = some none)
  (z8:PySem.W.nsIn K mainGlobals "len" = some none)
  (z9:PySem.W.nsIn K mainGlobals "zip" = some none)
  (z10:PySem.W.nsIn K mainGlobals "enumerate" = some none)
  (z11:PySem.W.nsIn K mainGlobals "range" = some none)
  (z12:PySem.W.nsIn K mainGlobals "max" = some none)
  (z13:PySem.W.nsIn K mainGlobals "min" = some none)
  (z14:PySem.W.nsIn K mainGlobals "sorted" = some none)
  (z15:PySem.W.nsIn K mainGlobals "sum" = some none)
  (z16:PySem.W.nsIn K mainGlobals "set" = some none)
  (z17:PySem.W.nsIn K mainGlobals "any" = some none)
  (z18:PySem.W.nsIn K mainGlobals "reversed" = some none)
  (z19:PySem.W.nsIn K mainGlobals "divmod" = some none)
  (z20:PySem.W.nsIn K mainGlobals "ValueError" = some none)
  {tA:_} (aA:PySem.W.nsIn K mainGlobals "MOST_LINES" = some (some (.int 6 tA)))
  {tB:_} (aB:PySem.W.nsIn K mainGlobals "MOST_TAKEN" = some (some (.int 1000000000 tB)))
  {cc1:Addr} (e1:PySem.W.nsIn K mainGlobals "NoOrder" = some (some (.ref cc1)))
  {cc2:Addr} (e2:PySem.W.nsIn K mainGlobals "NoSize" = some (some (.ref cc2)))
  {cc3:Addr} (e3:PySem.W.nsIn K mainGlobals "TooMany" = some (some (.ref cc3)))
  {cc4:Addr} (e4:PySem.W.nsIn K mainGlobals "NoNumber" = some (some (.ref cc4)))
  {cc5:Addr} (e5:PySem.W.nsIn K mainGlobals "NoStand" = some (some (.ref cc5)))
  {cc6:Addr} (e6:PySem.W.nsIn K mainGlobals "NotSquare" = some (some (.ref cc6)))
  {cc7:Addr} (e7:PySem.W.nsIn K mainGlobals "NoCounts" = some (some (.ref cc7)))
  {cc8:Addr} (e8:PySem.W.nsIn K mainGlobals "NoHits" = some (some (.ref cc8)))
  {cc9:Addr} (e9:PySem.W.nsIn K mainGlobals "NoStairs" = some (some (.ref cc9)))
  {cc10:Addr} (e10:PySem.W.nsIn K mainGlobals "NotAlike" = some (some (.ref cc10)))
  {cc11:Addr} (e11:PySem.W.nsIn K mainGlobals "NoText" = some (some (.ref cc11)))
  {cc12:Addr} (e12:PySem.W.nsIn K mainGlobals "NoLines" = some (some (.ref cc12)))
  {cc13:Addr} (e13:PySem.W.nsIn K mainGlobals "TooFew" = some (some (.ref cc13)))
  {cc14:Addr} (e14:PySem.W.nsIn K mainGlobals "NoCell" = some (some (.ref cc14)))
  {cc15:Addr} (e15:PySem.W.nsIn K mainGlobals "NoParting" = some (some (.ref cc15)))
  {cc16:Addr} (e16:PySem.W.nsIn K mainGlobals "NoPlace" = some (some (.ref cc16)))
  {cc17:Addr} (e17:PySem.W.nsIn K mainGlobals "Double" = some (some (.ref cc17)))
  {cc18:Addr} (e18:PySem.W.nsIn K mainGlobals "NoDeed" = some (some (.ref cc18)))
  {cc19:Addr} (e19:PySem.W.nsIn K mainGlobals "NoRow" = some (some (.ref cc19)))
  {cR:Addr} (eR:PySem.W.nsIn K mainGlobals "RookError" = some (some (.ref cR)))
  (r1:PySem.W.typeIn K (.ref cR)=some (.type "type"))
  {dR:_} (r2:PySem.W.clsIn K cR=some dR)
  (r3:PySem.W.mroIn K cR (.type "BaseException")=some true)
  (u1:PySem.W.specialIn K (.builtin "object.__class__") "__get__" = some (some (.builtin "getset_descriptor.__get__")))
  (u2:PySem.W.takesIn K (.builtin "object.__class__")=some true)
  (q9x:PySem.W.excIn K cc9 Rx.mroV "ValueError.__new__" = true)
  (q9r:PySem.W.mroIn K cc9 (.ref cR)=some true)
  (q9g:PySem.W.findIn K (.ref cc9) "__getattribute__" = some (some (.builtin "BaseException.__getattribute__")))
  (q9h:PySem.W.findIn K (.ref cc9) "__getattr__" = some none)
  (q9b:PySem.W.mroIn K cc9 (.type "BaseException")=some true)
  {dq9:_} (q9c:PySem.W.clsIn K cc9=some dq9)
  (q9a:PySem.W.findIn K (.ref cc9) "__class__" = some (some (.builtin "object.__class__")))
  (q9o:PySem.W.mroIn K cc9 (.type "object")=some true)
  (q9v:PySem.W.kitOne K (.ref cc9) (.type "ValueError")=some true)
  (q9k1:PySem.W.kitOne K (.ref cc9) (.ref cc1)=some false)
  (q9k2:PySem.W.kitOne K (.ref cc9) (.ref cc2)=some false)
  (q9k3:PySem.W.kitOne K (.ref cc9) (.ref cc3)=some false)
  (q9k4:PySem.W.kitOne K (.ref cc9) (.ref cc4)=some false)
  (q9k5:PySem.W.kitOne K (.ref cc9) (.ref cc5)=some false)
  (q9k6:PySem.W.kitOne K (.ref cc9) (.ref cc6)=some false)
  (q9k7:PySem.W.kitOne K (.ref cc9) (.ref cc7)=some false)
  (q9k8:PySem.W.kitOne K (.ref cc9) (.ref cc8)=some false)
  (q9k9:PySem.W.kitOne K (.ref cc9) (.ref cc9)=some true)
  (q9k10:PySem.W.kitOne K (.ref cc9) (.ref cc10)=some false)
  (q9k11:PySem.W.kitOne K (.ref cc9) (.ref cc11)=some false)
  (q9k12:PySem.W.kitOne K (.ref cc9) (.ref cc12)=some false)
  (q9k13:PySem.W.kitOne K (.ref cc9) (.ref cc13)=some false)
  (q9k14:PySem.W.kitOne K (.ref cc9) (.ref cc14)=some false)
  (q9k15:PySem.W.kitOne K (.ref cc9) (.ref cc15)=some false)
  (q9k16:PySem.W.kitOne K (.ref cc9) (.ref cc16)=some false)
  (q9k17:PySem.W.kitOne K (.ref cc9) (.ref cc17)=some false)
  (q9k18:PySem.W.kitOne K (.ref cc9) (.ref cc18)=some false)
  (q9k19:PySem.W.kitOne K (.ref cc9) (.ref cc19)=some false)
  (q4x:PySem.W.excIn K cc4 Rx.mroV "ValueError.__new__" = true)
  (q4r:PySem.W.mroIn K cc4 (.ref cR)=some true)
  (q4g:PySem.W.findIn K (.ref cc4) "__getattribute__" = some (some (.builtin "BaseException.__getattribute__")))
  (q4h:PySem.W.findIn K (.ref cc4) "__getattr__" = some none)
  (q4b:PySem.W.mroIn K cc4 (.type "BaseException")=some true)
  {dq4:_} (q4c:PySem.W.clsIn K cc4=some dq4)
  (q4a:PySem.W.findIn K (.ref cc4) "__class__" = some (some (.builtin "object.__class__")))
  (q4o:PySem.W.mroIn K cc4 (.type "object")=some true)
  (q4v:PySem.W.kitOne K (.ref cc4) (.type "ValueError")=some true)
  (q4k1:PySem.W.kitOne K (.ref cc4) (.ref cc1)=some false)
  (q4k2:PySem.W.kitOne K (.ref cc4) (.ref cc2)=some false)
  (q4k3:PySem.W.kitOne K (.ref cc4) (.ref cc3)=some false)
  (q4k4:PySem.W.kitOne K (.ref cc4) (.ref cc4)=some true)
  (q4k5:PySem.W.kitOne K (.ref cc4) (.ref cc5)=some false)
  (q4k6:PySem.W.kitOne K (.ref cc4) (.ref cc6)=some false)
  (q4k7:PySem.W.kitOne K (.ref cc4) (.ref cc7)=some false)
  (q4k8:PySem.W.kitOne K (.ref cc4) (.ref cc8)=some false)
  (q4k9:PySem.W.kitOne K (.ref cc4) (.ref cc9)=some false)
  (q4k10:PySem.W.kitOne K (.ref cc4) (.ref cc10)=some false)
  (q4k11:PySem.W.kitOne K (.ref cc4) (.ref cc11)=some false)
  (q4k12:PySem.W.kitOne K (.ref cc4) (.ref cc12)=some false)
  (q4k13:PySem.W.kitOne K (.ref cc4) (.ref cc13)=some false)
  (q4k14:PySem.W.kitOne K (.ref cc4) (.ref cc14)=some false)
  (q4k15:PySem.W.kitOne K (.ref cc4) (.ref cc15)=some false)
  (q4k16:PySem.W.kitOne K (.ref cc4) (.ref cc16)=some false)
  (q4k17:PySem.W.kitOne K (.ref cc4) (.ref cc17)=some false)
  (q4k18:PySem.W.kitOne K (.ref cc4) (.ref cc18)=some false)
  (q4k19:PySem.W.kitOne K (.ref cc4) (.ref cc19)=some false)
  (q10x:PySem.W.excIn K cc10 Rx.mroV "ValueError.__new__" = true)
  (q10r:PySem.W.mroIn K cc10 (.ref cR)=some true)
  (q10g:PySem.W.findIn K (.ref cc10) "__getattribute__" = some (some (.builtin "BaseException.__getattribute__")))
  (q10h:PySem.W.findIn K (.ref cc10) "__getattr__" = some none)
  (q10b:PySem.W.mroIn K cc10 (.type "BaseException")=some true)
  {dq10:_} (q10c:PySem.W.clsIn K cc10=some dq10)
  (q10a:PySem.W.findIn K (.ref cc10) "__class__" = some (some (.builtin "object.__class__")))
  (q10o:PySem.W.mroIn K cc10 (.type "object")=some true)
  (q10v:PySem.W.kitOne K (.ref cc10) (.type "ValueError")=some true)
  (q10k1:PySem.W.kitOne K (.ref cc10) (.ref cc1)=some false)
  (q10k2:PySem.W.kitOne K (.ref cc10) (.ref cc2)=some false)
  (q10k3:PySem.W.kitOne K (.ref cc10) (.ref cc3)=some false)
  (q10k4:PySem.W.kitOne K (.ref cc10) (.ref cc4)=some false)
  (q10k5:PySem.W.kitOne K (.ref cc10) (.ref cc5)=some false)
  (q10k6:PySem.W.kitOne K (.ref cc10) (.ref cc6)=some false)
  (q10k7:PySem.W.kitOne K (.ref cc10) (.ref cc7)=some false)
  (q10k8:PySem.W.kitOne K (.ref cc10) (.ref cc8)=some false)
  (q10k9:PySem.W.kitOne K (.ref cc10) (.ref cc9)=some false)
  (q10k10:PySem.W.kitOne K (.ref cc10) (.ref cc10)=some true)
  (q10k11:PySem.W.kitOne K (.ref cc10) (.ref cc11)=some false)
  (q10k12:PySem.W.kitOne K (.ref cc10) (.ref cc12)=some false)
  (q10k13:PySem.W.kitOne K (.ref cc10) (.ref cc13)=some false)
  (q10k14:PySem.W.kitOne K (.ref cc10) (.ref cc14)=some false)
  (q10k15:PySem.W.kitOne K (.ref cc10) (.ref cc15)=some false)
  (q10k16:PySem.W.kitOne K (.ref cc10) (.ref cc16)=some false)
  (q10k17:PySem.W.kitOne K (.ref cc10) (.ref cc17)=some false)
  (q10k18:PySem.W.kitOne K (.ref cc10) (.ref cc18)=some false)
  (q10k19:PySem.W.kitOne K (.ref cc10) (.ref cc19)=some false)
  :
  ∃fd:QP,(∀(s:Shared)(v:Value),Qe7 s fd ⟨[v],[]⟩ [("_law_script",v)])/\∀base:Heap,K.In base->base.Ns mainGlobals mg->FnOk l.prog w K mg base CX0 9 fa fd ["_law_script"] (Dl.Qfk K):=by
 have e:=hfa.symm.trans (PySem.W.mg_of X G a25);cases e;have T:=(⟨(PySem.W.mg_none_of X G z1),(PySem.W.mg_none_of X G z2),(PySem.W.mg_none_of X G z3),(PySem.W.mg_none_of X G z4),(PySem.W.mg_none_of X G z5),(PySem.W.mg_none_of X G z6),(PySem.W.mg_none_of X G z7),(PySem.W.mg_none_of X G z8),(PySem.W.mg_none_of X G z9),(PySem.W.mg_none_of X G z10),(PySem.W.mg_none_of X G z11),(PySem.W.mg_none_of X G z12),(PySem.W.mg_none_of X G z13),(PySem.W.mg_none_of X G z14),(PySem.W.mg_none_of X G z15),(PySem.W.mg_none_of X G z16),(PySem.W.mg_none_of X G z17),(PySem.W.mg_none_of X G z18),(PySem.W.mg_none_of X G z19)⟩:GlbA mg);have F1:=Yi (st:=Qfm) l1 c1 k1;have b1:=F1.binds (ps:=["thing"]) λ_ _ _ _ _ _ us hl=>match us,hl with | [_],_=>rfl
 have m1:=PySem.W.mg_of X G a1;have F2:=Yi (st:=Qdr) l2 c2 k2;have b2:=F2.binds (ps:=["thing", "least", "most"]) λ_ _ _ _ _ _ us hl=>match us,hl with | [_,_,_],_=>rfl
 have m2:=PySem.W.mg_of X G a2;have F3:=Yi (st:=Qfn) l3 c3 k3;have b3:=F3.binds (ps:=["things"]) λ_ _ _ _ _ _ us hl=>match us,hl with | [_],_=>rfl
 have m3:=PySem.W.mg_of X G a3;have F4:=Yi (st:=Qki) l4 c4 k4;have b4:=F4.binds (ps:=["many"]) λ_ _ _ _ _ _ us hl=>match us,hl with | [_],_=>rfl
 have m4:=PySem.W.mg_of X G a4;have F5:=Yi (st:=sOth) l5 c5 k5;have b5:=F5.binds (ps:=["many", "numbers"]) λ_ _ _ _ _ _ us hl=>match us,hl with | [_,_],_=>rfl
 have m5:=PySem.W.mg_of X G a5;have F6:=Yi (st:=Qds) l6 c6 k6;have b6:=F6.binds (ps:=["thing"]) λ_ _ _ _ _ _ us hl=>match us,hl with | [_],_=>rfl
 have m6:=PySem.W.mg_of X G a6;have F7:=Yi (st:=Qg5) l7 c7 k7;have b7:=F7.binds (ps:=["stairs"]) λ_ _ _ _ _ _ us hl=>match us,hl with | [_],_=>rfl
 have m7:=PySem.W.mg_of X G a7;have F8:=Yi (st:=QbP) l8 c8 k8;have b8:=F8.binds (ps:=["stairs"]) λ_ _ _ _ _ _ us hl=>match us,hl with | [_],_=>rfl
 have m8:=PySem.W.mg_of X G a8;have F9:=Yi (st:=QdT) l9 c9 k9;have b9:=F9.binds (ps:=["stairs"]) λ_ _ _ _ _ _ us hl=>match us,hl with | [_],_=>rfl
 have m9:=PySem.W.mg_of X G a9;have F10:=Yi (st:=Qg7) l10 c10 k10;have b10:=F10.binds (ps:=["stairs"]) λ_ _ _ _ _ _ us hl=>match us,hl with | [_],_=>rfl
 have m10:=PySem.W.mg_of X G a10;have F11:=Yi (st:=Qkh) l11 c11 k11;have b11:=F11.binds (ps:=["told", "number"]) λ_ _ _ _ _ _ us hl=>match us,hl with | [_,_],_=>rfl
 have m11:=PySem.W.mg_of X G a11;have F12:=Yi (st:=Qg6) l12 c12 k12;have b12:=F12.binds (ps:=["stairs", "number"]) λ_ _ _ _ _ _ us hl=>match us,hl with | [_,_],_=>rfl
 have m12:=PySem.W.mg_of X G a12;have F13:=Yi (st:=QdR) l13 c13 k13;have b13:=F13.binds (ps:=["one", "other"]) λ_ _ _ _ _ _ us hl=>match us,hl with | [_,_],_=>rfl
 have m13:=PySem.W.mg_of X G a13;have F14:=Yi (st:=Qf2) l14 c14 k14;have b14:=F14.binds (ps:=["stairs"]) λ_ _ _ _ _ _ us hl=>match us,hl with | [_],_=>rfl
 have m14:=PySem.W.mg_of X G a14;have F15:=Yi (st:=sNBy) l15 c15 k15;have b15:=F15.binds (ps:=["put", "order"]) λ_ _ _ _ _ _ us hl=>match us,hl with | [_,_],_=>rfl
 have m15:=PySem.W.mg_of X G a15;have F16:=Yi (st:=QdS) l16 c16 k16;have b16:=F16.binds (ps:=["stairs"]) λ_ _ _ _ _ _ us hl=>match us,hl with | [_],_=>rfl
 have m16:=PySem.W.mg_of X G a16;have F17:=Yi (st:=sIsR) l17 c17 k17;have b17:=F17.binds (ps:=["numbers"]) λ_ _ _ _ _ _ us hl=>match us,hl with | [_],_=>rfl
 have m17:=PySem.W.mg_of X G a17;have F18:=Yi (st:=QdA) l18 c18 k18;have b18:=F18.binds (ps:=["_law_script", "_law_k"]) λ_ _ _ _ _ _ us hl=>match us,hl with | [_,_],_=>rfl
 have m18:=PySem.W.mg_of X G a18;have F19:=Yi (st:=lPot) l19 c19 k19;have b19:=F19.binds (ps:=["_law_cell"]) λ_ _ _ _ _ _ us hl=>match us,hl with | [_],_=>rfl
 have m19:=PySem.W.mg_of X G a19;have F20:=Yi (st:=QkA) l20 c20 k20;have b20:=F20.binds (ps:=["_law_pot_here", "_law_far"]) λ_ _ _ _ _ _ us hl=>match us,hl with | [_,_],_=>rfl
 have m20:=PySem.W.mg_of X G a20;have F21:=Yi (st:=Qdz) l21 c21 k21;have b21:=F21.binds (ps:=["_law_pot_here", "_law_columns", "_law_most"]) λ_ _ _ _ _ _ us hl=>match us,hl with | [_,_,_],_=>rfl
 have m21:=PySem.W.mg_of X G a21;have F22:=Yi (st:=QkC) l22 c22 k22;have b22:=F22.binds (ps:=["_law_e"]) λ_ _ _ _ _ _ us hl=>match us,hl with | [_],_=>rfl
 have m22:=PySem.W.mg_of X G a22;have F23:=Yi (st:=Qkz) l23 c23 k23;have b23:=F23.binds (ps:=["_law_way", "_law_stairs_here", "_law_other"]) λ_ _ _ _ _ _ us hl=>match us,hl with | [_,_,_],_=>rfl
 have m23:=PySem.W.mg_of X G a23;have F24:=Yi (st:=QkB) l24 c24 k24;have b24:=F24.binds (ps:=["_law_pot_here", "_law_stairs_here"]) λ_ _ _ _ _ _ us hl=>match us,hl with | [_,_],_=>rfl
 have m24:=PySem.W.mg_of X G a24;have F25:=Yi (st:=sLaw) l25 c25 k25;refine⟨PySem.W.fnOf "law" "law" (Zj sLaw) (JO sLaw) (Qx sLaw) .none kV25 dc25 pm25 an25 cd25 ct25,λs v=>.of_eq rfl,λbase _ _=>?_⟩;have G1:FnOk l.prog w K mg base CX0 1 f1 _ ["thing"] (Dl.Zf false Dl.Qlh):=Qpc F1 T ;have G2:FnOk l.prog w K mg base CX0 2 f2 _ ["thing", "least", "most"] (Dl.Zf false Qev):=Qmg F2 T m1 G1 b1 k1;have G3:FnOk l.prog w K mg base CX0 1 f3 _ ["things"] (Dl.Zf false Qhm):=Qpe F3 T ;have G6:FnOk l.prog w K mg base CX0 3 f6 _ ["thing"] (Dl.Zf false QfR):=Qmh ⟨_,PySem.W.mg_of X G aA⟩ F6 T m2 G2 b2 k2 m3 G3 b3 k3;have G7:FnOk l.prog w K mg base CX0 4 f7 _ ["stairs"] (Dl.Zf false Qir):=Qpd F7 T m6 G6 b6 k6;have G9:FnOk l.prog w K mg base CX0 5 f9 _ ["stairs"] (Dl.Zf true Qhy):=Qpf F9 T m7 G7 b7 k7;have G8:FnOk l.prog w K mg base CX0 5 f8 _ ["stairs"] (Dl.Zf false Qz1):=Qmi F8 T m7 G7 b7 k7;have G11:FnOk l.prog w K mg base CX0 1 f11 _ ["told", "number"] (Dl.Zf true QuG):=QtJ F11 T ;have G10:FnOk l.prog w K mg base CX0 5 f10 _ ["stairs"] (Dl.Zf true QAl):=QtI F10 T m7 G7 b7 k7 m11 G11 b11 k11;have G12:FnOk l.prog w K mg base CX0 6 f12 _ ["stairs", "number"] (Dl.Zf false Qs3):=QtF ⟨_,PySem.W.mg_of X G aB⟩ F12 T m7 G7 b7 k7 m2 G2 b2 k2 m9 G9 b9 k9;have G5:FnOk l.prog w K mg base CX0 1 f5 _ ["many", "numbers"] (Dl.Zf false Qzt):=QwU F5 T ;have G4:FnOk l.prog w K mg base CX0 2 f4 _ ["many"] (Dl.Zf true Qtw):=QtK F4 T m5 G5 b5 k5;have G15:FnOk l.prog w K mg base CX0 1 f15 _ ["put", "order"] (Dl.Zf false Qyi):=QwV F15 T ;have G14:FnOk l.prog w K mg base CX0 6 f14 _ ["stairs"] (Dl.Zf true QnE):=(Qpg F14 T m9 G9 b9 k9 m15 G15 b15 k15 m4 G4 b4 k4 m3 G3 b3 k3).imp λ_ _ _ _ h=>QxR h
 have G17:FnOk l.prog w K mg base CX0 1 f17 _ ["numbers"] (Dl.Zf false Qyk):=QwX F17 T ;have G16:FnOk l.prog w K mg base CX0 7 f16 _ ["stairs"] (Dl.Zf false Qz3):=QwQ F16 T m14 G14 b14 k14 m17 G17 b17 k17;have G13:FnOk l.prog w K mg base CX0 6 f13 _ ["one", "other"] (Dl.Zf false Qy3):=QwN F13 T m7 G7 b7 k7 m9 G9 b9 k9;have F26:=F7;have m26:=m7;have b26:=b7;have k26:=k7;have G26:FnOk l.prog w K mg base (Rx.CXE l.prog w) 4 f7 _ ["stairs"] (Dl.Zf false (Qiq cc9)):=QtE F26 T m6 G6 b6 k6 (PySem.W.mg_of X G e9) q9x;have F27:=F8;have m27:=m8;have b27:=b8;have k27:=k8;have G27:FnOk l.prog w K mg base (Rx.CXE l.prog w) 5 f8 _ ["stairs"] (Dl.Zf false (QgK cc9)):=((FnOk.or (FnOk.ex G8) (QwP F27 T m26 G26 b26 k26)).imp λ_ _ _ _ h=>Qij (Qhi λns R EX hs hR=>⟨ns,rfl,hs,hR _⟩) h);have F28:=F9;have m28:=m9;have b28:=b9;have k28:=k9;have G28:FnOk l.prog w K mg base (Rx.CXE l.prog w) 5 f9 _ ["stairs"] (Dl.Zf true (QgK cc9)):=((FnOk.or (FnOk.ex G9) (QwY F28 T m26 G26 b26 k26)).imp λ_ _ _ _ h=>Qij (Qhi λns R EX hs hR=>⟨ns,rfl,hs,λms _ _=>hR _⟩) h);have F29:=F10;have m29:=m10;have b29:=b10;have k29:=k10;have G29:FnOk l.prog w K mg base (Rx.CXE l.prog w) 5 f10 _ ["stairs"] (Dl.Zf true (QgK cc9)):=((FnOk.or (FnOk.ex G10) (QwZ F29 T m26 G26 b26 k26)).imp λ_ _ _ _ h=>Qij (Qhi λns R EX hs hR=>⟨ns,rfl,hs,hR _⟩) h);have F30:=F14;have m30:=m14;have b30:=b14;have k30:=k14;have G30:FnOk l.prog w K mg base (Rx.CXE l.prog w) 6 f14 _ ["stairs"] (Dl.Zf true (QgK cc9)):=((FnOk.or (FnOk.ex G14) (Qw0 F30 T m28 G28 b28 k28)).imp λ_ _ _ _ h=>Qij (Qhi λns R EX hs hR=>⟨ns,rfl,hs,λrows _=>hR _⟩) h);have F31:=F16;have m31:=m16;have b31:=b16;have k31:=k16;have G31:FnOk l.prog w K mg base (Rx.CXE l.prog w) 7 f16 _ ["stairs"] (Dl.Zf false (QgK cc9)):=((FnOk.or (FnOk.ex G16) (QwR F31 T m30 G30 b30 k30 m17 G17 b17 k17)).imp λ_ _ _ _ h=>Qij (Qhi λns R EX hs hR=>⟨ns,rfl,hs,λx _ _=>hR _⟩) h);have F32:=F12;have m32:=m12;have b32:=b12;have k32:=k12;have G32:FnOk l.prog w K mg base (Rx.CXE l.prog w) 6 f12 _ ["stairs", "number"] (Dl.Zf false (QoD cc9 cc4)):=((FnOk.or (FnOk.ex G12) (QwS ⟨_,PySem.W.mg_of X G aB⟩ F32 T m26 G26 b26 k26 m2 G2 b2 k2 (PySem.W.mg_of X G e4) q4x)).imp λ_ _ _ _ h=>Qij Qs2 h);have F33:=F13;have m33:=m13;have b33:=b13;have k33:=k13;have G33:FnOk l.prog w K mg base (Rx.CXE l.prog w) 6 f13 _ ["one", "other"] (Dl.Zf false (Qye cc9 cc10)):=((FnOk.or (FnOk.ex G13) (QwO F33 T m26 G26 b26 k26 (PySem.W.mg_of X G e10) q10x)).imp λ_ _ _ _ h=>Qij QvD h);have G18:FnOk l.prog w K mg base CX0 1 f18 _ ["_law_script", "_law_k"] (QcU K):=Qmj F18 T ;have G19:FnOk l.prog w K mg base CX0 1 f19 _ ["_law_cell"] (Dl.Zf true Dl.Qzj):=(QwT F19 T).imp λ_ _ _ _ h=>Dl.Qzi h
 have G20:FnOk l.prog w K mg base CX0 1 f20 _ ["_law_pot_here", "_law_far"] (Dl.Zf true Dl.Qlo):=(QtD F20 T).imp λ_ _ _ _ h=>Dl.Qvy h
 have G21:FnOk l.prog w K mg base CX0 2 f21 _ ["_law_pot_here", "_law_columns", "_law_most"] (Dl.Zf false Qgk):=Qkq F21 T m20 G20 b20 k20;have G24:FnOk l.prog w K mg base CX0 2 f24 _ ["_law_pot_here", "_law_stairs_here"] (Dl.Zf false Qmx):=QtG F24 T m20 G20 b20 k20;have G22:Rx.FnM l.prog w K mg base 1 f22 _ ["_law_e"] (QfT K [cc1,cc2,cc3,cc4,cc5,cc6,cc7,cc8,cc9,cc10,cc11,cc12,cc13,cc14,cc15,cc16,cc17,cc18,cc19]):=QtH F22 T (PySem.W.mg_none_of X G z20) (PySem.W.mg_of X G e1) (PySem.W.mg_of X G e2) (PySem.W.mg_of X G e3) (PySem.W.mg_of X G e4) (PySem.W.mg_of X G e5) (PySem.W.mg_of X G e6) (PySem.W.mg_of X G e7) (PySem.W.mg_of X G e8) (PySem.W.mg_of X G e9) (PySem.W.mg_of X G e10) (PySem.W.mg_of X G e11) (PySem.W.mg_of X G e12) (PySem.W.mg_of X G e13) (PySem.W.mg_of X G e14) (PySem.W.mg_of X G e15) (PySem.W.mg_of X G e16) (PySem.W.mg_of X G e17) (PySem.W.mg_of X G e18) (PySem.W.mg_of X G e19);have G23:FnOk l.prog w K mg base CX0 8 f23 _ ["_law_way", "_law_stairs_here", "_law_other"] (Dl.Zf false Qst):=QtC F23 T m32 G32 b32 k32 m33 G33 b33 k33 m27 G27 b27 k27 m28 G28 b28 k28 m29 G29 b29 k29 m30 G30 b30 k30 m31 G31 b31 k31 m22 G22 b22 k22 (PySem.W.mg_of X G eR) (⟨⟨r1,(by rw[r2];rfl),r3,q9r⟩,[false,false,false,false,false,false,false,false,true,false,false,false,false,false,false,false,false,false,false],8,⟨q9g,q9h,q9b,(by rw[q9c];rfl),q9a,u1,u2,q9o⟩,(.cons q9k1 (.cons q9k2 (.cons q9k3 (.cons q9k4 (.cons q9k5 (.cons q9k6 (.cons q9k7 (.cons q9k8 (.cons q9k9 (.cons q9k10 (.cons q9k11 (.cons q9k12 (.cons q9k13 (.cons q9k14 (.cons q9k15 (.cons q9k16 (.cons q9k17 (.cons q9k18 (.cons q9k19 .nil))))))))))))))))))),q9v,rfl,rfl,(by decide),rfl⟩   : KOk2 K [cc1,cc2,cc3,cc4,cc5,cc6,cc7,cc8,cc9,cc10,cc11,cc12,cc13,cc14,cc15,cc16,cc17,cc18,cc19] cR cc9 "stairs") (⟨⟨r1,(by rw[r2];rfl),r3,q4r⟩,[false,false,false,true,false,false,false,false,false,false,false,false,false,false,false,false,false,false,false],3,⟨q4g,q4h,q4b,(by rw[q4c];rfl),q4a,u1,u2,q4o⟩,(.cons q4k1 (.cons q4k2 (.cons q4k3 (.cons q4k4 (.cons q4k5 (.cons q4k6 (.cons q4k7 (.cons q4k8 (.cons q4k9 (.cons q4k10 (.cons q4k11 (.cons q4k12 (.cons q4k13 (.cons q4k14 (.cons q4k15 (.cons q4k16 (.cons q4k17 (.cons q4k18 (.cons q4k19 .nil))))))))))))))))))),q4v,rfl,rfl,(by decide),rfl⟩   : KOk2 K [cc1,cc2,cc3,cc4,cc5,cc6,cc7,cc8,cc9,cc10,cc11,cc12,cc13,cc14,cc15,cc16,cc17,cc18,cc19] cR cc4 "number") (⟨⟨r1,(by rw[r2];rfl),r3,q10r⟩,[false,false,false,false,false,false,false,false,false,true,false,false,false,false,false,false,false,false,false],9,⟨q10g,q10h,q10b,(by rw[q10c];rfl),q10a,u1,u2,q10o⟩,(.cons q10k1 (.cons q10k2 (.cons q10k3 (.cons q10k4 (.cons q10k5 (.cons q10k6 (.cons q10k7 (.cons q10k8 (.cons q10k9 (.cons q10k10 (.cons q10k11 (.cons q10k12 (.cons q10k13 (.cons q10k14 (.cons q10k15 (.cons q10k16 (.cons q10k17 (.cons q10k18 (.cons q10k19 .nil))))))))))))))))))),q10v,rfl,rfl,(by decide),rfl⟩   : KOk2 K [cc1,cc2,cc3,cc4,cc5,cc6,cc7,cc8,cc9,cc10,cc11,cc12,cc13,cc14,cc15,cc16,cc17,cc18,cc19] cR cc10 "alike");exact QwW F25 T m18 G18 b18 k18 m19 G19 b19 k19 m20 G20 b20 k20 m21 G21 b21 k21 m24 G24 b24 k24 m23 G23 b23 k23
theorem QAK{l:PySem.W.OpenLaw}{q:QC}{loose:List Str}{XP:(Str->Option Value)->Heap->Prop}{YP:Ja->Heap->Prop}{d:DefRec}{K:Params->PySem.W.Frag}(hn:l.most=some 63)(hdf:d.params.defaults=[])
  (hY:∀(w:Ja)(h:Heap),YP w h->(K w.params).In h)
  (F:∀(w:Ja)(mg:Str->Option Value)(fa:Addr)(h:Heap),(K w.params).In h->h.Ns mainGlobals mg->mg d.name=some (.ref fa) ->
   ∃fd:QP,(∀(s:Shared)(u:Value),Qe7 s fd ⟨[u],[]⟩ [("_law_script",u)])/\∀base:Heap,(K w.params).In base->base.Ns mainGlobals mg->FnOk l.prog w (K w.params) mg base CX0 9 fa fd ["_law_script"] (Dl.Qfk (K w.params))) :
  PySem.W.WalkO q loose XP YP l.row.toRowW d [] (λf vs=>PySem.call f vs):=
 L2.Qsr (n:=63) (k:=9) (x := "_law_script") (CX:=λ_=>CX0) (sp:=λw=>(Dl.Qfk (K w.params))) hn (by decide) hdf ⟨rfl,by decide,by decide⟩ hY F (λ_ _ a ns hl _ hS=>⟨a,ns,rfl,hS,hl,λ_=>rfl⟩) λ_ _ _ _ _ z=>z
end Rk
open PySem.W
set_option maxRecDepth 100000 in
set_option maxHeartbeats 0 in
theorem PySem.Challenge.cw_rooklands_k65_no_stairs_holds : PySem.Challenge.rw_rooklands_k65_no_stairs.Holds := by
 w_on;o_law;k_head;(case hw=>w_witness2)
 k_fill
 refine Rk.QAK (l:=PySem.Challenge.rw_rooklands_k65_no_stairs) rfl rfl (λw h Y=>PySem.W.kIn_of Y) ?F
 case F=>
  intro w mg fa h KX G hmg;refine' Rk.QxS KX G hmg ?a1 ?l1 ?c1 ?k1 ?a2 ?l2 ?c2 ?k2 ?a3 ?l3 ?c3 ?k3 ?a4 ?l4 ?c4 ?k4 ?a5 ?l5 ?c5 ?k5 ?a6 ?l6 ?c6 ?k6 ?a7 ?l7 ?c7 ?k7 ?a8 ?l8 ?c8 ?k8 ?a9 ?l9 ?c9 ?k9 ?a10 ?l10 ?c10 ?k10 ?a11 ?l11 ?c11 ?k11 ?a12 ?l12 ?c12 ?k12 ?a13 ?l13 ?c13 ?k13 ?a14 ?l14 ?c14 ?k14 ?a15 ?l15 ?c15 ?k15 ?a16 ?l16 ?c16 ?k16 ?a17 ?l17 ?c17 ?k17 ?a18 ?l18 ?c18 ?k18 ?a19 ?l19 ?c19 ?k19 ?a20 ?l20 ?c20 ?k20 ?a21 ?l21 ?c21 ?k21 ?a22 ?l22 ?c22 ?k22 ?a23 ?l23 ?c23 ?k23 ?a24 ?l24 ?c24 ?k24 ?a25 ?l25 ?c25 ?k25 ?z1 ?z2 ?z3 ?z4 ?z5 ?z6 ?z7 ?z8 ?z9 ?z10 ?z11 ?z12 ?z13 ?z14 ?z15 ?z16 ?z17 ?z18 ?z19 ?z20 ?aA ?aB ?e1 ?e2 ?e3 ?e4 ?e5 ?e6 ?e7 ?e8 ?e9 ?e10 ?e11 ?e12 ?e13 ?e14 ?e15 ?e16 ?e17 ?e18 ?e19 ?eR ?r1 ?r2 ?r3 ?u1 ?u2 ?q9x ?q9r ?q9g ?q9h ?q9b ?q9c ?q9a ?q9o ?q9v ?q9k1 ?q9k2 ?q9k3 ?q9k4 ?q9k5 ?q9k6 ?q9k7 ?q9k8 ?q9k9 ?q9k10 ?q9k11 ?q9k12 ?q9k13 ?q9k14 ?q9k15 ?q9k16 ?q9k17 ?q9k18 ?q9k19 ?q4x ?q4r ?q4g ?q4h ?q4b ?q4c ?q4a ?q4o ?q4v ?q4k1 ?q4k2 ?q4k3 ?q4k4 ?q4k5 ?q4k6 ?q4k7 ?q4k8 ?q4k9 ?q4k10 ?q4k11 ?q4k12 ?q4k13 ?q4k14 ?q4k15 ?q4k16 ?q4k17 ?q4k18 ?q4k19 ?q10x ?q10r ?q10g ?q10h ?q10b ?q10c ?q10a ?q10o ?q10v ?q10k1 ?q10k2 ?q10k3 ?q10k4 ?q10k5 ?q10k6 ?q10k7 ?q10k8 ?q10k9 ?q10k10 ?q10k11 ?q10k12 ?q10k13 ?q10k14 ?q10k15 ?q10k16 ?q10k17 ?q10k18 ?q10k19
  (case a1=>k_is)
  (case l1=>k_is)
  (case c1=>k_is)
  (case k1=>k_is)
  (case a2=>k_is)
  (case l2=>k_is)
  (case c2=>k_is)
  (case k2=>k_is)
  (case a3=>k_is)
  (case l3=>k_is)
  (case c3=>k_is)
  (case k3=>k_is)
  (case a4=>k_is)
  (case l4=>k_is)
  (case c4=>k_is)
  (case k4=>k_is)
  (case a5=>k_is)
  (case l5=>k_is)
  (case c5=>k_is)
  (case k5=>k_is)
  (case a6=>k_is)
  (case l6=>k_is)
  (case c6=>k_is)
  (case k6=>k_is)
  (case a7=>k_is)
  (case l7=>k_is)
  (case c7=>k_is)
  (case k7=>k_is)
  (case a8=>k_is)
  (case l8=>k_is)
  (case c8=>k_is)
  (case k8=>k_is)
  (case a9=>k_is)
  (case l9=>k_is)
  (case c9=>k_is)
  (case k9=>k_is)
  (case a10=>k_is)
  (case l10=>k_is)
  (case c10=>k_is)
  (case k10=>k_is)
  (case a11=>k_is)
  (case l11=>k_is)
  (case c11=>k_is)
  (case k11=>k_is)
  (case a12=>k_is)
  (case l12=>k_is)
  (case c12=>k_is)
  (case k12=>k_is)
  (case a13=>k_is)
  (case l13=>k_is)
  (case c13=>k_is)
  (case k13=>k_is)
  (case a14=>k_is)
  (case l14=>k_is)
  (case c14=>k_is)
  (case k14=>k_is)
  (case a15=>k_is)
  (case l15=>k_is)
  (case c15=>k_is)
  (case k15=>k_is)
  (case a16=>k_is)
  (case l16=>k_is)
  (case c16=>k_is)
  (case k16=>k_is)
  (case a17=>k_is)
  (case l17=>k_is)
  (case c17=>k_is)
  (case k17=>k_is)
  (case a18=>k_is)
  (case l18=>k_is)
  (case c18=>k_is)
  (case k18=>k_is)
  (case a19=>k_is)
  (case l19=>k_is)
  (case c19=>k_is)
  (case k19=>k_is)
  (case a20=>k_is)
  (case l20=>k_is)
  (case c20=>k_is)
  (case k20=>k_is)
  (case a21=>k_is)
  (case l21=>k_is)
  (case c21=>k_is)
  (case k21=>k_is)
  (case a22=>k_is)
  (case l22=>k_is)
  (case c22=>k_is)
  (case k22=>k_is)
  (case a23=>k_is)
  (case l23=>k_is)
  (case c23=>k_is)
  (case k23=>k_is)
  (case a24=>k_is)
  (case l24=>k_is)
  (case c24=>k_is)
  (case k24=>k_is)
  (case a25=>k_is)
  (case l25=>k_is)
  (case c25=>k_is)
  (case k25=>k_is)
  (case z1=>k_is)
  (case z2=>k_is)
  (case z3=>k_is)
  (case z4=>k_is)
  (case z5=>k_is)
  (case z6=>k_is)
  (case z7=>k_is)
  (case z8=>k_is)
  (case z9=>k_is)
  (case z10=>k_is)
  (case z11=>k_is)
  (case z12=>k_is)
  (case z13=>k_is)
  (case z14=>k_is)
  (case z15=>k_is)
  (case z16=>k_is)
  (case z17=>k_is)
  (case z18=>k_is)
  (case z19=>k_is)
  (case z20=>k_is)
  (case aA=>k_is)
  (case aB=>k_is)
  (case e1=>k_is)
  (case e2=>k_is)
  (case e3=>k_is)
  (case e4=>k_is)
  (case e5=>k_is)
  (case e6=>k_is)
  (case e7=>k_is)
  (case e8=>k_is)
  (case e9=>k_is)
  (case e10=>k_is)
  (case e11=>k_is)
  (case e12=>k_is)
  (case e13=>k_is)
  (case e14=>k_is)
  (case e15=>k_is)
  (case e16=>k_is)
  (case e17=>k_is)
  (case e18=>k_is)
  (case e19=>k_is)
  (case eR=>k_is)
  (case r1=>k_is)
  (case r2=>k_is)
  (case r3=>k_is)
  (case u1=>k_is)
  (case u2=>k_is)
  (case q9x=>k_exc)
  (case q9r=>k_is)
  (case q9g=>k_is)
  (case q9h=>k_is)
  (case q9b=>k_is)
  (case q9c=>k_is)
  (case q9a=>k_is)
  (case q9o=>k_is)
  (case q9v=>kit_is)
  (case q9k1=>kit_is)
  (case q9k2=>kit_is)
  (case q9k3=>kit_is)
  (case q9k4=>kit_is)
  (case q9k5=>kit_is)
  (case q9k6=>kit_is)
  (case q9k7=>kit_is)
  (case q9k8=>kit_is)
  (case q9k9=>kit_is)
  (case q9k10=>kit_is)
  (case q9k11=>kit_is)
  (case q9k12=>kit_is)
  (case q9k13=>kit_is)
  (case q9k14=>kit_is)
  (case q9k15=>kit_is)
  (case q9k16=>kit_is)
  (case q9k17=>kit_is)
  (case q9k18=>kit_is)
  (case q9k19=>kit_is)
  (case q4x=>k_exc)
  (case q4r=>k_is)
  (case q4g=>k_is)
  (case q4h=>k_is)
  (case q4b=>k_is)
  (case q4c=>k_is)
  (case q4a=>k_is)
  (case q4o=>k_is)
  (case q4v=>kit_is)
  (case q4k1=>kit_is)
  (case q4k2=>kit_is)
  (case q4k3=>kit_is)
  (case q4k4=>kit_is)
  (case q4k5=>kit_is)
  (case q4k6=>kit_is)
  (case q4k7=>kit_is)
  (case q4k8=>kit_is)
  (case q4k9=>kit_is)
  (case q4k10=>kit_is)
  (case q4k11=>kit_is)
  (case q4k12=>kit_is)
  (case q4k13=>kit_is)
  (case q4k14=>kit_is)
  (case q4k15=>kit_is)
  (case q4k16=>kit_is)
  (case q4k17=>kit_is)
  (case q4k18=>kit_is)
  (case q4k19=>kit_is)
  (case q10x=>k_exc)
  (case q10r=>k_is)
  (case q10g=>k_is)
  (case q10h=>k_is)
  (case q10b=>k_is)
  (case q10c=>k_is)
  (case q10a=>k_is)
  (case q10o=>k_is)
  (case q10v=>kit_is)
  (case q10k1=>kit_is)
  (case q10k2=>kit_is)
  (case q10k3=>kit_is)
  (case q10k4=>kit_is)
  (case q10k5=>kit_is)
  (case q10k6=>kit_is)
  (case q10k7=>kit_is)
  (case q10k8=>kit_is)
  (case q10k9=>kit_is)
  (case q10k10=>kit_is)
  (case q10k11=>kit_is)
  (case q10k12=>kit_is)
  (case q10k13=>kit_is)
  (case q10k14=>kit_is)
  (case q10k15=>kit_is)
  (case q10k16=>kit_is)
  (case q10k17=>kit_is)
  (case q10k18=>kit_is)
  (case q10k19=>kit_is)
