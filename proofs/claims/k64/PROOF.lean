import PyProof.Rows.All
import Wide.All
import OpenK.AllK
import Wide.FinOn
import Lean
import PyProof.EqAt
import PyProof.EqKinds
import PyProof.TupleCall
import PyProof.Rows.SortRuns
import PyProof.Rows.SortShellK
import PyProof.P3Eq
import PyProof.Draws
import PyProof.EnumMake
import PyProof.NeData
import KE.LcSums
import PyProof.WalkInts
import PyProof.SeqI3
import KE.KSortTup
import KE.KRevIter
import PyProof.FactsAll.range_2
import PyProof.SetRoads
import PyProof.FactsAll.set_1
import PyProof.Rows.SetFrom
import PyProof.CollectWalk
import PyProof.Walks
import PyProof.TupleIter
import PyProof.TupleKey
import PySem.Challenge.RW_rooklands_k64_stairs_of_the_same_heads
local macro_rules | `(tactic| omega) => `(tactic| first | lia | omega +splitDisjunctions)
open PySem renaming PyData->Qa,Program->QB,Expr->QZ,FuncData->Q1,Around->Q2,World->Q8,wpAny_newObj_type->JJ,wpAny_call_entry->JO,wpAny_holding->JV,wpAny_truthy_bool->J5,wpAny_callSpecial?_slot->J6,IsTupleKey->J8,wpAny_setState_of->Zi,wpAny_field->Zy,wpAny_askSetting->ZK,wpAny_seqItems->ZS,sizeLine_eq->Ya,Scope->Yk,wpAny_setField_rec->YK,wpAny_pyIter_tuple->YL,ReadsAll->YN,Stmt->Y3,Builtin->Y4,mem_of_lookup->Y8,Fin->Qal,Paired->Qam,wpAny_comprehension_free->Qav,wpAny_loadPart'->QaC,codeAny_builtin->QaD,NameKind->QaY,codeAny_mono->Qa1,Reads->Qbc,wpAny_newFunctionEnv->Qbh,wpAny_passesOwn->Qbz,wpAny_typeOf->Qb1,wpAny_setField->Qck,wpAny_attempt->QcM,plainId_quiet->QcO,Comprehension->QcU,wpAny_pyIter_zip->Qdf,wpAny_forIn_list->Qdg,codeAny_compStart_list->Qdp,exec_Assign_Name_used->QdZ,codeAny_of_tree->Qd0,builtinLookup_eq_fast->Qd1,Builtin->Qd3,wpAny_updateSeq_pair->Qen,isSubtype_type->Qe2,wpAny_onRaise->QfN,wpAny_newList->QfO,wpAny_Call_Name_kw->QfP,CmpOp->QfV,wpAny_pyIter_list->QgT,call_meets->QgU,IsPart->Qib,wpAny_isInstance->Qif,noFill_tuple_add->Qig,wpAny_execs_nil->Qkj,typeLookup_type->Qkk,wpAny_newTuple->Qk7,wpAny_letOwnedTupleGo_zip->Qk8,seq_tuple_add->QnV,call->QnX,Operator->QnZ,BindsTo->Qn3,wpAny_isTrue_Compare1->QrP,wpAny_eqIsQuiet_tuple->QrQ,seqIndex_neg->QrR,concat_meets->QrT,Result->QrW,IsZip->Qr3,wpAny_setEntries_of->Qt6,wpAny_of_eq->Qt7,wpAny_letGo->Qt8,seqIndex_of->Qt9,Keyword->Quh,wpAny_eqBool_tuple->Qwy,wpAny_List_spliced->Qwz,ZipApart->QwB,Within->QwC,wpAny_storeSet_of->QwV,wpAny_sequenceKey->QwW,wpAny_pyIter_slot->QwX,wpAny_pyIter_enum->QwY,wpAny_assign_Name->QwZ,wpAny_Name->Qw0,typeIs_int->Qw1,slot_list_getitem->Qw2,Model->Qxd
open PySem.W renaming Frag->Qb,keepIn->Qj,nsIn->QH,codeIn->QP,mg_none_of->QV,fnOf->QX,mg_of->Q5,kitOne->J7,kia_one->Zh,emptyDict->ZG,instObj->Yp,methodObj->Qd2,OpenLaw->Qe5,lookIn->QfS,mroIn->QgY,cellsFrom_some->Qh5,kitx_list->Qla,kitx_dict->Qlb,plainGet->QnL,findIn->QpJ,WalkO->QrX
open PySem.Heap renaming get?_push_of_some->Qc,lt_size->Qo,get?_push_size->Qu,size_push->JH,get?_update_self->Zx,get?_update_other->Yn,SameBut->Qag,IsTuple->Qk3
open List renaming getElem?_eq_getElem->Qd,length_map->Qf,getD_eq_getElem?_getD->Ql,range->Qm,size_toArray->Qp,length_cons->Qr,mem_cons->Qs,mem_map->Qt,length_append->Qv,getElem?_map->Qy,mem_of_getElem?->QD,length_range->QF,mem_cons_of_mem->QK,mem_append_right->QM,getElem?_eq_some_iff->QQ,append_assoc->QR,mem_range->QU,mem_singleton->Q3,map_cons->Q7,not_mem_nil->Jb,mem_iff_getElem?->Jc,getElem?_append_right->Jd,map_map->Je,take_append_drop->Jh,mem_append->Ji,map_append->Jj,lookup_cons->Jk,length_take->Jl,all_eq_true->Jm,pairwise_iff_getElem->Jq,pairwise_append->Jx,mem_cons_self->Jz,append_nil->JA,replicate->JC,map_congr_left->JX,mem_filter->Za,getElem?_range->Zd,getElem?_eq_none->Zf,getElem?_append_left->Zp,filterMap_append->Zw,mem_filterMap->ZA,take_length->ZD,mem_append_left->ZF,toList_toArray->ZN,replicate_succ->ZO,filterMap_cons->ZP,toArray->ZX,perm_append_comm->ZY,drop_zero->Z0,take_add_one->Z6,range_succ->Z7,nodup_cons->Z8,length_set->Z9,getElem?_cons_succ->Ye,mem_flatMap->Yh,getElem_mem->Yi,drop_of_length_le->Ym,pairwise_cons->Yq,map_filterMap->Yr,getElem?_drop->Ys,dropLast_concat_getLast->Yt,flatten_cons->YO,ext_getElem?->YQ,extract_eq_take_drop->Y5,drop_eq_getElem_cons->Y6,length_drop->Qaa,length_filterMap_le->Qaf,getElem?_set_self->Qaw,mapM_toArray->Qaz,flatMap_cons->QaA,length_filter_le->QaG,mem_of_mem_drop->QaW,map_id->Qba,flatMap_append->Qbb,perm_ext_iff_of_nodup->Qbj,getElem?_replicate->Qb2,filter_cons_of_pos->Qb3,filter_cons_of_neg->Qb4,any_cons->Qb5,nodup_range->Qcm,take_of_length_le->Qco,range_succ_eq_map->Qcp,length_pos_of_mem->Qcq,nil_append->QcI,length_replicate->QcJ,length_nil->QcK,foldl_cons->QcL,mem_of_mem_take->Qdj,mem_iff_getElem->Qdk,getElem?_set_ne->Qdl,take_take->Qdq,zip_cons_cons->Qd9,getElem?_take->Qea,filterMap_map->Qeb,map_nil->Qe7,zipIdx_cons->Qfg,getElem_map->Qfh,of_mem_zip->QgM,lookup->QgN,length->QgO,forIn_cons->QgP,nodup_nil->Qh7,getElem?_zip_eq_some->Qh8,filterMap->Qh9,drop_drop->Qia,length_erase_of_mem->Qik,getElem?_take_of_lt->Qil,pairwise_singleton->Qjm,length_eq_zero_iff->Qjn,getElem?_cons_zero->Qjo,zipWith->Qk0,getElem?_toArray->Qk1,any_map->Qk2,mem_erase_of_ne->Qle,getLast?_append->Qlf,length_zipWith->QnO,find?_eq_none->Qn2,take_sublist->QpL,reverse_cons->QpM,pairwise_map->QpN,nodup_append->QpO,foldl->QpP,perm_middle->QrZ,mem_toArray->Qr0,map_snd_zip->Qr1,ext_getElem->Qr2,zipIdx_nil->Qt1,find?_some->Qt2,take_zero->Quf,forIn_nil->Qug,take_nil->QwE,drop_nil->QwF,all_cons->QwG
open Array renaming length_toList->Qe,getElem?_toList->QY,toList_append->Js,getElem_toList->J1,getD->Ze,perm_iff_toList_perm->Zn,mem_toList_iff->ZE,getElem?_eq_none->ZQ,getElem?_eq_some_iff->ZU,mem_of_getElem?->YB,getD_eq_getD_getElem?->YC,toList_extract->QaU,replicate->Qa3,getElem_setIfInBounds->Qa4,size_extract->Qbk,getElem?_eq_getElem->Qbn,toList_push->QbF,toList_inj->Qb7,toList_reverse->QcV,size_map->Qdm,all_eq_true_iff_forall_mem->Qec,toList_setIfInBounds->QgS,size_setIfInBounds->Qid,toList_filterMap->Qjp,forIn_toList->QnP,foldl_toList->QnQ,append_assoc->QnR,toList_zip->QpR,toList_map->QpS,toList->QwL
open Nat renaming le_refl->Qg,zero_le->Qq,ne_of_lt->QC,lt_of_lt_of_le->QN,le_trans->Q4,zero_add->JM,le_of_lt->Zz,lt_succ_of_lt->ZM,not_lt_zero->YI,lt_trichotomy->YV,lt_irrefl->YW,ne_of_gt->Qai,lt_of_le_of_lt->Qaq,lt_succ_self->QaV,min_eq_left->Qbd,succ_pos->Qbu,succ_mul->QcR,min_self->QcS,add_zero->QcT,mod_lt->Qdi,sub_self->Qff,min_le_right->QfT,le_max_right->QfU,succ_add->Qlc,pow_succ->Qld,pow_le_pow_right->QnM,mul_le_mul_right->QnN,pow_le_pow_left->Qn0,le_succ->Qn1,add_sub_cancel->QpK,le_of_lt_succ->QrY,le_add_right->Qt0,min_le_left->Que
open PyProof.Rows renaming wpS_bind->Qh,wpS_pure->Qi,SortSt->JP,wpS_forRange->JS,slot_tuple_getitem->JT,callWith_type1->ZC,SortKind->Z2,wpS_mono->Yo,wpS_modify->Qau,listUpdate_at->Qbl,get?_update_seq->QbA,wpS_get->Qcj,seqEpoch_at->QcN,wpS_lift->Qd7,AllBare->Qe9,oneTypeOnly'_eq->Qkl,subscriptTail_builtinR->QpG,listItems_at->QrS,getElem?_mirror_all->Qua,entry_tuple_getitem->Qub,args_tuple_getitem->QwA
open PySem.PyData renaming int->Qk,canLayAll0->Q6,depthAll->Jg,eqv->JB,depth->Zc,tuple->Zk,bool->Yx,canLay0->QcP,str->Qd8,list->QkZ,eqvAll->QtY
open Option.some renaming inj->Qw
open Bool renaming false_ne_true->Qx,and_eq_true_iff->Qz,and_eq_true->JF,false_eq_true->ZB,eq_iff_iff->YH,true_and->Qb6,or_eq_true_iff->QdP,not_eq_true'->Qe3,or_eq_true->QgR,beq_eq_decide_eq->Qk4,false_and->Qul,not_true->QwJ,and_true->QwK
open PySem.Value renaming ref->QL,none->JD,type->ZV,bool->QbB,int->QfQ,str->QrU,float->Qw4
open PySem.SetTable renaming bits->Q9,runEnd->Jf,turns->Jo,below->JE,Probe->J4,insertAt->Zm,leap->Z5,fresh->YM,advance->YU,laid->QaF,layClean->Qbi,fits->Qbt,slot->Qdh,toList_insertAt->QfR,fill->QgL,has->Qh4,sizeAbove->Qkm
open PySem.NameKind renaming free->Ja,cell->Yz
open PySem.SetTable.layClean renaming free->Jn
open PySem.SetTable.probe renaming go->Jt
open Or renaming inr->Ju,inl->Jw
open PySem.Builtin.SmallTypes renaming nextOf->JG,ownedTupleIsFree->Zq,ownedTupleHandOut->Qbe
open ForInStep renaming yield->JR,done->Qa2
open PySem.Obj renaming mapSeq->JU,data_mapFields->Yy,isFreed_of_fields->QcQ,cls_mapFields->Qe6,putSet->Qjl,mapFields->Qkn
open Classical renaming byContradiction->JZ
open PySem.Heap.SameBut renaming update->Zj
open PySem.Builtin.Int renaming intBits->Zl,intTooBig->QfW
open PyProof.Rows.F renaming plain_set_update_loop->Zu,entry_set_update_loop->QbD
open PySem.PassesOwn renaming never->ZH
open List.Perm renaming refl->ZT,append_left->Yl,eq_of_pairwise->YX,append_right->Qaj,trans->QaK,swap->Qe8
open False renaming elim->Z3
open Int renaming toNat_natCast->Yb,le_trans->Qbv,le_antisymm->Qg2,emod_lt_of_pos->QpQ,emod_nonneg->Qui
open Option renaming map_eq_some_iff->Yg,isSome_iff_exists->Qg1,getD_none->QnY,guard->Qud,none->QwD
open PySem.Builtin.Slice renaming slicePlaces->Yu,sliceAdjust->QaL,sliceApplied->QdN,slicePartIndex->Qxl,sliceFields->Qxm
open PySem.Builtin.Tuple renaming tupleExact->YG,tupleItemsOf->QdM,tupleIsExact->Qxj,tupleCompareSizes->Qxk
open PySem.Builtin.List renaming listTooLong->YJ,listExtendWith->QdO,listSameRef->Qeo
open PySem.Around renaming under_plainId->YR
open PySem.F renaming slot_tuple_iterator_next->Y7,called_set->Qap,args_tuple_add_2->Qbm,entry_tuple_add->QbC,slot_tuple_add->QbI,slot_tuple_lt->Qcl,slot_zip_next->Qdr,plainAttrs_list->QgZ,args_tuple_lt_2->Qg0,entry_tuple_lt->Qh6,args_tuple_iterator_next_1->Qic,slot_set_iter->Qij,entry_tuple_iterator_next->Qim,plain_list_iadd->Quj,args_zip_next_1->Quk,entry_zip_next->QwI,slot_int_rmul->Qxg,plain_set_new->Qxh
open PySem.Challenge renaming rw_rooklands_k64_stairs_of_the_same_heads->Y9,pw_rooklands_k64_stairs_of_the_same_heads->Quc
open PySem.Str renaming ofString->Qah
open PySem.SetTable.below renaming go->QaS
open PySem.SeqAt.Reads renaming unique->QaT
open List.Pairwise renaming filter->QbE,sublist->Qxe,nil->Qxf
open True renaming intro->QbG
open Ne renaming symm->Qcn
open Array.Perm renaming refl->Qed
open PySem.SeqAt renaming eqAt_reads->Qe4,eqv_refl->QgX,notIn_tupleAt->Qk9,notIn_listAt->QnK,EqAt->QnW
open PySem.Calls renaming Name_function_global->QgQ,call_function_entry->Qg3
open Sum renaming inr->QgV,inl->QgW
open PySem.Shared renaming TypeIs->Qh3,heap->QkY
open PySem.SeqAt.EqAt renaming str_int->Qih,int_str->Qii
open String renaming splitOnAux->QnI,splitOn->QrV
open PyProof.Rows.SortSt renaming mk'->QnJ
open PySem.pickOrder renaming go->QpH
open StateT renaming run_pure->QpI
open PyProof.Rows.IsTup renaming new->Qr4
open PySem.Builtin.Frozenset renaming updateFrom->Qr5,oneOther->Qr6,newClass->Qr7
open PySem.Paired renaming length->QtZ
open And renaming intro->Qum
open PySem.Heap.IsSliceOf renaming new->QwH
open PySem.W.WShape renaming has->Qw3
open PySem.EqMixed renaming ne_str_int->Qw5,ne_str_bool->Qw6,ne_int_str->Qw7,ne_bool_str->Qw8,eq_str_int->Qw9,eq_str_bool->Qxa,eq_int_str->Qxb,eq_bool_str->Qxc
open PySem.CmpOp renaming NotIn->Qxi
open PySem.Builtin.Range renaming rangeSize->Qxn
open PySem PySem.Spec PyProof.Rows
set_option Elab.async false
set_option linter.all false
set_option maxRecDepth 100000
namespace L2
abbrev Key:=Sum Int Str
def QvW:Key->Value->Bool
 |.inl k,v=>Value.isInt k v
 |.inr x,v=>Value.isStrOf x v
def Qzi(w:Q8):Key->Int
 |.inl k=>hashInt k
 |.inr x=>hashStr w x
theorem Z4:∀{k:Key}{v:Value},QvW k v=true->(∃i t,k=QgW i/\v=QfQ i t)∨(∃x t,k=QgV x/\v=QrU x t)
 |.inl i,v,h=>by
  obtain⟨t,e⟩:=Value.isInt_shape (k:=i) (v:=v) h;exact .inl ⟨i,t,rfl,e⟩
 |.inr x,v,h=>by
  obtain⟨t,e⟩:=Value.isStrOf_shape (x:=x) (v:=v) h;exact .inr ⟨x,t,rfl,e⟩
theorem QvV(a b:Int):decide ((QgW a:Key)=QgW b)=(a == b):=by
 by_cases e:a=b
 ·subst e;simp
 ·have h:¬(QgW a:Key)=QgW b:=λq=>e (Sum.inl.inj q)
  rw[decide_eq_false h];exact(beq_eq_false_iff_ne.mpr e).symm
theorem QvR(a b:Str):decide ((QgV a:Key)=QgV b)=decide (a=b):=by
 by_cases e:a=b
 ·subst e;simp
 ·have h:¬(QgV a:Key)=QgV b:=λq=>e (Sum.inr.inj q)
  rw[decide_eq_false h,decide_eq_false e]
theorem QvU(a:Int)(b:Str):decide ((QgW a:Key)=QgV b)=false:=decide_eq_false (λq=>nomatch q)
theorem QvS(a:Str)(b:Int):decide ((QgV a:Key)=QgW b)=false:=decide_eq_false (λq=>nomatch q)
def Qmu(prog:QB)(w:Q8):PySem.KeyKind prog w Key where
 is:=QvW
 hash:=Qzi w
 inj:=λv a b ha hb=>by
  rcases Z4 ha with⟨i,t,rfl,rfl⟩ | ⟨x,t,rfl,rfl⟩
  ·rcases Z4 hb with⟨j,u,rfl,e⟩ | ⟨y,u,rfl,e⟩
   ·injection e with e1 _;rw[e1]
   ·exact nomatch e
  ·rcases Z4 hb with⟨j,u,rfl,e⟩ | ⟨y,u,rfl,e⟩
   ·exact nomatch e
   ·injection e with e1 _;rw[e1]
 byValue:=λk v h=>by
  rcases Z4 h with⟨i,t,rfl,rfl⟩ | ⟨x,t,rfl,rfl⟩<;>rfl
 pyHash:=λhv h=>by
  rcases Z4 hv with⟨i,t,rfl,rfl⟩ | ⟨x,t,rfl,rfl⟩
  ·exact wpAny_pyHash_int h
  ·exact wpAny_pyHash_str h
 eqBool:=λhu hv h=>by
  rcases Z4 hu with⟨i,t,rfl,rfl⟩ | ⟨x,t,rfl,rfl⟩
  ·rcases Z4 hv with⟨j,u,rfl,rfl⟩ | ⟨y,u,rfl,rfl⟩
   ·rw[QvV] at h;exact wpAny_eqBool_int h
   ·rw[QvU] at h;exact Qii i t y u _ _ _ _ h
  ·rcases Z4 hv with⟨j,u,rfl,rfl⟩ | ⟨y,u,rfl,rfl⟩
   ·rw[QvS] at h;exact Qih x t j u _ _ _ _ h
   ·rw[QvR] at h;exact wpAny_eqBool_str h
 «strs» := λk x t v h=>by
  rcases Z4 h with⟨i,u,rfl,e⟩ | ⟨y,u,rfl,e⟩
  ·exact nomatch e
  ·injection e with e1 _
   subst e1;cases v<;>rfl
inductive V where
 |non | bl (b:Bool) | int (i:Int) | str (x:Str) | byt (b:Array UInt8) | flt (b:UInt64) | ref (a:Addr) | ty (n:String)
 deriving DecidableEq
def RelV:V->Value->Prop
 |.non,u=>u=JD
 |.bl b,u=>u=QbB b
 |.int i,u=>∃t,u=QfQ i t
 |.str x,u=>∃t,u=QrU x t
 |.byt b,u=>∃t,u=Value.bytes b t
 |.flt b,u=>∃t,u=Qw4 b t
 |.ref a,u=>u=QL a
 |.ty n,u=>u=ZV n
abbrev Vals:List V->List Value->Prop:=Qam RelV
theorem Vals.length{xs:List V}{us:List Value}(r:Vals xs us):xs.length=us.length:=QtZ r
theorem Vals.get:∀{xs:List V}{us:List Value}{i:Nat}{x:V},Vals xs us->xs[i]? = some x->∃u,us[i]? = some u/\RelV x u
 |_,_,_,_,.nil,e=>by simp at e
 |_,_,0,_,.cons r _,e=>by simp at e;subst e;exact⟨_,rfl,r⟩
 |_,_,i+1,x,.cons _ t,e=>by
  obtain⟨u,h1,h2⟩:=Vals.get (i:=i) (x:=x) t (by simpa using e);exact⟨u,by simpa using h1,h2⟩
theorem Vals.set{x:V}{u:Value}(r:RelV x u):∀{xs:List V}{us:List Value}(i:Nat),Vals xs us->Vals (xs.set i x) (us.set i u)
 |_,_,_,.nil=>.nil
 |_,_,0,.cons _ t=>.cons r t
 |_,_,i+1,.cons q t=>.cons q (Vals.set r i t)
theorem Vals.append:∀{xs ys:List V}{us ws:List Value},Vals xs us->Vals ys ws->Vals (xs++ys) (us++ws)
 |_,_,_,_,.nil,s=>s
 |_,_,_,_,.cons r t,s=>.cons r (Vals.append t s)
theorem Vals.take:∀{xs:List V}{us:List Value}(n:Nat),Vals xs us->Vals (xs.take n) (us.take n)
 |_,_,0,_=>.nil
 |_,_,_+1,.nil=>.nil
 |_,_,n+1,.cons r t=>.cons r (Vals.take n t)
theorem Vals.drop:∀{xs:List V}{us:List Value}(n:Nat),Vals xs us->Vals (xs.drop n) (us.drop n)
 |_,_,0,r=>r
 |_,_,_+1,.nil=>.nil
 |_,_,n+1,.cons _ t=>Vals.drop n t
def Qyk:Option V->Option Value->Prop
 |some v,some u=>RelV v u
 |none,none=>True
 |_,_=>False
def KV{κ:Type}:List (κ×V)->List (κ×Value)->Prop:=Qam λ(p:κ×V)(q:κ×Value)=>p.1=q.1/\RelV p.2 q.2
def kV:Key->V
 |.inl i=>.int i
 |.inr x=>.str x
inductive HO where
 /-- a list -/
 |lst (xs:List V)
 /-- a tuple (never changes) -/
 |tup (xs:List V)
 /-- a dict whose keys are ints and texts;one whose keys are tuples of ints and texts (the empty one is both) -/
 |dK (kvs:List (Key×V)) | dT (kvs:List (List Key×V))
 /-- a set of ints: its members,its size -/
 |set (S:Int->Bool) (n:Nat)
 /-- an instance of the class at C,its dict at dx,its attributes -/
 |ins (C dx:Addr) (fs:List (Str×V))
 /-- the dict of the instance at x -/
 |own (x:Addr)
 /-- the dict of an exception -/
 |xd (fs:List (Str×V))
 /-- a bound method,f of x -/
 |met (f x:Addr)
 /-- a range object lo,lo+1,.. below hi -/
 |rng (lo hi:Int)
 /-- a thing that is known to the object (the script;a dict while a loop walks it): read,never written while it is so -/
 |frz (o:Obj) (u:HO)
 /-- a code object's table -/
 |tbl (ps:Array Value)
 /-- any other thing,by what is true of its one object (a def of one's own: SetO a S n:=HO.ext λh=>..) -/
 |ext (φ:Heap->Prop)
abbrev Hp:=Addr->Option HO
def upd(H:Hp)(a:Addr)(o:HO):Hp:=λb=>if b=a then some o else H b
theorem Jp{H:Hp}{a:Addr}{o:HO}:upd H a o a=some o:=by unfold upd;rw[if_pos rfl]
theorem JK{H:Hp}{a b:Addr}{o:HO}(h:b≠a):upd H a o b=H b:=by unfold upd;rw[if_neg h]
theorem JY{H:Hp}{a b:Addr}{o:HO}(h:H a=some o)(h':H b=none):a≠b:=by
 intro e;subst e;rw[h] at h';cases h'
section
variable(P:QB)(w:Q8)
def ObjOk(H:Hp)(h:Heap)(a:Addr):HO->Prop
 |.lst xs=>xs.length<=sizeLine/\∃(its:List Value)(n:Nat),Vals xs its/\h.get? a=some { cls:=.type "list",data:=.seq its.toArray n }
 |.tup xs=>xs.length<=sizeLine/\∃its:List Value,Vals xs its/\IsTup h a its.toArray
 |.dK kvs=>kvs.length<=sizeLine/\(a == sysModules)=false/\∃vs,KV kvs vs/\h.DictOf (Qmu P w) a vs
 |.dT kvs=>kvs.length<=sizeLine/\(a == sysModules)=false/\∃xs:List (List Key×Addr×Value),
   Qam (λ(p:List Key×V)(q:List Key×Addr×Value)=>p.1=q.1/\H q.2.1=some (.tup (p.1.map kV))/\RelV p.2 q.2.2) kvs xs /\
   ∃o es ep,h.get? a=some o/\o.ExactDict/\o.data=.dict es ep/\es.toList=xs.map (entryOfKey (tupleKind (Qmu P w)))/\(xs.map (·.1)).Nodup
 |.set S n=>h.SetOf (intKind P w) a S n
 |.ins C dx fs=>H dx=some (.own a)/\fs.length<=1000/\dx≠a/\h.get? a=some (PySem.W.instObj C dx) /\
   ∃mA,h.Ns1 dx mA/\(∀f,Qyk (fs.lookup f) (mA f))/\PySem.Within mA (fs.map (·.1))
 |.own _=>∃o,h.get? a=some o
 |.xd fs=>∃mA,h.Ns1 a mA/\∀f,Qyk (fs.lookup f) (mA f)
 |.rng lo hi=>∃t u v,h.get? a=some { cls:=.type "range",data:=.fields #[.int lo t,.int hi u,.int 1 v] }
 |.frz o u=>h.get? a=some o/\ObjOk H h a u
 |.tbl ps=>h.get? a=some { cls:=.none,data:=.fields ps }
 |.met f x=>h.get? a=some (PySem.W.methodObj (.ref f) (.ref x))
 |.ext φ=>φ h/\(∃o,h.get? a=some o)/\∀h1 h2:Heap,φ h1->(∀o,h1.get? a=some o->h2.get? a=some o)->φ h2
def HOk(H:Hp)(h:Heap):Prop:=∀a o,H a=some o->ObjOk P w H h a o
end
section
variable{P:QB}{w:Q8}{H H':Hp}{h h':Heap}{a:Addr}{o:HO}
theorem ObjOk.lt(x:ObjOk P w H h a o):a<h.objs.size:=by
 cases o with
 |lst xs=>obtain⟨_,_,_,_,e⟩:=x;exact Qo e
 |tup xs=>obtain⟨_,_,_,p⟩:=x;exact p.lt
 |dK kvs=>obtain⟨_,_,_,_,o,_,_,e,_⟩:=x;exact Qo e
 |dT kvs=>obtain⟨_,_,_,_,o,_,_,e,_⟩:=x;exact Qo e
 |set S n=>obtain⟨o,_,_,_,e,_⟩:=x;exact Qo e
 |ins C dx fs=>obtain⟨_,_,_,e,_⟩:=x;exact Qo e
 |own y=>obtain⟨_,e⟩:=x;exact Qo e
 |xd fs=>obtain⟨_,⟨_,_,_,e,_⟩,_⟩:=x;exact Qo e
 |rng lo hi=>obtain⟨_,_,_,e⟩:=x;exact Qo e
 |frz ob u=>obtain⟨e,_⟩:=x;exact Qo e
 |tbl ps=>exact Qo (show h.get? a=some _ from x)
 |met f y=>exact Qo (show h.get? a=some _ from x)
 |ext φ=>obtain⟨_,⟨_,e⟩,_⟩:=x;exact Qo e
theorem Qam.mapP{α β:Type}{F G:α->β->Prop}:∀{l₁:List α}{l₂:List β},Qam F l₁ l₂->(∀a b,F a b->G a b)->Qam G l₁ l₂
 |_,_,.nil,_=>.nil
 |_,_,.cons r t,f=>.cons (f _ _ r) (Qam.mapP t f)
theorem ObjOk.stay(x:ObjOk P w H h a o)(k:∀b u,(b=a∨H b=some (.own a))->h.get? b=some u->h'.get? b=some u)
  (ho:∀b,H b=some (.own a)->H' b=some (.own a))(ht:∀b xs,H b=some (.tup xs)->H' b=some (.tup xs)):ObjOk P w H' h' a o:=by
 induction o with
 |lst xs=>obtain⟨z,its,n,r,e⟩:=x;exact⟨z,its,n,r,k _ _ (.inl rfl) e⟩
 |tup xs=>obtain⟨z,its,r,ob,e,c⟩:=x;exact⟨z,its,r,ob,k _ _ (.inl rfl) e,c⟩
 |dK kvs=>obtain⟨z,y,vs,r,ob,es,ep,e,c⟩:=x;exact⟨z,y,vs,r,ob,es,ep,k _ _ (.inl rfl) e,c⟩
 |dT kvs=>
  obtain⟨z,y,xs,r,ob,es,ep,e,c⟩:=x;exact⟨z,y,xs,Qam.mapP r λp q z=>⟨z.1,ht _ _ z.2.1,z.2.2⟩,ob,es,ep,k _ _ (.inl rfl) e,c⟩
 |set S n=>obtain⟨ob,es,ep,t,e,c⟩:=x;exact⟨ob,es,ep,t,k _ _ (.inl rfl) e,c⟩
 |ins C dx fs=>
  obtain⟨d,z,ne,e,mA,⟨od,es,ep,e2,c⟩,r⟩:=x;exact⟨ho _ d,z,ne,k _ _ (.inl rfl) e,mA,⟨od,es,ep,k _ _ (.inr d) e2,c⟩,r⟩
 |own y=>obtain⟨ob,e⟩:=x;exact⟨ob,k _ _ (.inl rfl) e⟩
 |xd fs=>obtain⟨mA,⟨od,es,ep,e,c⟩,r⟩:=x;exact⟨mA,⟨od,es,ep,k _ _ (.inl rfl) e,c⟩,r⟩
 |rng lo hi=>obtain⟨t,u,v,e⟩:=x;exact⟨t,u,v,k _ _ (.inl rfl) e⟩
 |frz ob u ih=>obtain⟨e,q⟩:=x;exact⟨k _ _ (.inl rfl) e,ih q⟩
 |tbl ps=>
  have e:h.get? a=some { cls:=.none,data:=.fields ps }:=x;show h'.get? a=some { cls:=.none,data:=.fields ps };exact k a _ (.inl rfl) e
 |met f y=>
  have e:h.get? a=some (PySem.W.methodObj (.ref f) (.ref y)):=x;show h'.get? a=some (PySem.W.methodObj (.ref f) (.ref y));exact k a _ (.inl rfl) e
 |ext φ=>obtain⟨p,⟨o,e⟩,st⟩:=x;exact⟨st _ _ p λo q=>k _ _ (.inl rfl) q,⟨o,k _ _ (.inl rfl) e⟩,st⟩
theorem HOk.lt(x:HOk P w H h)(e:H a=some o):a<h.objs.size:=(x a o e).lt
theorem HOk.fresh(x:HOk P w H h)(e:h.objs.size<=a):H a=none:=by
 cases q:H a with
 |none=>rfl
 |some u=>exact absurd (QN (x.lt q) e) (YW _)
theorem HOk.kept(x:HOk P w H h)(k:∀b u,h.get? b=some u->h'.get? b=some u):HOk P w H h':=λa o e=>
 (x a o e).stay (λb u _ q=>k b u q) (λ_ q=>q) λ_ _ q=>q
theorem HOk.laid(x:HOk P w H h)(k:∀b u,h.get? b=some u->h'.get? b=some u)(hp:h.objs.size<=a)(new:ObjOk P w (upd H a o) h' a o):HOk P w (upd H a o) h':=λb u e=>by
 have hn:=x.fresh hp;by_cases hb:b=a
 ·subst hb;rw[Jp] at e;cases e;exact new
 ·rw[JK hb] at e;exact(x b u e).stay (λc v _ q=>k c v q) (λc q=>by rw[JK (JY q hn)];exact q) λc xs q=>by rw[JK (JY q hn)];exact q
end
def Rd(H:Hp)(a:Addr)(u:HO):Prop:=H a=some u∨∃o,H a=some (.frz o u)
theorem Rd.of{H:Hp}{a:Addr}{u:HO}(h:H a=some u):Rd H a u:=.inl h
theorem Rd.ok{P:QB}{w:Q8}{H:Hp}{h:Heap}{a:Addr}{u:HO}(r:Rd H a u)(x:HOk P w H h):ObjOk P w H h a u:=by
 rcases r with r | ⟨o,r⟩
 ·exact x a u r
 ·obtain⟨_,q⟩:=x a _ r;exact q
def Mut:Option HO->Prop
 |some (.lst _)=>True
 |some (.dK _)=>True
 |some (.dT _)=>True
 |some (.set _ _)=>True
 |some (.ins _ _ _)=>True
 |some (.ext _)=>True
 |_=>False
section
variable{P:QB}{w:Q8}{H:Hp}{h h':Heap}{x e:Addr}{o':HO}
theorem HOk.write(ok:HOk P w H h)(mu:Mut (H x))(he:e=x∨H e=some (.own x))(k:∀b u,b≠e->h.get? b=some u->h'.get? b=some u)(heo:∃u,h'.get? e=some u)
  (new:ObjOk P w (upd H x o') h' x o'):HOk P w (upd H x o') h':=λb u q=>by
 have nown:∀c y,H c=some (.own y)->c≠x:=λc y r z=>by subst z;rw[r] at mu;exact mu
 have ntup:∀c xs,H c=some (.tup xs)->c≠x:=λc xs r z=>by subst z;rw[r] at mu;exact mu
 by_cases hb:b=x
 ·subst hb;rw[Jp] at q;cases q;exact new
 ·rw[JK hb] at q;by_cases hbe:b=e
  ·have q':H b=some (.own x):=by
    rcases he with z | z
    ·exact absurd (hbe.trans z) hb
    ·rw[hbe];exact z
   rw[q] at q';cases q';obtain⟨v,hv⟩:=heo;exact⟨v,by rw[hbe];exact hv⟩
  ·refine(ok b u q).stay (λc v hc r=>k c v ?_ r) (λc r=>by rw[JK (nown c b r)];exact r) λc xs r=>by rw[JK (ntup c xs r)];exact r
   rcases hc with rfl | hc
   ·exact hbe
   ·rintro rfl;rcases he with z | z
    ·exact nown c b hc z
    ·rw[hc] at z;cases z;exact hb rfl
end
structure Un (fs ex:List Addr) (H H':Hp) (h h':Heap):Prop where
 keep:∀b o,h.get? b=some o->H b=none->b∉fs->b∉ex->h'.get? b=some o
 slot:∀b o,h.get? b=some o->H b=none->b∈fs->b∉ex->∃sl,h'.get? b=some { o with slots:=sl }
 free:∀b o,h.get? b=some o->H b=none->b∉ex->H' b=none
 there:∀b o,h.get? b=some o->b∉ex->∃o',h'.get? b=some o'
 tups:∀b xs,H b=some (.tup xs)->H' b=some (.tup xs)
 frzs:∀b o u,H b=some (.frz o u)->H' b=some (.frz o u)
 tbls:∀b ps,H b=some (.tbl ps)->∃more,H' b=some (.tbl (ps++more))
section
variable{fs fs' ex ex':List Addr}{H H1 H2:Hp}{h h1 h2 h':Heap}{a x e:Addr}{o:HO}
theorem Un.any(u:Un fs ex H H1 h h1){b:Addr}{ob:Obj}(q:h.get? b=some ob)(n:H b=none)(hx:b∉ex):∃sl,h1.get? b=some { ob with slots:=sl }:=by
 by_cases hb:b∈fs
 ·exact u.slot b ob q n hb hx
 ·exact⟨ob.slots,u.keep b ob q n hb hx⟩
theorem Un.trans(a:Un fs ex H H1 h h1)(b:Un fs ex H1 H2 h1 h2):Un fs ex H H2 h h2 where
 keep:=λc ob q n hc hx=>b.keep c ob (a.keep c ob q n hc hx) (a.free c ob q n hx) hc hx
 slot:=λc ob q n hc hx=>by
  obtain⟨sl,e1⟩:=a.slot c ob q n hc hx;obtain⟨sl',e2⟩:=b.slot c _ e1 (a.free c ob q n hx) hc hx;exact⟨sl',e2⟩
 free:=λc ob q n hx=>by
  obtain⟨o',e1⟩:=a.there c ob q hx;exact b.free c o' e1 (a.free c ob q n hx) hx
 there:=λc ob q hx=>by
  obtain⟨o',e1⟩:=a.there c ob q hx;exact b.there c o' e1 hx
 tups:=λc xs q=>b.tups c xs (a.tups c xs q)
 frzs:=λc ob xs q=>b.frzs c ob xs (a.frzs c ob xs q)
 tbls:=λc ps q=>by
  obtain⟨m1,e1⟩:=a.tbls c ps q;obtain⟨m2,e2⟩:=b.tbls c _ e1;exact⟨m1++m2,by rw[e2,QnR]⟩
theorem Un.kept(k:∀b u,h.get? b=some u->h'.get? b=some u):Un fs ex H H h h':=
 ⟨λb ob q _ _ _=>k b ob q,λb ob q _ _ _=>⟨ob.slots,k b ob q⟩,λ_ _ _ n _=>n,λb ob q _=>⟨ob,k b ob q⟩,λ_ _ q=>q,λ_ _ _ q=>q,λ_ ps q=>⟨#[],by rw[q];simp⟩⟩
theorem Un.refl:Un fs ex H H h h:=Un.kept λ_ _ q=>q
theorem Un.laid(k:∀b u,h.get? b=some u->h'.get? b=some u)(hp:h.objs.size<=a)(hn:H a=none):Un fs ex H (upd H a o) h h' where
 keep:=λb u q _ _ _=>k b u q
 slot:=λb u q _ _ _=>⟨u.slots,k b u q⟩
 free:=λb u q n _=>by rw[JK (QC (QN (Qo q) hp))];exact n
 there:=λb u q _=>⟨u,k b u q⟩
 tups:=λb xs q=>by rw[JK (JY q hn)];exact q
 frzs:=λb u xs q=>by rw[JK (JY q hn)];exact q
 tbls:=λb ps q=>⟨#[],by rw[JK (JY q hn),q];simp⟩
theorem Un.write(mu:Mut (H x))(he:e=x∨H e=some (.own x))(k:∀b u,b≠e->h.get? b=some u->h'.get? b=some u)(heo:∃u,h'.get? e=some u):Un fs ex H (upd H x o) h h':=by
 have hx:∀b,H b=none->b≠x:=λb n z=>by subst z;rw[n] at mu;exact mu
 have hb:∀b,H b=none->b≠e:=λb n z=>by
  subst z;rcases he with r | r
  ·exact hx b n r
  ·rw[n] at r;cases r
 have hm:∀b u,H b=some u->¬Mut (some u)->b≠x:=λb u q nm z=>by subst z;rw[q] at mu;exact nm mu
 refine⟨λb u q n _ _=>k b u (hb b n) q,λb u q n _ _=>⟨u.slots,k b u (hb b n) q⟩,λb u q n _=>by rw[JK (hx b n)];exact n,λb u q _=>?_,
  λb xs q=>by rw[JK (hm b _ q λz=>z)];exact q,λb u xs q=>by rw[JK (hm b _ q λz=>z)];exact q,λb ps q=>⟨#[],by rw[JK (hm b _ q λz=>z),q];simp⟩⟩
 by_cases hbe:b=e
 ·subst hbe;exact heo
 ·exact⟨u,k b u hbe q⟩
theorem Un.mono(u:Un fs ex H H1 h h1)(hs:∀b∈fs,b∈fs')(hx:∀b∈ex,b∈ex'):Un fs' ex' H H1 h h1:=
 ⟨λb ob q n hb he=>u.keep b ob q n (λz=>hb (hs b z)) λz=>he (hx b z),λ_ _ q n _ he=>u.any q n λz=>he (hx _ z),λb ob q n he=>u.free b ob q n λz=>he (hx b z),λb ob q he=>u.there b ob q λz=>he (hx b z),u.tups,u.frzs,u.tbls⟩
end
def trk(h:Heap)(H:Hp):List Addr:=(Qm h.objs.size).filter λa=>(H a).isSome
def Qpk(h:Heap)(H:Hp):Heap:=PySem.W.hideAll h (trk h H)
theorem QmK(h:Heap)(H:Hp):(Qpk h H).objs.size=h.objs.size:=PySem.W.hideAll_size _ _
theorem Qpj{h:Heap}{H:Hp}{b:Addr}{o:Obj}(e:h.get? b=some o)(n:H b=none):(Qpk h H).get? b=some o:=
 PySem.W.hideAll_get _ e λhm=>by
  have q:(H b).isSome=true:=(Za.mp hm).2;rw[n] at q;simp at q
theorem Qs6{h:Heap}{H:Hp}{b:Addr}{o:Obj}(e:(Qpk h H).get? b=some o):h.get? b=some o/\H b=none:=by
 have e':h.get? b=some o:=PySem.W.of_hideAll (trk h H) e;refine⟨e',?_⟩;cases q:H b with
 |none=>rfl
 |some x=>
  have hm:b∈trk h H:=Za.mpr ⟨QU.mpr (Qo e'),by simp[q]⟩;have z:(Qpk h H).get? b=none:=PySem.W.hideAll_none (trk h H) hm;rw[z] at e;cases e
def QtX(g h:Heap)(L:Addr):List (Addr×Obj):=(Qm h.objs.size).filterMap λa=>if a=L∨(g.get? a).isSome=true then none else(h.get? a).map λo=>(a,o)
def rest(g h:Heap)(L d:Addr):List (Addr×Obj):=(QtX g h L).filter λp=>decide (p.1≠d)
structure Mod (K:PySem.W.Frag) (mg:Str->Option Value) (base:Heap):Prop where
 kin:K.In base
 glob:base.Ns mainGlobals mg
 blt:∃mb,base.Ns builtinsNs mb/\∀x:Str,x ≠ "__name__" -> mb x=bootBuiltins x
 nolimit:base.NoLimit
structure Cx where
 prog:QB
 w:Q8
 K:PySem.W.Frag
 mg:Str->Option Value
 base:Heap
 A:Q2
 N:List Str
 s₀:Shared
 H₀:Hp
 env:Env
 outer:List Env
 stack:List Env
 ex:List Addr
 fn:Str->Bool
 calm:Bool
 pn:List (Addr×Obj)
 xe:Value->Shared->Prop
def frs(l:List Env):List Addr:=l.filterMap (·.frame)
abbrev Cx.fs (X:Cx):List Addr:=frs X.outer
def Vis(sc:Yk)(x:Str):Prop:=sc.names.lookup x=some .local∨sc.names.lookup x=some .cell∨sc.names.lookup x=some .free
def Loc(sc:Yk)(x:Str):Prop:=sc.names.lookup x=some .local∨sc.names.lookup x=some .cell
def Look(env:Env)(h:Heap)(m:Str->Option Value)(x:Str)(u:Value):Prop:=
 (env.kindOf x=some .local/\m x=some u)∨((env.kindOf x=some .cell∨env.kindOf x=some .free)/\∃c,env.cells.lookup x=some c/\h.IsCell c (some u))
structure Cx.Ok (X:Cx):Prop where
 mod:Mod X.K X.mg X.base
 kind:X.env.scope.kind=.function
 glob:X.env.globals=mainGlobals
 blt:X.env.builtins=builtinsNs
 above:X.s₀.heap.objs.size<=X.env.locals
 inj:∀x y c,X.env.cells.lookup x=some c->X.env.cells.lookup y=some c->x=y
 has:∀x,(X.env.kindOf x=some .cell∨X.env.kindOf x=some .free)->∃c,X.env.cells.lookup x=some c
 cab:∀x c,X.fn x=true->X.env.cells.lookup x=some c->X.s₀.heap.objs.size<=c
 hd:X.calm=true->X.A.handled=none
 frames:X.A.frames=some X.stack
 stk:X.stack=X.outer∨(X.stack=X.env::X.outer/\X.env.frame=some X.env.locals)
 exf:∀b∈X.ex,b≠X.env.locals/\∀x c,X.env.cells.lookup x=some c->c≠b
 bs:∀b o,X.base.get? b=some o->X.s₀.heap.get? b=some o/\X.H₀ b=none
 bsz:X.base.objs.size<=X.s₀.heap.objs.size
 noex:∀b o,X.base.get? b=some o->b∉X.ex
 exfs:∀b∈X.ex,b∉X.fs
 funs:X.s₀.heap.FunFrames X.base X.outer
 frf:∀b∈X.fs,X.H₀ b=none
structure Inv (X:Cx) (pins:List (Addr×Obj)) (σ:List (Option V)) (H:Hp) (s:Shared):Prop where
 ok:X.Ok
 os:s.os=X.s₀.os
 bare:Qe9 s.gens
 base:Un X.fs X.ex X.H₀ H X.s₀.heap s.heap
 loc:∃m,s.heap.Ns X.env.locals m/\∀(i:Nat)(x:Str)(v:V),X.N[i]? = some x->σ[i]? = some (some v)->Vis X.env.scope x->∃u,RelV v u/\Look X.env s.heap m x u
 cell:∀x c,X.env.cells.lookup x=some c->∃v,s.heap.IsCell c v
 free:H X.env.locals=none
 freeC:∀x c,X.env.cells.lookup x=some c->H c=none
 pin:∀p∈X.pn++pins,s.heap.get? p.1=some p.2/\H p.1=none/\p.1≠X.env.locals/\p.1∉X.fs/\∀v,p.2.data≠.cell v
 hok:HOk X.prog X.w H s.heap
 len:σ.length=X.N.length
section
variable{X:Cx}{pins:List (Addr×Obj)}{σ:List (Option V)}{H H':Hp}{s:Shared}{h':Heap}
theorem Cx.Ok.nofr(ok:X.Ok){b:Addr}{o:Obj}(e:X.base.get? b=some o):b∉X.fs:=λhb=>by
 have:=(ok.funs.mem hb).1;rw[e] at this;cases this
theorem Inv.bs(I:Inv X pins σ H s):∀b o,X.base.get? b=some o->s.heap.get? b=some o/\H b=none:=λb o e=>
 ⟨I.base.keep b o (I.ok.bs b o e).1 (I.ok.bs b o e).2 (I.ok.nofr e) (I.ok.noex b o e),I.base.free b o (I.ok.bs b o e).1 (I.ok.bs b o e).2 (I.ok.noex b o e)⟩
theorem Inv.bk(I:Inv X pins σ H s):∀b o,X.base.get? b=some o->s.heap.get? b=some o:=λb o e=>(I.bs b o e).1
theorem Inv.mod(I:Inv X pins σ H s):Mod X.K X.mg X.base:=I.ok.mod
theorem Inv.kIn(I:Inv X pins σ H s):X.K.In s.heap:=I.ok.mod.kin.keeps I.bk
theorem Inv.nolimit(I:Inv X pins σ H s):s.heap.NoLimit:=I.ok.mod.nolimit.keeps I.bk
theorem Inv.fr(I:Inv X pins σ H s):∃m,Fr X.base X.env.locals s.heap m:=
 let ⟨m,hn,_⟩:=I.loc
 ⟨m,hn,I.bk,Q4 I.ok.bsz I.ok.above⟩
theorem Inv.lt(I:Inv X pins σ H s):X.env.locals<s.heap.objs.size:=let ⟨_,hn,_⟩:=I.loc;hn.lt
theorem Inv.sz(I:Inv X pins σ H s):X.s₀.heap.objs.size<=s.heap.objs.size:=Q4 I.ok.above (Zz I.lt)
theorem Inv.nofs(I:Inv X pins σ H s){a:Addr}(h:s.heap.objs.size<=a):a∉X.fs:=λhb=>by
 obtain⟨_,o,ho,_⟩:=I.ok.funs.mem hb;exact absurd (QN (Qo ho) (Q4 I.sz h)) (YW _)
theorem Inv.cne(I:Inv X pins σ H s):∀x c,X.env.cells.lookup x=some c->c≠X.env.locals:=λx c e z=>by
 obtain⟨v,o,ho,hd⟩:=I.cell x c e;obtain⟨m,⟨o',es,ep,ho',hd',_⟩,_⟩:=I.loc;rw[z,ho'] at ho;cases ho;rw[hd'] at hd;cases hd
theorem Inv.funs(I:Inv X pins σ H s):s.heap.FunFrames X.base X.outer:=by
 have all:∀(l:List Env),(∀b∈frs l,b∈X.fs)->X.s₀.heap.FunFrames X.base l->s.heap.FunFrames X.base l:=by
  intro l;induction l with
  |nil=>intro _ _;trivial
  |cons env r ih=>
   intro hs hl;obtain⟨hk,⟨L,o,hf,hn,ho,hd⟩,hr⟩:=hl;have hL:L∈X.fs:=hs L (by unfold frs;rw[ZP,hf];exact Jz);obtain⟨sl,e⟩:=I.base.slot L o ho (I.ok.frf L hL) hL λz=>I.ok.exfs L z hL
   exact⟨hk,⟨L,_,hf,hn,e,hd⟩,ih (λb hb=>hs b (by unfold frs;rw[ZP,hf];exact QK _ hb)) hr⟩
 exact all X.outer (λ_ hb=>hb) I.ok.funs
theorem Inv.stack(I:Inv X pins σ H s):s.heap.FunFrames X.base X.stack:=by
 rcases I.ok.stk with e | ⟨e,hf⟩
 ·rw[e];exact I.funs
 ·rw[e];obtain⟨m,hn,_⟩:=I.loc;refine .cons (by rw[I.ok.kind];decide) hf hn ?_ I.funs
  exact Heap.get?_none_of_le (Q4 I.ok.bsz I.ok.above)
theorem Inv.stkSub(I:Inv X pins σ H s):∀b∈frs X.stack,b∈X.env.locals::X.fs:=λb hb=>by
 rcases I.ok.stk with e | ⟨e,hf⟩
 ·rw[e] at hb;exact QK _ hb
 ·rw[e] at hb;unfold frs at hb;rw[ZP,hf] at hb;exact hb
theorem Inv.stkFree(I:Inv X pins σ H s):∀b∈frs X.stack,H b=none:=λb hb=>by
 rcases Qs.mp (I.stkSub b hb) with e | hb
 ·rw[e];exact I.free
 ·obtain⟨_,o,ho,_⟩:=I.ok.funs.mem hb;exact I.base.free b o ho (I.ok.frf b hb) λz=>I.ok.exfs b z hb
theorem Inv.step{g':Array GenState}{t':Nat}{d':Drawn}{ch:List Addr}(I:Inv X pins σ H s)
  (hch:∀b∈ch,(b∈X.ex∨X.s₀.heap.objs.size<=b)/\b≠X.env.locals/\(∀x c,X.env.cells.lookup x=some c->c≠b)/\∀p∈X.pn++pins,p.1≠b)
  (keep:∀b o,b≠X.env.locals->b∉X.fs->b∉ch->s.heap.get? b=some o->H b=none->h'.get? b=some o)
  (slot:∀b o,b≠X.env.locals->b∈X.fs->b∉ch->s.heap.get? b=some o->H b=none->∃sl,h'.get? b=some { o with slots:=sl })(free:∀b o,b∉ch->s.heap.get? b=some o->H b=none->H' b=none)
  (there:∀b o,b∉ch->s.heap.get? b=some o->∃o',h'.get? b=some o')
  (tups:∀b xs,H b=some (.tup xs)->H' b=some (.tup xs))(frzs:∀b o u,H b=some (.frz o u)->H' b=some (.frz o u))(tbls:∀b ps,H b=some (.tbl ps)->∃more,H' b=some (.tbl (ps++more)))
  (ns:∀m,s.heap.Ns X.env.locals m->h'.Ns X.env.locals m)(hok:HOk X.prog X.w H' h')(hg:Qe9 g') :
  Inv X pins σ H' { s with heap:=h',gens:=g',drawn:=d',toks:=t' }:=by
 have neL:∀b o,X.s₀.heap.get? b=some o->b≠X.env.locals:=λb o e=>QC (QN (Qo e) I.ok.above)
 have neC:∀b o,X.s₀.heap.get? b=some o->b∉X.ex->b∉ch:=λb o e hx hb=>by
  rcases(hch b hb).1 with z | z
  ·exact hx z
  ·exact absurd (QN (Qo e) z) (YW _)
 have cellK:∀x c,X.env.cells.lookup x=some c->∀v,s.heap.IsCell c v->h'.IsCell c v:=λx c e v ⟨o,ho,hd⟩=>by
  have nch:c∉ch:=λz=>(hch c z).2.2.1 x c e rfl
  by_cases hc:c∈X.fs
  ·obtain⟨sl,q⟩:=slot c o (I.cne x c e) hc nch ho (I.freeC x c e);exact⟨_,q,hd⟩
  ·exact⟨o,keep c o (I.cne x c e) hc nch ho (I.freeC x c e),hd⟩
 refine⟨I.ok,I.os,hg,⟨λb o e n hb hx=>?_,λb o e n hb hx=>?_,λb o e n hx=>?_,λb o e hx=>?_,λb xs e=>tups b xs (I.base.tups b xs e),λb o xs e=>frzs b o xs (I.base.frzs b o xs e),λb ps e=>?_⟩,?_,λx c e=>?_,?_,λx c e=>?_,λp hp=>?_,hok,I.len⟩
 ·exact keep b o (neL b o e) hb (neC b o e hx) (I.base.keep b o e n hb hx) (I.base.free b o e n hx)
 ·obtain⟨sl,e1⟩:=I.base.slot b o e n hb hx;obtain⟨sl',e2⟩:=slot b _ (neL b o e) hb (neC b o e hx) e1 (I.base.free b o e n hx);exact⟨sl',e2⟩
 ·obtain⟨o',e1⟩:=I.base.there b o e hx;exact free b o' (neC b o e hx) e1 (I.base.free b o e n hx)
 ·obtain⟨o',e1⟩:=I.base.there b o e hx;exact there b o' (neC b o e hx) e1
 ·obtain⟨m1,e1⟩:=I.base.tbls b ps e;obtain⟨m2,e2⟩:=tbls b _ e1;exact⟨m1++m2,by rw[e2,QnR]⟩
 ·obtain⟨m,hn,hl⟩:=I.loc;refine⟨m,ns m hn,λi x v e1 e2 e3=>?_⟩;obtain⟨u,r,l⟩:=hl i x v e1 e2 e3;refine⟨u,r,?_⟩;rcases l with l | ⟨k,c,e,z⟩
  ·exact .inl l
  ·exact .inr ⟨k,c,e,cellK x c e _ z⟩
 ·obtain⟨v,z⟩:=I.cell x c e;exact⟨v,cellK x c e v z⟩
 ·obtain⟨m,⟨o,_,_,ho,_⟩,_⟩:=I.loc;exact free _ o (λz=>(hch _ z).2.1 rfl) ho I.free
 ·obtain⟨v,o,ho,hd⟩:=I.cell x c e;exact free c o (λz=>(hch c z).2.2.1 x c e rfl) ho (I.freeC x c e)
 ·obtain⟨e,n,ne,nf,d⟩:=I.pin p hp;have nch:p.1∉ch:=λz=>(hch p.1 z).2.2.2 p hp rfl
  exact⟨keep p.1 p.2 ne nf nch e n,free p.1 p.2 nch e n,ne,nf,d⟩
theorem Inv.un{t':Nat}(I:Inv X pins σ H s)(u:Un X.fs [] H H' s.heap h')(hok:HOk X.prog X.w H' h'):Inv X pins σ H' { s with heap:=h',toks:=t' }:=by
 obtain⟨m,⟨o,es,ep,ho,r⟩,_⟩:=id I.loc;obtain⟨sl,hL⟩:=u.any ho I.free (by simp);exact I.step (g':=s.gens) (d':=s.drawn) (ch:=[]) (λ_ z=>nomatch z) (λb o _ hb _ e n=>u.keep b o e n hb (by simp)) (λb o _ hb _ e n=>u.slot b o e n hb (by simp)) (λb o _ e n=>u.free b o e n (by simp)) (λb o _ e=>u.there b o e (by simp)) u.tups u.frzs u.tbls (λm' hm=>by
  obtain⟨o',es',ep',ho',r'⟩:=hm;rw[ho] at ho';cases ho';exact⟨_,es',ep',hL,r'⟩) hok I.bare
theorem Inv.call{g':Array GenState}{t':Nat}{d':Drawn}{ch:List Addr}(I:Inv X pins σ H s)(u:Un (frs X.stack) ch H H' s.heap h')(hok:HOk X.prog X.w H' h')(hg:Qe9 g')
  (hch:∀b∈ch,(b∈X.ex∨X.s₀.heap.objs.size<=b)/\b≠X.env.locals/\(∀x c,X.env.cells.lookup x=some c->c≠b)/\∀p∈X.pn++pins,p.1≠b) :
  Inv X pins σ H' { s with heap:=h',gens:=g',drawn:=d',toks:=t' }:=by
 obtain⟨m,⟨o,es,ep,ho,r⟩,_⟩:=id I.loc;obtain⟨sl,hL⟩:=u.any ho I.free λz=>(hch _ z).2.1 rfl
 exact I.step (ch:=ch) hch (λb o hL hb hc e n=>u.keep b o e n (λz=>(Qs.mp (I.stkSub b z)).elim hL hb) hc) (λb o _ _ hc e n=>u.any e n hc) (λb o hc e n=>u.free b o e n hc) (λb o hc e=>u.there b o e hc) u.tups u.frzs u.tbls (λm' hm=>by
  obtain⟨o',es',ep',ho',r'⟩:=hm;rw[ho] at ho';cases ho';exact⟨_,es',ep',hL,r'⟩) hok hg
theorem Inv.turned{t':Nat}{it:Addr}(I:Inv X pins σ H s)(k:∀b o,b≠it->s.heap.get? b=some o->h'.get? b=some o)(hn:H it=none)(hL:it≠X.env.locals)
  (h1:it∈X.ex∨X.s₀.heap.objs.size<=it)(h2:∀x c,X.env.cells.lookup x=some c->c≠it)(h3:∀p∈X.pn++pins,p.1≠it):Inv X pins σ H { s with heap:=h',toks:=t' }:=by
 have nit:∀b u,H b=some u->b≠it:=λb u e z=>by rw[z,hn] at e;cases e
 refine I.step (g':=s.gens) (d':=s.drawn) (ch:=[it]) (λb hb=>?_) (λb o _ _ hc e _=>k b o (λz=>hc (by simp[z])) e) (λb o _ _ hc e _=>⟨o.slots,k b o (λz=>hc (by simp[z])) e⟩) (λ_ _ _ _ n=>n)
  (λb o hc e=>⟨o,k b o (λz=>hc (by simp[z])) e⟩) (λ_ _ e=>e) (λ_ _ _ e=>e) (λb ps e=>⟨#[],by rw[e];simp⟩) (λm hm=>?_) (λb u e=>?_) I.bare
 ·have e:b=it:=by simpa using hb
  subst e;exact⟨h1,hL,h2,h3⟩
 ·obtain⟨o,es,ep,ho,r⟩:=hm;exact⟨o,es,ep,k _ o (Qcn hL) ho,r⟩
 ·refine(I.hok b u e).stay (λc v hc q=>k c v ?_ q) (λ_ q=>q) λ_ _ q=>q
  rcases hc with z | z
  ·rw[z];exact nit b u e
  ·exact nit c _ z
theorem Inv.tok(I:Inv X pins σ H s)(t:Nat):Inv X pins σ H { s with toks:=t }:=I.un (h':=s.heap) (t':=t) Un.refl I.hok
theorem Inv.kept{t':Nat}(I:Inv X pins σ H s)(k:∀b u,s.heap.get? b=some u->h'.get? b=some u):Inv X pins σ H { s with heap:=h',toks:=t' }:=I.un (Un.kept k) (I.hok.kept k)
theorem Inv.laid{a:Addr}{o:HO}{t':Nat}(I:Inv X pins σ H s)(k:∀b u,s.heap.get? b=some u->h'.get? b=some u)(hp:s.heap.objs.size<=a)(new:ObjOk X.prog X.w (upd H a o) h' a o) :
  Inv X pins σ (upd H a o) { s with heap:=h',toks:=t' }:=I.un (Un.laid k hp (I.hok.fresh hp)) (I.hok.laid k hp new)
theorem Inv.write{x e:Addr}{o:HO}{t':Nat}(I:Inv X pins σ H s)(mu:Mut (H x))(he:e=x∨H e=some (.own x))(k:∀b u,b≠e->s.heap.get? b=some u->h'.get? b=some u)(heo:∃u,h'.get? e=some u)
  (new:ObjOk X.prog X.w (upd H x o) h' x o):Inv X pins σ (upd H x o) { s with heap:=h',toks:=t' }:=I.un (Un.write mu he k heo) (I.hok.write mu he k heo new)
theorem Inv.weak{σ':List (Option V)}(I:Inv X pins σ H s)(hl:σ'.length=σ.length)(w:∀(i:Nat) v,σ'[i]? = some (some v)->σ[i]? = some (some v)):Inv X pins σ' H s:=
 ⟨I.ok,I.os,I.bare,I.base,let ⟨m,hn,hl'⟩:=I.loc;⟨m,hn,λi x v e1 e2 e3=>hl' i x v e1 (w i v e2) e3⟩,I.cell,I.free,I.freeC,I.pin,I.hok,hl.trans I.len⟩
theorem Inv.pins_of{pins':List (Addr×Obj)}(I:Inv X pins σ H s)(h:∀p∈pins',s.heap.get? p.1=some p.2/\H p.1=none/\p.1≠X.env.locals/\p.1∉X.fs/\∀v,p.2.data≠.cell v):Inv X pins' σ H s:=
 ⟨I.ok,I.os,I.bare,I.base,I.loc,I.cell,I.free,I.freeC,λp hp=>(Ji.mp hp).elim (λz=>I.pin p (ZF _ z)) (h p),I.hok,I.len⟩
theorem QjJ{N:List Str}(hN:N.Nodup){i j:Nat}{x:Str}(a:N[i]? = some x)(b:N[j]? = some x):i=j:=by
 obtain⟨h1,e1⟩:=QQ.mp a;obtain⟨h2,e2⟩:=QQ.mp b;exact(List.getElem_inj hN).mp (e1.trans e2.symm)
theorem Qhc{M:Qxd}{A:Q2}{E:Value->Shared->Prop}{i:Nat}{x:Str}{v:V}{u:Value}{Q:Unit->Shared->Prop}(I:Inv X pins σ H s)(hN:X.N.Nodup)(hi:X.N[i]? = some x)(hx:Loc X.env.scope x)(r:RelV v u)
  (h:∀s',Inv X pins (σ.set i (some v)) H s'->(∃a,Qag a s.heap s'.heap/\(a=X.env.locals∨X.env.cells.lookup x=some a))->Q () s')(hf:X.fn x=true∨X.env.scope.names.lookup x=some .local:=by first | exact .inl rfl | exact .inr rfl | assumption):wpAny M A (storeName X.env x u) Q E s:=by
 obtain⟨m,hn,hl⟩:=id I.loc;have hcls:(X.env.scope.kind == .class||(X.env.scope.kind == .module&&X.env.locals != X.env.globals))=false:=by rw[I.ok.kind];rfl
 have hiσ:i < σ.length:=by rw[I.len];exact(QQ.mp hi).1
 have cne:=I.cne;have tracked:∀{a:Addr}{h':Heap},(∃o,s.heap.get? a=some o/\H a=none)->Qag a s.heap h'->HOk X.prog X.w H h':=λ{a h'} ha hs b ob e=>by
  obtain⟨_,_,hfree⟩:=ha;refine(I.hok b ob e).stay (λc w' hc q=>(hs.2 c ?_).trans q) (λ_ q=>q) λ_ _ q=>q
  rintro rfl;rcases hc with rfl | hc
  ·rw[hfree] at e;cases e
  ·rw[hfree] at hc;cases hc
 rcases hx with hk | hk
 ·refine wpAny_storeName_local hk hn (λh' hn' hs=>?_) hcls;obtain⟨oL,_,_,hoL,_⟩:=id hn;refine h _ ⟨I.ok,I.os,I.bare,⟨λb o e n hb hx=>?_,λb o e n hb hx=>?_,I.base.free,λb o e hx=>?_,I.base.tups,I.base.frzs,I.base.tbls⟩,⟨_,hn',λj y v' e1 e2 e3=>?_⟩,λy c e=>?_,I.free,I.freeC,λp hp=>?_,tracked ⟨oL,hoL,I.free⟩ hs,by simpa using I.len⟩ ⟨_,hs,.inl rfl⟩
  ·exact(hs.2 b (QC (QN (Qo e) I.ok.above))).trans (I.base.keep b o e n hb hx)
  ·obtain⟨sl,e1⟩:=I.base.slot b o e n hb hx;exact⟨sl,(hs.2 b (QC (QN (Qo e) I.ok.above))).trans e1⟩
  ·obtain⟨o',e1⟩:=I.base.there b o e hx;exact⟨o',(hs.2 b (QC (QN (Qo e) I.ok.above))).trans e1⟩
  ·by_cases hj:j=i
   ·subst hj;rw[hi] at e1;cases e1;rw[Qaw hiσ] at e2;cases e2;exact⟨u,r,.inl ⟨hk,by simp⟩⟩
   ·rw[Qdl (Qcn hj)] at e2;obtain⟨u',r',q⟩:=hl j y v' e1 e2 e3;refine⟨u',r',?_⟩;rcases q with⟨k,e⟩ | ⟨k,c,e,z⟩
    ·refine .inl ⟨k,?_⟩;have:y≠x:=λe=>hj (QjJ hN e1 (e ▸ hi))
     simp[this,e]
    ·exact .inr ⟨k,c,e,z.sameBut hs (cne y c e)⟩
  ·obtain⟨w',z⟩:=I.cell y c e;exact⟨w',z.sameBut hs (cne y c e)⟩
  ·obtain⟨e,n,ne,nf,d⟩:=I.pin p hp;exact⟨(hs.2 p.1 ne).trans e,n,ne,nf,d⟩
 ·have hfn:X.fn x=true:=by
   rcases hf with z | z
   ·exact z
   ·rw[z] at hk;cases hk
  obtain⟨c,hc⟩:=I.ok.has x (.inl hk);obtain⟨w',z⟩:=I.cell x c hc;refine wpAny_storeName_cell I.ok.kind hk hc z (λh' hc' hs=>?_);obtain⟨oc,hoc,hocd⟩:=id z;refine h { s with heap:=h' } ⟨I.ok,I.os,I.bare,⟨λb o e n hb hx=>?_,λb o e n hb hx=>?_,I.base.free,λb o e hx=>?_,I.base.tups,I.base.frzs,I.base.tbls⟩,⟨m,hn.sameBut hs (Qcn (cne x c hc)),λj y v' e1 e2 e3=>?_⟩,λy c' e=>?_,I.free,I.freeC,λp hp=>?_,tracked ⟨oc,hoc,I.freeC x c hc⟩ hs,by simpa using I.len⟩ ⟨c,hs,.inr hc⟩
  ·exact(hs.2 b (QC (QN (Qo e) (I.ok.cab x c hfn hc)))).trans (I.base.keep b o e n hb hx)
  ·obtain⟨sl,e1⟩:=I.base.slot b o e n hb hx;exact⟨sl,(hs.2 b (QC (QN (Qo e) (I.ok.cab x c hfn hc)))).trans e1⟩
  ·obtain⟨o',e1⟩:=I.base.there b o e hx;exact⟨o',(hs.2 b (QC (QN (Qo e) (I.ok.cab x c hfn hc)))).trans e1⟩
  ·by_cases hj:j=i
   ·subst hj;rw[hi] at e1;cases e1;rw[Qaw hiσ] at e2;cases e2;exact⟨u,r,.inr ⟨.inl hk,c,hc,hc'⟩⟩
   ·rw[Qdl (Qcn hj)] at e2;obtain⟨u',r',q⟩:=hl j y v' e1 e2 e3;refine⟨u',r',?_⟩;rcases q with q | ⟨k,c',e,z'⟩
    ·exact .inl q
    ·refine .inr ⟨k,c',e,z'.sameBut hs ?_⟩;rintro rfl;exact hj (QjJ hN e1 (I.ok.inj _ _ _ e hc ▸ hi))
  ·by_cases hcc:c'=c
   ·subst hcc;exact⟨_,hc'⟩
   ·obtain⟨w2,z2⟩:=I.cell y c' e;exact⟨w2,z2.sameBut hs hcc⟩
  ·obtain⟨e,n,ne,nf,d⟩:=I.pin p hp;refine⟨(hs.2 p.1 ?_).trans e,n,ne,nf,d⟩;intro q;rw[q,hoc] at e;have q':oc=p.2:=Qw e;exact d w' (by rw[<- q'];exact hocd)
theorem Qjv{M:Qxd}{A:Q2}{E:Value->Shared->Prop}{i:Nat}{x:Str}{v:V}{u:Value}{Q:Unit->Shared->Prop}(I:Inv X pins σ H s)(hN:X.N.Nodup)(hi:X.N[i]? = some x)(hx:Loc X.env.scope x)(r:RelV v u)
  (h:∀s',Inv X pins (σ.set i (some v)) H s'->Q () s')(hf:X.fn x=true∨X.env.scope.names.lookup x=some .local:=by first | exact .inl rfl | exact .inr rfl | assumption):wpAny M A (storeName X.env x u) Q E s:=
 Qhc I hN hi hx r (λs' I' _=>h s' I') hf
theorem Inv.call'{s':Shared}{ch:List Addr}(I:Inv X pins σ H s)(ho:s'.os=s.os)(u:Un (frs X.stack) ch H H' s.heap s'.heap)(hok:HOk X.prog X.w H' s'.heap)(hg:Qe9 s'.gens)
  (hch:∀b∈ch,(b∈X.ex∨X.s₀.heap.objs.size<=b)/\b≠X.env.locals/\(∀x c,X.env.cells.lookup x=some c->c≠b)/\∀p∈X.pn++pins,p.1≠b):Inv X pins σ H' s':=by
 obtain⟨h',g',d',t',o'⟩:=s';have e:o'=s.os:=ho;subst e;exact I.call (g':=g') (t':=t') (d':=d') u hok hg hch
end
abbrev XK:=Value->Option Addr->Hp->Prop
abbrev St:=List (Option V)
abbrev VK:=V->Hp->Prop
abbrev TE:=St->Hp->VK->Prop
abbrev TT:=St->Hp->(Bool->Hp->Prop)->Prop
abbrev TA:=St->Hp->(List V->Hp->Prop)->Prop
structure Ends where
 nx:St->Hp->Prop
 rt:VK
 bk:St->Hp->Prop:=λ_ _=>False
 ct:St->Hp->Prop:=λ_ _=>False
abbrev TS:=Ends->St->Hp->Prop
def EP(X:Cx)(pins:List (Addr×Obj))(σ:St)(Q:VK)(u:Value)(s':Shared):Prop:=∃v H',Inv X pins σ H' s'/\RelV v u/\Q v H'
def TP(X:Cx)(pins:List (Addr×Obj))(σ:St)(Q:Bool->Hp->Prop)(b:Bool)(s':Shared):Prop:=∃H',Inv X pins σ H' s'/\Q b H'
def AP(X:Cx)(pins:List (Addr×Obj))(σ:St)(Q:List V->Hp->Prop)(us:List Value)(s':Shared):Prop:=∃vs H',Inv X pins σ H' s'/\Vals vs us/\Q vs H'
def SP(X:Cx)(pins:List (Addr×Obj))(D:Ends)(f:Flow)(s':Shared):Prop:=
 match f with
 |.next=>∃σ' H',Inv X pins σ' H' s'/\D.nx σ' H'
 |.brk=>∃σ' H',Inv X pins σ' H' s'/\D.bk σ' H'
 |.cont=>∃σ' H',Inv X pins σ' H' s'/\D.ct σ' H'
 |.ret u=>∃v σ' H',Inv X pins σ' H' s'/\RelV v u/\D.rt v H'
def PE(X:Cx)(e:QZ)(t:TE):Prop:=
 ∀(pins:List (Addr×Obj))(s:Shared)(σ:St)(H:Hp)(Q:VK),Inv X pins σ H s->t σ H Q->wpAny (model X.prog X.w) X.A (eval e X.env) (EP X pins σ Q) X.xe s
def PT(X:Cx)(e:QZ)(t:TT):Prop:=
 ∀(pins:List (Addr×Obj))(s:Shared)(σ:St)(H:Hp)(Q:Bool->Hp->Prop),Inv X pins σ H s->t σ H Q->wpAny (model X.prog X.w) X.A (isTrue e X.env (eval e X.env)) (TP X pins σ Q) X.xe s
def PW(X:Cx)(e:QZ)(t:TT):Prop:=
 ∀(whole:Sem Value)(pins:List (Addr×Obj))(s:Shared)(σ:St)(H:Hp)(Q:Bool->Hp->Prop),Inv X pins σ H s->t σ H Q->wpAny (model X.prog X.w) X.A (isTrue e X.env whole) (TP X pins σ Q) X.xe s
theorem PW.pt{X:Cx}{e:QZ}{t:TT}(h:PW X e t):PT X e t:=h _
def PA(X:Cx)(es:List QZ)(t:TA):Prop:=
 ∀(pos:Pos)(pins:List (Addr×Obj))(s:Shared)(σ:St)(H:Hp)(Q:List V->Hp->Prop),Inv X pins σ H s->t σ H Q->wpAny (model X.prog X.w) X.A (spliced (backTo pos (starEach es X.env))) (AP X pins σ Q) X.xe s
def PS(X:Cx)(st:Y3)(t:TS):Prop:=
 ∀(pins:List (Addr×Obj))(s:Shared)(σ:St)(H:Hp)(D:Ends),Inv X pins σ H s->t D σ H->wpAny (model X.prog X.w) X.A (exec st X.env) (SP X pins D) X.xe s
def PSs(X:Cx)(st:List Y3)(t:TS):Prop:=
 ∀(pins:List (Addr×Obj))(s:Shared)(σ:St)(H:Hp)(D:Ends),Inv X pins σ H s->t D σ H->wpAny (model X.prog X.w) X.A (execs st X.env) (SP X pins D) X.xe s
theorem thn{α:Type}{t:Sem α}{Q Q':α->Shared->Prop}{M:Qxd}{A:Q2}{E:Value->Shared->Prop}{s:Shared}(h:wpAny M A t Q E s)(hQ:∀a s,Q a s->Q' a s):wpAny M A t Q' E s:=wpAny_mono h hQ λ_ _ x=>x
section
variable{X:Cx}
theorem bin{a b:QZ}{ta tb:TE}(ha:PE X a ta)(hb:PE X b tb){pins:List (Addr×Obj)}{s:Shared}{σ:St}{H:Hp}{R:V->V->Hp->Prop}(I:Inv X pins σ H s)(h:ta σ H λx H1=>tb σ H1 λy H2=>R x y H2)
  {α:Type} {Q:α->Shared->Prop} {f:Value->Value->Sem α}
  (hf:∀v u s2 x y H2,Inv X pins σ H2 s2->RelV x v->RelV y u->R x y H2->wpAny (model X.prog X.w) X.A (f v u) Q X.xe s2) :
  wpAny (model X.prog X.w) X.A (eval a X.env) (λv s₁=>wpAny (model X.prog X.w) X.A (eval b X.env) (λu s₂=>wpAny (model X.prog X.w) X.A (f v u) Q X.xe s₂) X.xe s₁) X.xe s:=by
 refine thn (ha pins s σ H _ I h) λv s1 ⟨x,H1,I1,r1,q1⟩=>?_
 refine thn (hb pins s1 σ H1 _ I1 q1) λu s2 ⟨y,H2,I2,r2,q2⟩=>?_
 exact hf v u s2 x y H2 I2 r1 r2 q2
def Qfa(i:Nat):TE:=λσ H Q=>∃v,σ[i]? = some (some v)/\Q v H
def tC(v:V):TE:=λ_ H Q=>Q v H
theorem Qu8{i:Nat}{x:Str}{pos:Pos}(hN:X.N[i]? = some x)(hv:Vis X.env.scope x)(hd:(x == ("__debug__" : Str))=false:=by decide)(hcd:(x == ("__classdict__" : Str))=false:=by decide):PE X (.Name x pos) (Qfa i):=by
 intro pins s σ H Q I h;obtain⟨v,e,h⟩:=h;obtain⟨m,hn,hl⟩:=I.loc;obtain⟨u,r,l⟩:=hl i x v hN e hv;have fin:EP X pins σ Q u s:=⟨v,H,I,r,h⟩;rcases l with⟨hk,hm⟩ | ⟨hk,c,hc,hcell⟩
 ·exact Qw0 (wpAny_loadName_local I.ok.kind hk hn hm fin) hd
 ·rcases hk with hk | hk
  ·exact Qw0 (wpAny_loadName_cell I.ok.kind hk hc hcell fin) hd
  ·exact Qw0 (wpAny_loadName_free I.ok.kind hk hc hcell fin hcd) hd
theorem YA{i j pos}:PE X (.Constant (.int i) j pos) (tC (.int i)):=λ_ _ _ H _ I h=>wpAny_Constant_int ⟨.int i,H,I.tok _,⟨_,rfl⟩,h⟩
theorem Qva{b j pos}:PE X (.Constant (.bool b) j pos) (tC (.bl b)):=λ_ _ _ H _ I h=>Constant_bool ⟨.bl b,H,I,rfl,h⟩
theorem Qrh{j pos}:PE X (.Constant .none j pos) (tC .non):=λ_ _ _ H _ I h=>Constant_none ⟨.non,H,I,rfl,h⟩
def Gl(X:Cx)(x:Str):Prop:=X.env.kindOf x=some .globalImplicit
theorem Qmy{E:Value->Shared->Prop}{pins:List (Addr×Obj)}{s:Shared}{σ:St}{H:Hp}{x:Str}{u:Value}{pos:Pos}{Q:Value->Shared->Prop}(I:Inv X pins σ H s)(hg:Gl X x)(hm:X.mg x=some u)(h:Q u s)
  (hd:(x == ("__debug__" : Str))=false:=by decide):wpAny (model X.prog X.w) X.A (eval (.Name x pos) X.env) Q E s:=
 QgQ I.ok.kind hg (Calls.loadGlobal_global (by rw[I.ok.glob];exact I.mod.glob.keeps I.bk) hm h) hd
theorem QeJ{E:Value->Shared->Prop}{pins:List (Addr×Obj)}{s:Shared}{σ:St}{H:Hp}{x:Str}{u:Value}{pos:Pos}{Q:Value->Shared->Prop}(I:Inv X pins σ H s)(hg:Gl X x)(hm:X.mg x=none)(hv:bootBuiltins x=some u)(h:Q u s)
  (hn:x ≠ "__name__" := by decide)(hd:(x == ("__debug__" : Str))=false:=by decide):wpAny (model X.prog X.w) X.A (eval (.Name x pos) X.env) Q E s:=by
 obtain⟨mb,h1,h2⟩:=I.mod.blt;exact QgQ I.ok.kind hg (Calls.loadGlobal_builtin (by rw[I.ok.glob];exact I.mod.glob.keeps I.bk) hm (by rw[I.ok.blt];exact h1.keeps I.bk) ((h2 x hn).trans hv) h) hd
theorem QsC{x:Str}{v:V}{u:Value}{pos:Pos}(hg:Gl X x)(hm:X.mg x=some u)(r:RelV v u)(hd:(x == ("__debug__" : Str))=false:=by decide):PE X (.Name x pos) (tC v):=
 λ_ _ _ H _ I h=>Qmy I hg hm ⟨v,H,I,r,h⟩ hd
theorem Qax{x:Str}{v:V}{u:Value}{pos:Pos}(hg:Gl X x)(hm:X.mg x=none)(hv:bootBuiltins x=some u)(r:RelV v u)(hn:x ≠ "__name__" := by decide)(hd:(x == ("__debug__" : Str))=false:=by decide):PE X (.Name x pos) (tC v):=
 λ_ _ _ H _ I h=>QeJ I hg hm hv ⟨v,H,I,r,h⟩ hn hd
variable{a b:QZ}{ta tb:TE}{pos:Pos}
def PC(X:Cx)(op:QfV)(a b:QZ)(t:TE):Prop:=
 ∀(pins:List (Addr×Obj))(s:Shared)(σ:St)(H:Hp)(Q:VK),Inv X pins σ H s->t σ H Q ->
  wpAny (model X.prog X.w) X.A (eval a X.env) (λv s₁=>wpAny (model X.prog X.w) X.A (eval b X.env) (λu s₂=>wpAny (model X.prog X.w) X.A (compareOp op v u) (EP X pins σ Q) X.xe s₂) X.xe s₁) X.xe s
theorem Qo8(b:QZ){op:QfV}(h:op≠.In)(h2:op≠.NotIn):behindInMarks op b=false:=by
 have e1:(op == CmpOp.In)=false:=by cases op<;>first | rfl | exact absurd rfl h
 have e2:(op == Qxi)=false:=by cases op<;>first | rfl | exact absurd rfl h2
 cases b<;>simp[behindInMarks,e1,e2]
def tB(t:TE):TT:=λσ H Q=>t σ H λx H1=>∃c,x=.bl c/\Q c H1
theorem QyB{op:QfV}{t:TE}(h:PC X op a b t)(h1:behindInMarks op b=false:=by first | exact Qo8 _ (by decide) (by decide) | rfl):PT X (.Compare a [op] [b] pos) (tB t):=by
 intro pins s σ H Q I hw;refine QrP (thn (h pins s σ H _ I hw) λv s1 h1=>thn h1 λu s2 h2=>thn h2 λc s3 ⟨x,H1,I1,r1,q1⟩=>?_) h1;obtain⟨d,rfl,q⟩:=q1;cases r1;exact J5 ⟨H1,I1,q⟩
theorem Qhn{e:QZ}{t:TE}(h:PE X e t)(he:∀whole,isTrue e X.env whole=(do let v <- whole;standAt e.pos;holding [v] (truthy v)):=by intro _;rfl):PT X e (tB t):=by
 intro pins s σ H Q I hw;refine isTrue_plain (thn (h pins s σ H _ I hw) λv s1 ⟨x,H1,I1,r1,q1⟩=>?_) (he _);obtain⟨d,rfl,q⟩:=q1;cases r1;exact J5 ⟨H1,I1,q⟩
variable{tA tB':TT}{rest:List QZ}
def Qyn(t u:TT):TT:=λσ H Q=>t σ H λc H1=>if c=true then u σ H1 Q else Q false H1
def tOr(t u:TT):TT:=λσ H Q=>t σ H λc H1=>if c=true then Q true H1 else u σ H1 Q
def Qy4(t:TT):TT:=λσ H Q=>t σ H λc H1=>Q (!c) H1
theorem QlS(ha:PT X a tA):PW X (.BoolOp .And [a] pos) tA:=by
 intro wh pins s σ H Q I h;refine isTrue_and (thn (ha pins s σ H Q I h) λc s1 e=>?_);cases c with
 |true=>exact isTrue_and_nil e
 |false=>exact e
theorem Qrc(ha:PT X a tA):PW X (.BoolOp .Or [a] pos) tA:=by
 intro wh pins s σ H Q I h;refine isTrue_or (thn (ha pins s σ H Q I h) λc s1 e=>?_);cases c with
 |false=>exact isTrue_or_nil e
 |true=>exact e
theorem Qrd(ha:PT X a tA)(hb:PW X (.BoolOp .And (b::rest) pos) tB'):PW X (.BoolOp .And (a::b::rest) pos) (Qyn tA tB'):=by
 intro wh pins s σ H Q I h;refine isTrue_and (thn (ha pins s σ H _ I h) λc s1 ⟨H1,I1,q1⟩=>?_);cases c with
 |true=>exact hb wh pins s1 σ H1 Q I1 q1
 |false=>exact⟨H1,I1,q1⟩
theorem Qu3(ha:PT X a tA)(hb:PW X (.BoolOp .Or (b::rest) pos) tB'):PW X (.BoolOp .Or (a::b::rest) pos) (tOr tA tB'):=by
 intro wh pins s σ H Q I h;refine isTrue_or (thn (ha pins s σ H _ I h) λc s1 ⟨H1,I1,q1⟩=>?_);cases c with
 |true=>exact⟨H1,I1,q1⟩
 |false=>exact hb wh pins s1 σ H1 Q I1 q1
theorem Qu4(ha:PT X a tA):PT X (.UnaryOp .Not a pos) (Qy4 tA):=by
 intro pins s σ H Q I h;exact isTrue_not (ha pins s σ H (λc H1=>Q (!c) H1) I h)
def Qxt(ta tb:TE):TE:=λσ H Q=>ta σ H λx H1=>∃c,x=.bl c/\if c=true then tb σ H1 Q else Q (.bl false) H1
def Qy3(ta tb:TE):TE:=λσ H Q=>ta σ H λx H1=>∃c,x=.bl c/\if c=true then Q (.bl true) H1 else tb σ H1 Q
def Qxq(ta:TE):TE:=λσ H Q=>ta σ H λx H1=>∃c,x=.bl c/\Q (.bl (!c)) H1
theorem Qfx{op}{t:TE}(h:PE X a t):PE X (.BoolOp op [a] pos) t:=λpins s σ H Q I hw=>BoolOp_one (h pins s σ H Q I hw)
theorem Qfy(ha:PE X a ta)(hb:PE X (.BoolOp .And (b::rest) pos) tb):PE X (.BoolOp .And (a::b::rest) pos) (Qxt ta tb):=by
 intro pins s σ H Q I h;refine BoolOp_and (thn (ha pins s σ H _ I h) λv s1 ⟨x,H1,I1,r1,q1⟩=>?_);obtain⟨c,rfl,q1⟩:=q1;cases r1;refine J5 ?_
 cases c with
 |true=>exact hb pins s1 σ H1 Q I1 q1
 |false=>exact⟨.bl false,H1,I1,rfl,q1⟩
theorem QxM(ha:PE X a ta)(hb:PE X (.BoolOp .Or (b::rest) pos) tb):PE X (.BoolOp .Or (a::b::rest) pos) (Qy3 ta tb):=by
 intro pins s σ H Q I h;refine BoolOp_or (thn (ha pins s σ H _ I h) λv s1 ⟨x,H1,I1,r1,q1⟩=>?_);obtain⟨c,rfl,q1⟩:=q1;cases r1;refine J5 ?_
 cases c with
 |false=>exact hb pins s1 σ H1 Q I1 q1
 |true=>exact⟨.bl true,H1,I1,rfl,q1⟩
theorem Qrg(ha:PE X a ta):PE X (.UnaryOp .Not a pos) (Qxq ta):=by
 intro pins s σ H Q I h;refine UnaryOp_ (thn (ha pins s σ H _ I h) λv s1 ⟨x,H1,I1,r1,q1⟩=>?_);obtain⟨c,rfl,q1⟩:=q1;cases r1;exact not_of (J5 ⟨.bl (!c),H1,I1,rfl,q1⟩)
end
def SqL(K:PySem.W.Frag)(H:Hp)(a:Addr)(xs:List V):Prop:=
 Rd H a (.lst xs) ∨
  ∃(o:Obj)(its:Array Value)(n:Nat),K.lookup a=some o/\o.cls=.type "list" /\ o.dict=none/\o.data=.seq its n/\its.size<=sizeLine/\Vals xs its.toList
def SqT(K:PySem.W.Frag)(H:Hp)(a:Addr)(xs:List V):Prop:=
 Rd H a (.tup xs) ∨
  ∃(o:Obj)(its:Array Value)(n:Nat),K.lookup a=some o/\o.cls=.type "tuple" /\ o.data=.seq its n/\its.size<=sizeLine/\Vals xs its.toList
def Qzv:Value->Option V
 |.none=>some .non
 |.bool b=>some (.bl b)
 |.int i _=>some (.int i)
 |.str x _=>some (.str x)
 |.bytes b _=>some (.byt b)
 |.float b _=>some (.flt b)
 |.ref a=>some (.ref a)
 |.type n=>some (.ty n)
 |_=>none
theorem RelV.abs{x:V}{u:Value}(r:RelV x u):Qzv u=some x:=by
 cases x with
 |non=>cases r;rfl
 |bl _=>cases r;rfl
 |int _=>obtain⟨t,rfl⟩:=r;rfl
 |str _=>obtain⟨t,rfl⟩:=r;rfl
 |byt _=>obtain⟨t,rfl⟩:=r;rfl
 |flt _=>obtain⟨t,rfl⟩:=r;rfl
 |ref _=>cases r;rfl
 |ty _=>cases r;rfl
theorem RelV.inj{x y:V}{u:Value}(r:RelV x u)(q:RelV y u):x=y:=Qw (r.abs.symm.trans q.abs)
theorem Vals.inj:∀{xs ys:List V}{us:List Value},Vals xs us->Vals ys us->xs=ys
 |_,_,_,.nil,.nil=>rfl
 |_,_,_,.cons r t,.cons r' t'=>by rw[r.inj r',Vals.inj t t']
section
variable{X:Cx}{pins:List (Addr×Obj)}{σ:St}{H:Hp}{s:Shared}{a:Addr}{xs ys:List V}
theorem SqL.of{K:PySem.W.Frag}(h:H a=some (.lst xs)):SqL K H a xs:=.inl (.inl h)
theorem SqT.of{K:PySem.W.Frag}(h:H a=some (.tup xs)):SqT K H a xs:=.inl (.inl h)
theorem Inv.list(I:Inv X pins σ H s)(h:SqL X.K H a xs):∃its:List Value,Vals xs its/\PlainL s.heap a its.toArray/\xs.length<=sizeLine:=by
 rcases h with h | ⟨o,its,n,hk,hc,hd,hs,hz,r⟩
 ·obtain⟨z,its,n,r,e⟩:=h.ok I.hok;exact⟨its,r,⟨_,n,e,rfl,rfl,rfl⟩,z⟩
 ·refine⟨its.toList,r,⟨o,n,I.kIn a o hk,hc,hd,by simpa using hs⟩,?_⟩;have e:=r.length;simp only[Qe] at e;omega
theorem Inv.tuple(I:Inv X pins σ H s)(h:SqT X.K H a xs):∃its:List Value,Vals xs its/\IsTup s.heap a its.toArray/\xs.length<=sizeLine:=by
 rcases h with h | ⟨o,its,n,hk,hc,hs,hz,r⟩
 ·obtain⟨z,its,r,p⟩:=h.ok I.hok;exact⟨its,r,p,z⟩
 ·refine⟨its.toList,r,⟨o,I.kIn a o hk,hc,n,by simpa using hs⟩,?_⟩;have e:=r.length;simp only[Qe] at e;omega
theorem Inv.list_inj(I:Inv X pins σ H s)(h:SqL X.K H a xs)(h':SqL X.K H a ys):xs=ys:=by
 obtain⟨its,r,⟨o,n,e,_,_,d⟩,_⟩:=I.list h;obtain⟨its',r',⟨o',n',e',_,_,d'⟩,_⟩:=I.list h';rw[e] at e';cases e';rw[d] at d';injection d' with d1 _
 have:its=its':=by simpa using congrArg QwL d1
 subst this;exact r.inj r'
theorem Inv.tuple_inj(I:Inv X pins σ H s)(h:SqT X.K H a xs)(h':SqT X.K H a ys):xs=ys:=by
 obtain⟨its,r,⟨o,e,_,n,d⟩,_⟩:=I.tuple h;obtain⟨its',r',⟨o',e',_,n',d'⟩,_⟩:=I.tuple h';rw[e] at e';cases e';rw[d] at d';injection d' with d1 _
 have:its=its':=by simpa using congrArg QwL d1
 subst this;exact r.inj r'
end
abbrev Cx.wish (X:Cx) (E:Value->Shared->Prop):Cx:={ X with xe:=E }
abbrev Cx.nox (X:Cx):Cx:=X.wish λ_ _=>False
theorem Cx.Ok.wish{X:Cx}(ok:X.Ok)(E:Value->Shared->Prop):(X.wish E).Ok:=
 ⟨ok.mod,ok.kind,ok.glob,ok.blt,ok.above,ok.inj,ok.has,ok.cab,ok.hd,ok.frames,ok.stk,ok.exf,ok.bs,ok.bsz,ok.noex,ok.exfs,ok.funs,ok.frf⟩
theorem Cx.Ok.unwish{X:Cx}{E:Value->Shared->Prop}(ok:(X.wish E).Ok):X.Ok:=
 ⟨ok.mod,ok.kind,ok.glob,ok.blt,ok.above,ok.inj,ok.has,ok.cab,ok.hd,ok.frames,ok.stk,ok.exf,ok.bs,ok.bsz,ok.noex,ok.exfs,ok.funs,ok.frf⟩
section
variable{X:Cx}{pins:List (Addr×Obj)}{σ:St}{H:Hp}{s:Shared}{E:Value->Shared->Prop}
theorem Inv.wish(I:Inv X pins σ H s)(E:Value->Shared->Prop):Inv (X.wish E) pins σ H s:=⟨I.ok.wish E,I.os,I.bare,I.base,I.loc,I.cell,I.free,I.freeC,I.pin,I.hok,I.len⟩
theorem Inv.unwish(I:Inv (X.wish E) pins σ H s):Inv X pins σ H s:=⟨I.ok.unwish,I.os,I.bare,I.base,I.loc,I.cell,I.free,I.freeC,I.pin,I.hok,I.len⟩
theorem SP.unwish{D:Ends}{f:Flow}{s':Shared}(h:SP (X.wish E) pins D f s'):SP X pins D f s':=by
 cases f with
 |next=>obtain⟨σ',H',I,q⟩:=h;exact⟨σ',H',I.unwish,q⟩
 |brk=>obtain⟨σ',H',I,q⟩:=h;exact⟨σ',H',I.unwish,q⟩
 |cont=>obtain⟨σ',H',I,q⟩:=h;exact⟨σ',H',I.unwish,q⟩
 |ret u=>obtain⟨v,σ',H',I,r,q⟩:=h;exact⟨v,σ',H',I.unwish,r,q⟩
theorem PE.nox{e:QZ}{t:TE}(h:PE X.nox e t):PE X e t:=λpins s σ H Q I hw=>
 wpAny_mono (h pins s σ H Q (I.wish _) hw) (λ_ _ ⟨v,H',I',r,q⟩=>⟨v,H',I'.unwish,r,q⟩) λ_ _ z=>Z3 z
theorem PT.nox{e:QZ}{t:TT}(h:PT X.nox e t):PT X e t:=λpins s σ H Q I hw=>
 wpAny_mono (h pins s σ H Q (I.wish _) hw) (λ_ _ ⟨H',I',q⟩=>⟨H',I'.unwish,q⟩) λ_ _ z=>Z3 z
theorem PSs.nox{st:List Y3}{t:TS}(h:PSs X.nox st t):PSs X st t:=λpins s σ H D I hw=>
 wpAny_mono (h pins s σ H D (I.wish _) hw) (λ_ _ q=>q.unwish) λ_ _ z=>Z3 z
end
section
variable{X:Cx}{st:Y3}{rest:List Y3}{t u:TS}{e:QZ}{te:TE}{pos:Pos}
def Qxr:TS:=λD σ H=>D.nx σ H
def Qy1(t u:TS):TS:=λD σ H=>t { D with nx:=u D } σ H
theorem QbR:PSs X [] Qxr:=λ_ _ σ H _ I h=>Qkj ⟨σ,H,I,h⟩
theorem Zs(h1:PS X st t)(h2:PSs X rest u):PSs X (st::rest) (Qy1 t u):=by
 intro pins s σ H D I h;refine wpAny_execs_cons (thn (h1 pins s σ H { D with nx:=u D } I h) λf s1 q=>?_);cases f with
 |next=>
  obtain⟨σ',H',I',q⟩:=q;exact h2 pins s1 σ' H' D I' q
 |ret v=>exact q
 |brk=>exact q
 |cont=>exact q
theorem Yd(h1:PS X st t):PSs X [st] t:=by
 intro pins s σ H D I h;refine wpAny_execs_cons (thn (h1 pins s σ H D I h) λf s1 q=>?_);cases f with
 |next=>exact Qkj q
 |ret v=>exact q
 |brk=>exact q
 |cont=>exact q
theorem Inv.quiet{pins:List (Addr×Obj)}{σ:St}{H:Hp}{s:Shared}(I:Inv X pins σ H s):interactive X.env=false:=by simp[interactive,I.ok.kind]
def Qsf(te:TE):TS:=λD σ H=>te σ H λ_ H1=>D.nx σ H1
theorem QiN(he:PE X e te)(hs:swapsWith e none pos.line X.env=pure false:=by rfl):PS X (.Expr e pos) (Qsf te):=by
 intro pins s σ H D I h;exact wpAny_Expr_any (thn (he pins s σ H _ I h) λv s1 ⟨x,H1,I1,r1,q1⟩=>⟨σ,H1,I1,q1⟩) I.quiet hs
def Qy2(te:TE):TS:=λD σ H=>te σ H D.rt
theorem Qar(he:PE X e te):PS X (.Return (some e) pos) (Qy2 te):=by
 intro pins s σ H D I h;exact wpAny_Return_some (thn (he pins s σ H _ I h) λv s1 ⟨x,H1,I1,r1,q1⟩=>⟨x,σ,H1,I1,r1,q1⟩)
def Qy6(c:TT)(t u:TS):TS:=λD σ H=>c σ H λb H1=>if b=true then t D σ H1 else u D σ H1
theorem Qho{c:QZ}{a b:List Y3}{tc:TT}(hc:PT X c tc)(ha:PSs X a t)(hb:PSs X b u):PS X (.If c a b pos) (Qy6 tc t u):=by
 intro pins s σ H D I h;refine wpAny_If (thn (hc pins s σ H _ I h) λd s1 ⟨H1,I1,q1⟩=>?_);cases d with
 |true=>exact ha pins s1 σ H1 D I1 q1
 |false=>exact hb pins s1 σ H1 D I1 q1
end
abbrev TG:=V->St->Hp->(St->Hp->Prop)->Prop
abbrev TGs:=List V->St->Hp->(St->Hp->Prop)->Prop
def PG(X:Cx)(target:QZ)(t:TG):Prop:=
 ∀(pins:List (Addr×Obj))(s:Shared)(σ:St)(H:Hp)(v:V)(u:Value)(Q:St->Hp->Prop),Inv X pins σ H s->RelV v u->t v σ H Q ->
  wpAny (model X.prog X.w) X.A (assign target X.env u) (λ_ s'=>∃σ' H',Inv X pins σ' H' s'/\Q σ' H') X.xe s
def PGs(X:Cx)(ts:List QZ)(t:TGs):Prop:=
 ∀(pins:List (Addr×Obj))(s:Shared)(σ:St)(H:Hp)(vs:List V)(us:List Value)(Q:St->Hp->Prop),Inv X pins σ H s->Vals vs us->t vs σ H Q ->
  wpAny (model X.prog X.w) X.A (assignInOrder ((assignEach ts X.env).map (·.2)) us) (λ_ s'=>∃σ' H',Inv X pins σ' H' s'/\Q σ' H') X.xe s
abbrev TSet:=V->V->V->Hp->(Hp->Prop)->Prop
def QyV(X:Cx)(t:TSet):Prop:=
 ∀(pins:List (Addr×Obj))(s:Shared)(σ:St)(H:Hp)(o i v:V)(ov iv u:Value)(Q:Hp->Prop),Inv X pins σ H s->RelV o ov->RelV i iv->RelV v u->t o i v H Q ->
  wpAny (model X.prog X.w) X.A (setItem ov iv u) (λ_ s'=>∃H',Inv X pins σ H' s'/\Q H') X.xe s
abbrev TIp:=V->V->Hp->VK->Prop
def PIp(X:Cx)(op:QnZ)(t:TIp):Prop:=
 ∀(pins:List (Addr×Obj))(s:Shared)(σ:St)(H:Hp)(x y:V)(v u:Value)(Q:VK),Inv X pins σ H s->RelV x v->RelV y u->t x y H Q ->
  wpAny (model X.prog X.w) X.A (inplaceOp op v u) (EP X pins σ Q) X.xe s
section
variable{X:Cx}{pos:Pos}
def QcA(i:Nat):TG:=λv σ H Q=>Q (σ.set i (some v)) H
theorem Qa8{i:Nat}{x:Str}(hN:X.N.Nodup)(hi:X.N[i]? = some x)(hx:Loc X.env.scope x)(hf:X.fn x=true∨X.env.scope.names.lookup x=some .local:=by first | exact .inl rfl | exact .inr rfl | assumption):PG X (.Name x pos) (QcA i):=by
 intro pins s σ H v u Q I r h;exact QwZ (Qjv I hN hi hx r (λs' I'=>⟨_,H,I',h⟩) hf)
def Qx9:TGs:=λvs σ H Q=>vs=[]/\Q σ H
def Qpq(t:TG)(u:TGs):TGs:=λvs σ H Q=>∃v r,vs=v::r/\t v σ H λσ' H'=>u r σ' H' Q
theorem QlW:PGs X [] Qx9:=by
 intro pins s σ H vs us Q I r h;obtain⟨e,h⟩:=h;subst e;cases r;exact assignInOrder_nil ⟨σ,H,I,h⟩
theorem Qgd{e:QZ}{es:List QZ}{t:TG}{u:TGs}(h1:PG X e t)(h2:PGs X es u)
  (hs:(assignEach (e::es) X.env).map (·.2)=assign e X.env::(assignEach es X.env).map (·.2):=by rfl):PGs X (e::es) (Qpq t u):=by
 intro pins s σ H vs us Q I r h;obtain⟨v,vr,e1,h⟩:=h;subst e1;cases r with
 |cons r rr=>
  rw[hs];refine assignInOrder_cons (thn (h1 pins s σ H _ _ _ I r h) λ_ s1 ⟨σ1,H1,I1,q1⟩=>?_);exact h2 pins s1 σ1 H1 _ _ Q I1 rr q1
def Qx8(K:PySem.W.Frag)(n:Nat)(t:TGs):TG:=λv σ H Q=>∃a xs,v=.ref a/\SqT K H a xs/\xs.length=n/\t xs σ H Q
theorem Qrf{es:List QZ}{k:Nat}{t:TGs}{n:Nat}(hc:X.calm=true)(h:PGs X es t)
  (hn:(assignEach es X.env).length=n:=by rfl)(hst:(assignEach es X.env).findIdx? (·.1)=none:=by rfl):PG X (.Tuple es k pos) (Qx8 X.K n t):=by
 intro pins s σ H v u Q I r hw;obtain⟨a,xs,e1,hq,hl,hw⟩:=hw;subst e1;cases r;obtain⟨its,rv,ht,hz⟩:=I.tuple hq;refine assign_Tuple_tuple (I.ok.hd hc) ht (by simp[hn,<- hl,rv.length]) hst λh' hx=>?_
 have I1:Inv X pins σ H { s with heap:=h' }:=I.kept (t':=s.toks) λb o e=>hx b o (QC (Qo e)) e
 exact h pins _ σ H xs _ Q I1 (by simpa using rv) hw
def gSub(to ti:TE)(t:TSet):TG:=λv σ H Q=>to σ H λo H1=>ti σ H1 λi H2=>t o i v H2 λH3=>Q σ H3
theorem Qu7{o i:QZ}{to ti:TE}{t:TSet}(ho:PE X o to)(hi:PE X i ti)(hs:QyV X t)
  (ha:∀v,assign (.Subscript o i pos) X.env v=(do
   let ov <- holding [v] (eval o X.env)
   let iv <- holding [v,ov] (eval i X.env)
   standAt pos
   holding [v,ov,iv] (setItem ov iv v)
   release [v,ov,iv] []):=by intro _;rfl):PG X (.Subscript o i pos) (gSub to ti t):=by
 intro pins s σ H v u Q I r h;rw[ha];refine wpAny_bind (JV (thn (ho pins s σ H _ I h) λov s1 ⟨x,H1,I1,r1,q1⟩=>?_));refine wpAny_bind (JV (thn (hi pins s1 σ H1 _ I1 q1) λiv s2 ⟨y,H2,I2,r2,q2⟩=>?_));refine wpAny_bind (wpAny_standAt (wpAny_bind (JV (thn (hs pins s2 σ H2 x y v ov iv u _ I2 r1 r2 r q2) λ_ s3 ⟨H3,I3,q3⟩=>?_))));exact wpAny_release ⟨σ,H3,I3,q3⟩
def QpZ(te:TE)(g:TG):TS:=λD σ H=>te σ H λx H1=>g x σ H1 D.nx
theorem Qu5{tg e:QZ}{te:TE}{g:TG}(he:PE X e te)(hg:PG X tg g)(hs:swapsWithSole [tg] e pos.line X.env=pure false:=by rfl)(hw:swappedStores [tg] e X.env=pure none:=by rfl)
  (h1:(assignEach [tg] X.env).map (·.2)=[assign tg X.env]:=by rfl):PS X (.Assign [tg] e pos) (QpZ te g):=by
 intro pins s σ H D I h;refine wpAny_Assign_stores (thn (he pins s σ H _ I h) λv s1 ⟨x,H1,I1,r1,q1⟩=>?_) hs hw;rw[h1];exact thn (hg pins s1 σ H1 x v _ I1 r1 q1) λ_ s2 q=>q
theorem Qbx{i:Nat}{x:Str}{e:QZ}{te:TE}{pos':Pos}(hN:X.N.Nodup)(hi:X.N[i]? = some x)(hx:Loc X.env.scope x)(he:PE X e te)(hs:swapsWith e (some (.Name x pos')) pos.line X.env=pure false:=by rfl)(hf:X.fn x=true∨X.env.scope.names.lookup x=some .local:=by first | exact .inl rfl | exact .inr rfl | assumption) :
  PS X (.Assign [.Name x pos'] e pos) (QpZ te (QcA i)):=by
 intro pins s σ H D I h;refine wpAny_Assign_Name (thn (he pins s σ H _ I h) λv s1 ⟨y,H1,I1,r1,q1⟩=>?_) hs;exact Qjv I1 hN hi hx r1 (λs2 I2=>⟨_,H1,I2,q1⟩) hf
end
section
variable{X:Cx}{pos:Pos}
end
structure It where
 go:Nat->Hp->Prop
 yld:Nat->Hp->V->Hp->Prop
 stop:Nat->Hp->Prop
def FpOk(X:Cx)(pins:List (Addr×Obj))(H:Hp)(b:Addr):Prop:=
 H b=none/\b≠X.env.locals/\b∉X.fs/\(b∈X.ex∨X.s₀.heap.objs.size<=b)/\(∀x c,X.env.cells.lookup x=some c->c≠b)/\∀p∈X.pn++pins,p.1≠b
theorem Inv.fpOk{X:Cx}{pins:List (Addr×Obj)}{σ:St}{H H':Hp}{s:Shared}{b:Addr}(I:Inv X pins σ H s)(hb:s.heap.objs.size<=b)(hn:H' b=none):FpOk X pins H' b:=by
 refine⟨hn,Qai (QN I.lt hb),I.nofs hb,.inr (Q4 I.sz hb),λx c e z=>?_,λp hp z=>?_⟩
 ·obtain⟨v,q⟩:=I.cell x c e;exact absurd (QN q.lt (by rw[z];exact hb)) (YW _)
 ·exact absurd (QN (Qo (I.pin p hp).1) (by rw[z];exact hb)) (YW _)
structure Turn (P:QB) (w:Q8) (K:PySem.W.Frag) (tg:QZ) (J:It) (fp:List Addr) (it:Addr) (tn:Nat->Heap->Prop):Prop where
 mem:it∈fp
 obj:∀i h,tn i h->∀b∈fp,∃o,h.get? b=some o/\∀v,o.data≠.cell v
 keep:∀i h h',tn i h->(∀b∈fp,∀o,h.get? b=some o->h'.get? b=some o)->tn i h'
 item:∀(X:Cx),X.prog=P->X.w=w->X.K=K->X.calm=true->∀(i:Nat)(pins:List (Addr×Obj))(s:Shared)(σ:St)(H:Hp)(E:Value->Shared->Prop),Inv X pins σ H s->(∀b∈fp,FpOk X pins H b)->tn i s.heap->J.go i H ->
  wpAny (model P w) X.A (pyNext (.ref it)) (λr s1=>∃u,r=some u /\
   wpAny (model P w) X.A (letOwnedTupleGo tg (.ref it) u) (λ_ s2=>∃x H',Inv X pins σ H' s2/\RelV x u/\J.yld i H x H'/\tn (i+1) s2.heap/\∀b∈fp,H' b=none) E s1) E s
 done:∀(X:Cx),X.prog=P->X.w=w->X.K=K->X.calm=true->∀(i:Nat)(pins:List (Addr×Obj))(s:Shared)(σ:St)(H:Hp)(E:Value->Shared->Prop),Inv X pins σ H s->(∀b∈fp,FpOk X pins H b)->tn i s.heap->J.stop i H ->
  wpAny (model P w) X.A (pyNext (.ref it)) (λr s1=>r=none/\Inv X pins σ H s1) E s
 self:∀(A:Q2)(i:Nat)(s:Shared)(Q:Value->Shared->Prop)(E:Value->Shared->Prop),tn i s.heap->Q (.ref it) s->wpAny (model P w) A (pyIter (.ref it)) Q E s
abbrev TI:=St->Hp->(It->Hp->Prop)->Prop
def PIE(X:Cx)(pins:List (Addr×Obj))(σ:St)(tg:QZ)(R:It->Hp->Prop)(itv:Value)(s2:Shared):Prop:=
 ∃(it:Addr)(fp:List Addr)(tn:Nat->Heap->Prop)(J:It)(H':Hp),itv=.ref it/\Inv X pins σ H' s2/\Turn X.prog X.w X.K tg J fp it tn/\tn 0 s2.heap/\(∀b∈fp,FpOk X pins H' b)/\R J H'
def PI(X:Cx)(tg iter:QZ)(wi:TI):Prop:=
 ∀(pins:List (Addr×Obj))(s:Shared)(σ:St)(H:Hp)(R:It->Hp->Prop),Inv X pins σ H s->wi σ H R ->
  wpAny (model X.prog X.w) X.A (eval iter X.env) (λv s1=>wpAny (model X.prog X.w) X.A (pyIter v) (PIE X pins σ tg R) X.xe s1) X.xe s
theorem Qtw{M:Qxd}{A:Q2}{E:Value->Shared->Prop}{s:Shared}{tg:QZ}{it:Addr}{u:Value}{o:Obj}{n:String}{vs:Array Value}{Q:Unit->Shared->Prop}(ho:s.heap.get? it=some o)(hc:o.cls=.type n)(hd:o.data=.fields vs)
  (hn:["enumerate", "zip", "dict_itemiterator", "dict_reverseitemiterator", "odict_iterator", "itertools.zip_longest", "itertools.pairwise"].contains n=false)(hQ:Q () s):wpAny M A (letOwnedTupleGo tg (.ref it) u) Q E s:=by
 unfold letOwnedTupleGo;cases tg<;>first
  |exact wpAny_pure hQ
  |(cases u<;>first
    |exact wpAny_pure hQ
    |(refine wpAny_bind (wpAny_load ho ?_)
      rw[hc,hd];show wpAny M A (if(["enumerate", "zip", "dict_itemiterator", "dict_reverseitemiterator", "odict_iterator", "itertools.zip_longest", "itertools.pairwise"].contains n&&vs[0]? == some (rawInt _))=true then _ else _) Q E s;rw[if_neg (by intro h;rw[hn,Qul] at h;cases h)];exact wpAny_pure hQ))
def Itl(K:PySem.W.Frag)(a:Addr):It:=
 ⟨λi H=>∃xs x,SqL K H a xs/\xs[i]? = some x,λi H x H'=>H'=H/\∀xs,SqL K H a xs->xs[i]? = some x,λi H=>∃xs,SqL K H a xs/\xs.length<=i⟩
def Itt(K:PySem.W.Frag)(a:Addr):It:=
 ⟨λi H=>∃xs x,SqT K H a xs/\xs[i]? = some x,λi H x H'=>H'=H/\∀xs,SqT K H a xs->xs[i]? = some x,λi H=>∃xs,SqT K H a xs/\xs.length<=i⟩
def Itr(lo:Int)(n:Nat):It:=⟨λi _=>i<n,λi H x H'=>H'=H/\x=.int (lo+i),λi _=>n<=i⟩
theorem Qlk{P:QB}{w:Q8}{K:PySem.W.Frag}{tg:QZ}(a it:Addr):Turn P w K tg (Itl K a) [it] it (λi h=>h.IsListIter it a i) where
 mem:=by simp
 obj:=λi h st b hb=>by
  have e:b=it:=by simpa using hb
  subst e;obtain⟨o,e,c,d⟩:=st;exact⟨o,e,λv z=>by rw[d] at z;cases z⟩
 keep:=λi h h' st k=>st.at λo e=>k it (by simp) o e
 item:=by
  intro X hP hw hK hc i pins s σ H E I hf st hg;subst hP hw hK;obtain⟨xs,x,hq,hx⟩:=hg;obtain⟨its,rv,p,hz⟩:=I.list hq;obtain⟨u,hu,ru⟩:=rv.get hx;obtain⟨f0,f1,f2,f3,f4,f5⟩:=hf it (by simp);refine wpAny_pyNext_list_item st p.isList (x:=u) (by simpa using hu) λh' st' sb=>?_
  have I1:Inv X pins σ H { s with heap:=h' }:=I.turned (t':=s.toks) (λb o hb e=>(sb.2 b hb).trans e) f0 f1 f3 f4 f5;obtain⟨o,e,c,d⟩:=id st';exact⟨u,rfl,Qtw (s:={ s with heap:=h' }) e c d (by decide) ⟨x,H,I1,ru,⟨rfl,λys hy=>by rw[I.list_inj hy hq];exact hx⟩,st',λb hb=>(hf b hb).1⟩⟩
 done:=by
  intro X hP hw hK hc i pins s σ H E I hf st hg;subst hP hw hK;obtain⟨xs,hq,hx⟩:=hg;obtain⟨its,rv,p,hz⟩:=I.list hq;obtain⟨f0,f1,f2,f3,f4,f5⟩:=hf it (by simp);have hl:=rv.length;exact wpAny_pyNext_list_end (I.ok.hd hc) st p.isList (by simp;omega) λh' eb=>⟨rfl,I.turned (t':=s.toks) (λb o hb e=>eb b o hb e) f0 f1 f3 f4 f5⟩
 self:=λ_ _ _ _ _ st h=>wpAny_pyIter_listiter st h
theorem Qko{P:QB}{w:Q8}{K:PySem.W.Frag}{tg:QZ}(a it:Addr):Turn P w K tg (Itt K a) [it] it (λi h=>h.IsTupleIter it a i) where
 mem:=by simp
 obj:=λi h st b hb=>by
  have e:b=it:=by simpa using hb
  subst e;obtain⟨o,e,c,d⟩:=st;exact⟨o,e,λv z=>by rw[d] at z;cases z⟩
 keep:=λi h h' st k=>st.at λo e=>k it (by simp) o e
 item:=by
  intro X hP hw hK hc i pins s σ H E I hf st hg;subst hP hw hK;obtain⟨xs,x,hq,hx⟩:=hg;obtain⟨its,rv,p,hz⟩:=I.tuple hq;obtain⟨u,hu,ru⟩:=rv.get hx;obtain⟨f0,f1,f2,f3,f4,f5⟩:=hf it (by simp);refine wpAny_pyNext_tuple_item st (show s.heap.IsTuple a its.toArray from p) (x:=u) (by simpa using hu) λh' st' sb=>?_
  have I1:Inv X pins σ H { s with heap:=h' }:=I.turned (t':=s.toks) (λb o hb e=>(sb.2 b hb).trans e) f0 f1 f3 f4 f5;obtain⟨o,e,c,d⟩:=id st';exact⟨u,rfl,Qtw (s:={ s with heap:=h' }) e c d (by decide) ⟨x,H,I1,ru,⟨rfl,λys hy=>by rw[I.tuple_inj hy hq];exact hx⟩,st',λb hb=>(hf b hb).1⟩⟩
 done:=by
  intro X hP hw hK hc i pins s σ H E I hf st hg;subst hP hw hK;obtain⟨xs,hq,hx⟩:=hg;obtain⟨its,rv,p,hz⟩:=I.tuple hq;obtain⟨f0,f1,f2,f3,f4,f5⟩:=hf it (by simp);have hl:=rv.length;exact wpAny_pyNext_tuple_end (I.ok.hd hc) st (show s.heap.IsTuple a its.toArray from p) (by simp;omega) λh' eb=>⟨rfl,I.turned (t':=s.toks) (λb o hb e=>eb b o hb e) f0 f1 f3 f4 f5⟩
 self:=λ_ _ _ _ _ st h=>wpAny_pyIter_tupleiter st h
theorem Qkp{P:QB}{w:Q8}{K:PySem.W.Frag}{tg:QZ}(it:Addr)(lo:Int)(n:Nat):Turn P w K tg (Itr lo n) [it] it (λi h=>IsRangeIter h it (lo+(i:Nat)*1) ((n:Int) - (i:Nat)) 1) where
 mem:=by simp
 obj:=λi h st b hb=>by
  have e:b=it:=by simpa using hb
  subst e;exact⟨_,st,λv z=>by
   have z':Data.fields _=Data.cell v:=z;cases z'⟩
 keep:=λi h h' st k=>k it (by simp) _ st
 item:=by
  intro X hP hw hK hc i pins s σ H E I hf st hg;subst hP hw hK;obtain⟨f0,f1,f2,f3,f4,f5⟩:=hf it (by simp);have W:=Walks.range (prog:=X.prog) (w:=X.w) (I.ok.hd hc) it lo 1 n;refine W.item i s _ _ hg st λv h' tk hv st' kk=>?_
  obtain⟨t,rfl⟩:=hv;have I1:Inv X pins σ H { s with heap:=h',toks:=tk }:=I.turned (λb o hb e=>kk b o (by simpa using hb) e) f0 f1 f3 f4 f5;refine⟨_,rfl,Qtw (s:={ s with heap:=h',toks:=tk }) (n := "range_iterator") st' rfl rfl (by decide) ⟨.int (lo+i),H,I1,⟨t,?_⟩,⟨rfl,rfl⟩,st',λb hb=>(hf b hb).1⟩⟩;rw[Int.mul_one]
 done:=by
  intro X hP hw hK hc i pins s σ H E I hf st hg;subst hP hw hK;obtain⟨f0,f1,f2,f3,f4,f5⟩:=hf it (by simp);exact wpAny_pyNext_range_end (I.ok.hd hc) st (by have:n<=i:=hg;omega) λh' eb=>⟨rfl,I.turned (t':=s.toks) (λb o hb e=>eb b o hb e) f0 f1 f3 f4 f5⟩
 self:=λ_ _ _ _ _ st h=>wpAny_pyIter_rangeiter st h
section
variable{X:Cx}{tg:QZ}
def Qx6(K:PySem.W.Frag)(tl:TE):TI:=λσ H R=>tl σ H λx H1=>∃a,x=.ref a/\(∃xs,SqL K H1 a xs)/\R (Itl K a) H1
def Qzp(K:PySem.W.Frag)(tl:TE):TI:=λσ H R=>tl σ H λx H1=>∃a,x=.ref a/\(∃xs,SqT K H1 a xs)/\R (Itt K a) H1
theorem Qgc{l:QZ}{tl:TE}(hl:PE X l tl):PI X tg l (Qx6 X.K tl):=by
 intro pins s σ H R I h;refine thn (hl pins s σ H _ I h) λv s1 ⟨x,H1,I1,r1,q1⟩=>?_
 obtain⟨a,e,⟨xs,hq⟩,q⟩:=q1;subst e;cases r1;obtain⟨its,rv,p,hz⟩:=I1.list hq;refine QgT p.isList ?_
 refine⟨s1.heap.objs.size,[s1.heap.objs.size],_,_,H1,rfl,I1.kept (t':=s1.toks) λb o e=>Qc _ e,Qlk a _,⟨_,Qu _ rfl,rfl,rfl⟩,λb hb=>?_,q⟩;have e:b=s1.heap.objs.size:=by simpa using hb
 subst e;exact I1.fpOk (Qg _) (I1.hok.fresh (Qg _))
theorem Qu6{l:QZ}{tl:TE}(hl:PE X l tl):PI X tg l (Qzp X.K tl):=by
 intro pins s σ H R I h;refine thn (hl pins s σ H _ I h) λv s1 ⟨x,H1,I1,r1,q1⟩=>?_
 obtain⟨a,e,⟨xs,hq⟩,q⟩:=q1;subst e;cases r1;obtain⟨its,rv,p,hz⟩:=I1.tuple hq;refine YL (show s1.heap.IsTuple a its.toArray from p) ?_
 refine⟨s1.heap.objs.size,[s1.heap.objs.size],_,_,H1,rfl,I1.kept (t':=s1.toks) λb o e=>Qc _ e,Qko a _,⟨_,Qu _ rfl,rfl,rfl⟩,λb hb=>?_,q⟩;have e:b=s1.heap.objs.size:=by simpa using hb
 subst e;exact I1.fpOk (Qg _) (I1.hok.fresh (Qg _))
theorem Qow{pins:List (Addr×Obj)}{σ:St}{H:Hp}{s:Shared}{R:It->Hp->Prop}{E:Value->Shared->Prop}{lo hi:Int}{t u v:Tok}{tk:Nat}(I:Inv X pins σ H s)(h1 : -(2^62)<=lo)(h2:lo<2^62)(h3 : -(2^62)<=hi)(h4:hi<2^62)
  (q:R (Itr lo (hi - lo).toNat) H):wpAny (model X.prog X.w) X.A (pyIter (.ref s.heap.objs.size)) (PIE X pins σ tg R) E { s with heap:=s.heap.push { cls:=.type "range",data:=.fields #[.int lo t,.int hi u,.int 1 v] },toks:=tk }:=by
 refine wpAny_pyIter_range (IsRange.new ..) (small_one h1 h2 h3 h4) ?_
 have I1:Inv X pins σ H { s with heap:=s.heap.push { cls:=.type "range",data:=.fields #[.int lo t,.int hi u,.int 1 v] },toks:=tk }:=I.kept λb o e=>Qc _ e
 refine⟨(s.heap.push { cls:=.type "range",data:=.fields #[.int lo t,.int hi u,.int 1 v] }).objs.size,[(s.heap.push { cls:=.type "range",data:=.fields #[.int lo t,.int hi u,.int 1 v] }).objs.size],_,_,H,rfl,
  I1.kept (t':=tk) λb o e=>Qc _ e,Qkp _ lo (hi - lo).toNat,?_,λb hb=>?_,q⟩
 ·have e1:lo+((0:Nat):Int)*1=lo:=by simp
  have e2:(((hi - lo).toNat:Nat):Int) - ((0:Nat):Int)=Qxn lo hi 1:=by rw[rangeSize_one];split<;>omega
  show IsRangeIter _ _ (lo+((0:Nat):Int)*1) ((((hi - lo).toNat:Nat):Int) - ((0:Nat):Int)) 1;rw[e1,e2];exact Qu _ rfl
 ·have e:b=(s.heap.push { cls:=.type "range",data:=.fields #[.int lo t,.int hi u,.int 1 v] }).objs.size:=by simpa using hb
  subst e;exact I1.fpOk (Qg _) (I1.hok.fresh (Qg _))
def Qx5(ta:TA):TI:=λσ H R=>ta σ H λvs H1=>∃j:Int,vs=[.int j] /\ -(2^62)<=j/\j<2^62/\R (Itr 0 j.toNat) H1
theorem Qc3{a:QZ}{ta:TA}{p pos:Pos}(hg:Gl X "range")(hm:X.mg "range" = none)(ha:PA X [a] ta)(hs:starEach [a] X.env=[(false,eval a X.env)]:=by rfl):PI X tg (.Call (.Name "range" p) [a] [] pos) (Qx5 ta):=by
 intro pins s σ H R I h;refine Call_ (QeJ I hg hm boot_range (ZC (thn (ha pos pins s σ H _ I h) λus s1 ⟨vs,H1,I1,r1,q1⟩=>?_) hs rfl));obtain⟨j,e,q1,q2,q⟩:=q1;subst e;cases r1 with
 |cons r rr=>
  cases rr;obtain⟨t,rfl⟩:=r;exact call_range_1 (Qow I1 (by omega) (by omega) q1 q2 (by simpa using q))
def tFor(wi:TI)(g:TG)(tb:TS):TS:=λD σ H=>wi σ H λJ H1=>∃W:Nat->Nat->St->Hp->Prop,(∃m,W 0 m σ H1)/\∀i m σ H,W i m σ H ->
 (J.stop i H/\D.nx σ H)∨(J.go i H/\∃N:St->Hp->Prop,(∀σ' H',N σ' H'->∃m',m'<m/\W (i+1) m' σ' H')/\∀x H',J.yld i H x H'->g x σ H' λσ2 H2=>tb { D with nx:=N,ct:=N,bk:=D.nx } σ2 H2)
def QjC(fp:List Addr)(h:Heap):List (Addr×Obj):=fp.filterMap λb=>(h.get? b).map λo=>(b,o)
theorem QaI{fp:List Addr}{h:Heap}{b:Addr}{o:Obj}(hb:b∈fp)(e:h.get? b=some o):(b,o)∈QjC fp h:=ZA.mpr ⟨b,hb,by rw[e];rfl⟩
theorem Qmk{fp:List Addr}{h:Heap}{p:Addr×Obj}(hp:p∈QjC fp h):p.1∈fp/\h.get? p.1=some p.2:=by
 obtain⟨b,hb,e⟩:=ZA.mp hp;cases q:h.get? b with
 |none=>rw[q] at e;cases e
 |some o=>
  rw[q] at e;have e':(b,o)=p:=Qw e;subst e';exact⟨hb,q⟩
theorem Inv.pinned{pins:List (Addr×Obj)}{σ:St}{H:Hp}{s:Shared}{fp:List Addr}(I:Inv X pins σ H s)(hf:∀b∈fp,FpOk X pins H b)(ho:∀b∈fp,∃o,s.heap.get? b=some o/\∀v,o.data≠.cell v):Inv X (pins++QjC fp s.heap) σ H s:=
 I.pins_of λp hp=>(Ji.mp hp).elim (λz=>I.pin p (QM _ z)) λz=>by
  obtain⟨hb,e⟩:=Qmk z;obtain⟨f0,f1,f2,_⟩:=hf p.1 hb;obtain⟨o,e',d⟩:=ho p.1 hb;rw[e] at e';cases e';exact⟨e,f0,f1,f2,d⟩
theorem Inv.unpinned{pins pl:List (Addr×Obj)}{σ:St}{H:Hp}{s:Shared}(I:Inv X (pins++pl) σ H s):Inv X pins σ H s:=I.pins_of λp hp=>I.pin p (QM _ (ZF _ hp))
theorem QjB{iter:QZ}{body:List Y3}{wi:TI}{g:TG}{tb:TS}{pos:Pos}(hp:PassesOwn (model X.prog X.w) X.A X.env X.xe)(hc:X.calm=true)(hi:PI X tg iter wi)(hg:PG X tg g)(hb:PSs X body tb)
  (hs:∀x,foldedSetIterable iter X.env x=pure x:=by intro _;rfl):PS X (.For tg iter body [] pos) (tFor wi g tb):=by
 intro pins s σ H D I h;refine wpAny_For (thn (hi pins s σ H _ I h) λv s1 h1=>thn h1 λitv s2 h2=>?_) hs;obtain⟨it,fp,tn,J,H2,e,I2,T,st2,f2,W,⟨m0,w0⟩,turn⟩:=h2;subst e;have stat:∀{H':Hp},(∀b∈fp,H' b=none)->∀b∈fp,FpOk X pins H' b:=λhn b hb=>⟨hn b hb,(f2 b hb).2⟩
 refine codeAny_forLoop_any (λn s'=>∃i σ' H',Inv X pins σ' H' s'/\tn i s'.heap/\(∀b∈fp,H' b=none)/\W i n σ' H') ?_ m0 ⟨0,σ,H2,I2,st2,λb hb=>(f2 b hb).1,w0⟩
 rintro n s3 ⟨i,σ3,H3,I3,st3,fr3,w3⟩;rcases turn i n σ3 H3 w3 with⟨stop,qn⟩ | ⟨go,N,hN,step⟩
 ·refine Qbz hp (thn (T.done X rfl rfl rfl hc i pins s3 σ3 H3 X.xe I3 (stat fr3) st3 stop) λr s4 ⟨hr,I4⟩=>?_);subst hr;exact Qkj ⟨σ3,H3,I4,qn⟩
 ·refine Qbz hp (thn (T.item X rfl rfl rfl hc i pins s3 σ3 H3 X.xe I3 (stat fr3) st3 go) λr s4 ⟨u,hr,h4⟩=>?_);subst hr;refine Qbz hp (thn h4 λ_ s5 ⟨x,H5,I5,r5,y5,st5,fr5⟩=>?_);have I5':=I5.pinned (stat fr5) (T.obj _ _ st5);refine Qbz hp (thn (hg _ s5 σ3 H5 x u _ I5' r5 (step x H5 y5)) λ_ s6 ⟨σ6,H6,I6,q6⟩=>?_);refine Qbz hp (thn (hb _ s6 σ6 H6 _ I6 q6) λf s7 q7=>?_);have again:∀{σ7:St}{H7:Hp},Inv X (pins++QjC fp s5.heap) σ7 H7 s7->N σ7 H7->∃m,m<n/\∃i σ' H',Inv X pins σ' H' s7/\tn i s7.heap/\(∀b∈fp,H' b=none)/\W i m σ' H':=λ{σ7 H7} I7 n7=>by
   obtain⟨m',hm,w7⟩:=hN σ7 H7 n7;refine⟨m',hm,i+1,σ7,H7,I7.unpinned,T.keep _ _ _ st5 λb hb o e=>(I7.pin (b,o) (QM _ (QM _ (QaI hb e)))).1,λb hb=>?_,w7⟩;obtain⟨o,e,d⟩:=T.obj _ _ st5 b hb;exact(I7.pin (b,o) (QM _ (QM _ (QaI hb e)))).2.1
  cases f with
  |next=>obtain⟨σ7,H7,I7,n7⟩:=q7;exact again I7 n7
  |cont=>obtain⟨σ7,H7,I7,n7⟩:=q7;exact again I7 n7
  |brk=>obtain⟨σ7,H7,I7,q7⟩:=q7;exact⟨σ7,H7,I7.unpinned,q7⟩
  |ret v=>obtain⟨x7,σ7,H7,I7,r7,q7⟩:=q7;exact⟨x7,σ7,H7,I7.unpinned,r7,q7⟩
end
theorem Qps{K:PySem.W.Frag}{a:Addr}{xs:List V}{g:TG}{tb:TS}{D:Ends}{σ:St}{H:Hp}(Pv:Nat->St->Hp->Prop)(h0:Pv 0 σ H)(hl:∀i σ H,i<=xs.length->Pv i σ H->SqL K H a xs)
  (hs:∀i x σ H,xs[i]? = some x->Pv i σ H->g x σ H λσ2 H2=>tb { D with nx:=Pv (i+1),ct:=Pv (i+1),bk:=D.nx } σ2 H2)(hd:∀σ H,Pv xs.length σ H->D.nx σ H) :
  ∃W:Nat->Nat->St->Hp->Prop,(∃m,W 0 m σ H)/\∀i m σ H,W i m σ H ->
   ((Itl K a).stop i H/\D.nx σ H)∨((Itl K a).go i H/\∃N:St->Hp->Prop,(∀σ' H',N σ' H'->∃m',m'<m/\W (i+1) m' σ' H')/\∀x H',(Itl K a).yld i H x H'->g x σ H' λσ2 H2=>tb { D with nx:=N,ct:=N,bk:=D.nx } σ2 H2):=by
 refine⟨λi m σ H=>m=xs.length - i/\i<=xs.length/\Pv i σ H,⟨xs.length,by simp,Qq _,h0⟩,?_⟩;rintro i m σ H ⟨rfl,hi,p⟩;have q:=hl i σ H hi p;by_cases hlt:i<xs.length
 ·refine .inr ⟨⟨xs,xs[i],q,by simp[hlt]⟩,Pv (i+1),λσ' H' p'=>⟨xs.length - (i+1),by omega,rfl,hlt,p'⟩,λx H' y=>?_⟩;obtain⟨e,y⟩:=y;subst e;exact hs i x σ _ (y xs q) p
 ·have e:i=xs.length:=by omega
  subst e;exact .inl ⟨⟨xs,q,Qg _⟩,hd σ H p⟩
theorem QhJ{lo:Int}{n:Nat}{g:TG}{tb:TS}{D:Ends}{σ:St}{H:Hp}(Pv:Nat->St->Hp->Prop)(h0:Pv 0 σ H)
  (hs:∀i σ H,i<n->Pv i σ H->g (.int (lo+i)) σ H λσ2 H2=>tb { D with nx:=Pv (i+1),ct:=Pv (i+1),bk:=D.nx } σ2 H2)(hd:∀σ H,Pv n σ H->D.nx σ H) :
  ∃W:Nat->Nat->St->Hp->Prop,(∃m,W 0 m σ H)/\∀i m σ H,W i m σ H ->
   ((Itr lo n).stop i H/\D.nx σ H)∨((Itr lo n).go i H/\∃N:St->Hp->Prop,(∀σ' H',N σ' H'->∃m',m'<m/\W (i+1) m' σ' H')/\∀x H',(Itr lo n).yld i H x H'->g x σ H' λσ2 H2=>tb { D with nx:=N,ct:=N,bk:=D.nx } σ2 H2):=by
 refine⟨λi m σ H=>m=n - i/\i<=n/\Pv i σ H,⟨n,by simp,Qq _,h0⟩,?_⟩;rintro i m σ H ⟨rfl,hi,p⟩;by_cases hlt:i<n
 ·refine .inr ⟨hlt,Pv (i+1),λσ' H' p'=>⟨n - (i+1),by omega,rfl,hlt,p'⟩,λx H' y=>?_⟩;obtain⟨e,y⟩:=y;subst e y;exact hs i σ _ hlt p
 ·have e:i=n:=by omega
  subst e;exact .inl ⟨Qg _,hd σ H p⟩
abbrev R2:=V->V->Hp->VK->Prop
def OpR(X:Cx)(f:Value->Value->Sem Value)(r:R2):Prop:=
 ∀(pins:List (Addr×Obj))(s:Shared)(σ:St)(H:Hp)(x y:V)(v u:Value)(Q:VK),Inv X pins σ H s->RelV x v->RelV y u->r x y H Q ->
  wpAny (model X.prog X.w) X.A (f v u) (EP X pins σ Q) X.xe s
def UnR(X:Cx)(f:Value->Sem Value)(r:V->Hp->VK->Prop):Prop:=
 ∀(pins:List (Addr×Obj))(s:Shared)(σ:St)(H:Hp)(x:V)(v:Value)(Q:VK),Inv X pins σ H s->RelV x v->r x H Q ->
  wpAny (model X.prog X.w) X.A (f v) (EP X pins σ Q) X.xe s
def CallR(X:Cx)(f:Value)(r:List V->Hp->VK->Prop):Prop:=
 ∀(pins:List (Addr×Obj))(s:Shared)(σ:St)(H:Hp)(xs:List V)(us:List Value)(Q:VK),Inv X pins σ H s->Vals xs us->r xs H Q ->
  wpAny (model X.prog X.w) X.A (call f us) (EP X pins σ Q) X.xe s
def tOp(r:R2)(ta tb:TE):TE:=λσ H Q=>ta σ H λx H1=>tb σ H1 λy H2=>r x y H2 Q
def tUn(r:V->Hp->VK->Prop)(ta:TE):TE:=λσ H Q=>ta σ H λx H1=>r x H1 Q
def rI(C:Int->Int->Prop)(g:Int->Int->V):R2:=λx y H Q=>∃i j,x=.int i/\y=.int j/\C i j/\Q (g i j) H
def rI0(g:Int->Int->V):R2:=λx y H Q=>∃i j,x=.int i/\y=.int j/\Q (g i j) H
def rU(g:Int->V):V->Hp->VK->Prop:=λx H Q=>∃i,x=.int i/\Q (g i) H
section
variable{X:Cx}{a b c:QZ}{ta tb tc:TE}{pos:Pos}
theorem Qyh(ha:PE X a ta)(hb:PE X b tb){pins:List (Addr×Obj)}{s:Shared}{σ:St}{H:Hp}{R:V->V->Hp->Prop}(I:Inv X pins σ H s)
  (h:ta σ H λx H1=>tb σ H1 λy H2=>R x y H2){Q:Value->Shared->Prop}{f:Value->Value->Sem Value}
  (hf:∀v u s2 x y H2,Inv X pins σ H2 s2->RelV x v->RelV y u->R x y H2->wpAny (model X.prog X.w) X.A (f v u) Q X.xe s2) :
  wpAny (model X.prog X.w) X.A (eval a X.env) (λv s₁=>wpAny (model X.prog X.w) X.A (eval b X.env) (λu s₂=>wpAny (model X.prog X.w) X.A (f v u) Q X.xe s₂) X.xe s₁) X.xe s:=by
 refine thn (ha pins s σ H _ I h) λv s1 ⟨x,H1,I1,r1,q1⟩=>?_
 refine thn (hb pins s1 σ H1 _ I1 q1) λu s2 ⟨y,H2,I2,r2,q2⟩=>?_
 exact hf v u s2 x y H2 I2 r1 r2 q2
theorem Qbf{op:QnZ}{r:R2}(ho:OpR X (binaryOp op) r)(ha:PE X a ta)(hb:PE X b tb):PE X (.BinOp a op b pos) (tOp r ta tb):=by
 intro pins s σ H Q I h;exact wpAny_BinOp (Qyh ha hb I h λv u s2 x y H2 I2 rx ry q=>ho pins s2 σ H2 x y v u Q I2 rx ry q)
theorem QxL{op:UnaryOp}{r:V->Hp->VK->Prop}(ho:UnR X (unaryOp op) r)(ha:PE X a ta):PE X (.UnaryOp op a pos) (tUn r ta):=by
 intro pins s σ H Q I h;exact UnaryOp_ (thn (ha pins s σ H _ I h) λv s1 ⟨x,H1,I1,r1,q1⟩=>ho pins s1 σ H1 x v Q I1 r1 q1)
theorem opI{f:Value->Value->Sem Value}{C:Int->Int->Prop}{g:Int->Int->Int}
  (rule:∀(i j:Int)(t u:Tok)(s:Shared)(Q:Value->Shared->Prop)(E:Value->Shared->Prop),C i j->Q (.int (g i j) s.toks) { s with toks:=s.toks+1 }->wpAny (model X.prog X.w) X.A (f (.int i t) (.int j u)) Q E s) :
  OpR X f (rI C λi j=>.int (g i j)):=by
 intro pins s σ H x y v u Q I rx ry h;obtain⟨i,j,rfl,rfl,hc,q⟩:=h;obtain⟨t,rfl⟩:=rx;obtain⟨t',rfl⟩:=ry;exact rule i j t t' s _ _ hc ⟨.int (g i j),H,I.tok _,⟨_,rfl⟩,q⟩
theorem QyC{f:Value->Value->Sem Value}{g:Int->Int->Int}
  (rule:∀(i j:Int)(t u:Tok)(s:Shared)(Q:Value->Shared->Prop)(E:Value->Shared->Prop),Q (.int (g i j) s.toks) { s with toks:=s.toks+1 }->wpAny (model X.prog X.w) X.A (f (.int i t) (.int j u)) Q E s) :
  OpR X f (rI0 λi j=>.int (g i j)):=by
 intro pins s σ H x y v u Q I rx ry h;obtain⟨i,j,rfl,rfl,q⟩:=h;obtain⟨t,rfl⟩:=rx;obtain⟨t',rfl⟩:=ry;exact rule i j t t' s _ _ ⟨.int (g i j),H,I.tok _,⟨_,rfl⟩,q⟩
theorem QwP{f:Value->Value->Sem Value}{g:Int->Int->Bool}
  (rule:∀(i j:Int)(t u:Tok)(s:Shared)(Q:Value->Shared->Prop)(E:Value->Shared->Prop),Q (.bool (g i j)) s->wpAny (model X.prog X.w) X.A (f (.int i t) (.int j u)) Q E s) :
  OpR X f (rI0 λi j=>.bl (g i j)):=by
 intro pins s σ H x y v u Q I rx ry h;obtain⟨i,j,rfl,rfl,q⟩:=h;obtain⟨t,rfl⟩:=rx;obtain⟨t',rfl⟩:=ry;exact rule i j t t' s _ _ ⟨.bl (g i j),H,I,rfl,q⟩
def Qzw(i j:Int):Prop:=0<=j/\j<=1000000/\i.natAbs<2^64
def CMul(i j:Int):Prop:=(-(2^64)<i/\i<2^64)∨(-(2^64)<j/\j<2^64)
theorem CMul.ok{i j:Int}(h:CMul i j):IntMulOk i j:=by
 rcases h with⟨h1,h2⟩ | ⟨h1,h2⟩
 ·exact .of_left (intBits_le_64 h1 h2)
 ·exact .of_right (intBits_le_64 h1 h2)
theorem QfB:OpR X (binaryOp .Add) (rI0 λi j=>.int (i+j)):=QyC λ_ _ _ _ _ _ _ q=>add_int q
theorem Ql7:OpR X (binaryOp .Sub) (rI0 λi j=>.int (i - j)):=QyC λ_ _ _ _ _ _ _ q=>sub_int q
theorem QfA:OpR X (binaryOp .Mult) (rI CMul λi j=>.int (i*j)):=opI λ_ _ _ _ _ _ _ hc q=>mul_int q hc.ok
theorem QjF:OpR X (binaryOp .Mod) (rI (λ_ j=>0<j) λi j=>.int (i % j)):=opI λi j _ _ _ _ _ hc q=>by
 have h1:(0:Int)<j:=hc;exact mod_int' (by omega) (by rw[Int.fmod_eq_emod_of_nonneg i (by omega)];exact q)
theorem Qrl:OpR X (binaryOp .Pow) (rI Qzw λi j=>.int (i^j.toNat)):=opI λ_ _ _ _ _ _ _ hc q=>pow_int_small hc.1 hc.2.1 hc.2.2 q
theorem unI{f:Value->Sem Value}{g:Int->Int}
  (rule:∀(i:Int)(t:Tok)(s:Shared)(Q:Value->Shared->Prop)(E:Value->Shared->Prop),Q (.int (g i) s.toks) { s with toks:=s.toks+1 }->wpAny (model X.prog X.w) X.A (f (.int i t)) Q E s) :
  UnR X f (rU λi=>.int (g i)):=by
 intro pins s σ H x v Q I rx h;obtain⟨i,rfl,q⟩:=h;obtain⟨t,rfl⟩:=rx;exact rule i t s _ _ ⟨.int (g i),H,I.tok _,⟨_,rfl⟩,q⟩
theorem Qun:UnR X (unaryOp .USub) (rU λi=>.int (-i)):=unI λ_ _ _ _ _ q=>neg_int q
end
def scal:V->V->Bool
 |.non,.non=>true | .non,.int _=>true | .int _,.non=>true | .non,.bl _=>true | .bl _,.non=>true | .non,.str _=>true | .str _,.non=>true
 |.int _,.int _=>true | .bl _,.bl _=>true | .str _,.str _=>true | .byt _,.byt _=>true
 |.int _,.str _=>true | .str _,.int _=>true | .bl _,.str _=>true | .str _,.bl _=>true
 |_,_=>false
def rEq:R2:=λx y H Q=>scal x y=true/\Q (.bl (decide (x=y))) H
def rNe:R2:=λx y H Q=>scal x y=true/\Q (.bl (!decide (x=y))) H
theorem Qm9{i j:Int}:decide (V.int i=V.int j)=(i == j):=by
 rw[YH];simp
theorem QrE{i j:Bool}:decide (V.bl i=V.bl j)=(i == j):=by
 rw[YH];simp
theorem Qm8{i j:Str}:decide (V.str i=V.str j)=(i == j):=by
 rw[YH];simp
theorem Qna{i j:Array UInt8}:decide (V.byt i=V.byt j)=(i.toList == j.toList):=by
 rw[YH];cases i;cases j;simp
section
variable{X:Cx}{a b c:QZ}{ta tb tc:TE}{pos:Pos}
theorem ZJ{pins:List (Addr×Obj)}{σ:St}{H:Hp}{s:Shared}{Q:VK}{k k':Bool}(I:Inv X pins σ H s)(q:Q (.bl k) H)(e:k=k'):EP X pins σ Q (.bool k') s:=by
 subst e;exact⟨.bl k,H,I,rfl,q⟩
theorem Qvv:OpR X (compareOp .Eq) rEq:=by
 intro pins s σ H x y v u Q I rx ry h;obtain⟨hs,q⟩:=h;cases x with
 |non=>
  cases rx;cases y with
  |non=>cases ry;exact PySem.EqNone.eq_none_none (ZJ I q (by simp))
  |bl j=>cases ry;exact PySem.EqNone.eq_none_bool (ZJ I q (by simp))
  |int j=>obtain⟨t',rfl⟩:=ry;exact PySem.EqNone.eq_none_int (ZJ I q (by simp))
  |str j=>obtain⟨t',rfl⟩:=ry;exact PySem.EqNone.eq_none_str (ZJ I q (by simp))
  |_=>exact absurd (show false=true from hs) Qx
 |bl i=>
  cases rx;cases y with
  |non=>cases ry;exact PySem.EqNone.eq_bool_none (ZJ I q (by simp))
  |bl j=>cases ry;exact eq_bool (ZJ I q QrE)
  |str j=>obtain⟨t',rfl⟩:=ry;exact PySem.EqMixed.eq_bool_str (ZJ I q (by simp))
  |_=>exact absurd (show false=true from hs) Qx
 |int i=>
  obtain⟨t,rfl⟩:=rx;cases y with
  |non=>cases ry;exact PySem.EqNone.eq_int_none (ZJ I q (by simp))
  |int j=>obtain⟨t',rfl⟩:=ry;exact eq_int (ZJ I q Qm9)
  |str j=>obtain⟨t',rfl⟩:=ry;exact PySem.EqMixed.eq_int_str (ZJ I q (by simp))
  |_=>exact absurd (show false=true from hs) Qx
 |str i=>
  obtain⟨t,rfl⟩:=rx;cases y with
  |non=>cases ry;exact PySem.EqNone.eq_str_none (ZJ I q (by simp))
  |bl j=>cases ry;exact PySem.EqMixed.eq_str_bool (ZJ I q (by simp))
  |int j=>obtain⟨t',rfl⟩:=ry;exact PySem.EqMixed.eq_str_int (ZJ I q (by simp))
  |str j=>obtain⟨t',rfl⟩:=ry;exact eq_str (ZJ I q Qm8)
  |_=>exact absurd (show false=true from hs) Qx
 |byt i=>
  obtain⟨t,rfl⟩:=rx;cases y with
  |byt j=>obtain⟨t',rfl⟩:=ry;exact PySem.W.eq_bytes (ZJ I q Qna)
  |_=>exact absurd (show false=true from hs) Qx
 |_=>cases y<;>exact absurd (show false=true from hs) Qx
theorem QsY:OpR X (compareOp .NotEq) rNe:=by
 intro pins s σ H x y v u Q I rx ry h;obtain⟨hs,q⟩:=h;cases x with
 |non=>
  cases rx;cases y with
  |non=>cases ry;exact PySem.EqNone.ne_none_none (ZJ I q (by simp))
  |bl j=>cases ry;exact PySem.EqNone.ne_none_bool (ZJ I q (by simp))
  |int j=>obtain⟨t',rfl⟩:=ry;exact PySem.EqNone.ne_none_int (ZJ I q (by simp))
  |str j=>obtain⟨t',rfl⟩:=ry;exact PySem.EqNone.ne_none_str (ZJ I q (by simp))
  |_=>exact absurd (show false=true from hs) Qx
 |bl i=>
  cases rx;cases y with
  |non=>cases ry;exact PySem.EqNone.ne_bool_none (ZJ I q (by simp))
  |bl j=>cases ry;exact ne_bool (ZJ I q (congrArg not QrE))
  |str j=>obtain⟨t',rfl⟩:=ry;exact PySem.EqMixed.ne_bool_str (ZJ I q (by simp))
  |_=>exact absurd (show false=true from hs) Qx
 |int i=>
  obtain⟨t,rfl⟩:=rx;cases y with
  |non=>cases ry;exact PySem.EqNone.ne_int_none (ZJ I q (by simp))
  |int j=>obtain⟨t',rfl⟩:=ry;exact ne_int (ZJ I q (congrArg not Qm9))
  |str j=>obtain⟨t',rfl⟩:=ry;exact PySem.EqMixed.ne_int_str (ZJ I q (by simp))
  |_=>exact absurd (show false=true from hs) Qx
 |str i=>
  obtain⟨t,rfl⟩:=rx;cases y with
  |non=>cases ry;exact PySem.EqNone.ne_str_none (ZJ I q (by simp))
  |bl j=>cases ry;exact PySem.EqMixed.ne_str_bool (ZJ I q (by simp))
  |int j=>obtain⟨t',rfl⟩:=ry;exact PySem.EqMixed.ne_str_int (ZJ I q (by simp))
  |str j=>obtain⟨t',rfl⟩:=ry;exact ne_str (ZJ I q (congrArg not Qm8))
  |_=>exact absurd (show false=true from hs) Qx
 |byt i=>
  obtain⟨t,rfl⟩:=rx;cases y with
  |byt j=>obtain⟨t',rfl⟩:=ry;exact PySem.W.ne_bytes (ZJ I q (congrArg not Qna))
  |_=>exact absurd (show false=true from hs) Qx
 |_=>cases y<;>exact absurd (show false=true from hs) Qx
theorem Qvs:OpR X (compareOp .Lt) (rI0 λi j=>.bl (decide (i<j))):=QwP λ_ _ _ _ _ _ _ q=>lt_int q
theorem QkF:OpR X (compareOp .LtE) (rI0 λi j=>.bl (decide (i<=j))):=QwP λ_ _ _ _ _ _ _ q=>le_int q
theorem Qvt:OpR X (compareOp .Gt) (rI0 λi j=>.bl (decide (j<i))):=QwP λ_ _ _ _ _ _ _ q=>gt_int q
theorem Qs1:OpR X (compareOp .GtE) (rI0 λi j=>.bl (decide (j<=i))):=QwP λ_ _ _ _ _ _ _ q=>ge_int q
theorem Qrn:OpR X (compareOp .Is) (λx y H Q=>y=.non/\Q (.bl (decide (x=.non))) H):=by
 intro pins s σ H x y v u Q I rx ry h;obtain⟨rfl,q⟩:=h;cases ry;refine is_none_gen (ZJ I q ?_);cases x<;>first
  |(cases rx;rfl)
  |(obtain⟨t,rfl⟩:=rx;rfl)
theorem OpR.or{f:Value->Value->Sem Value}{r r':R2}(h:OpR X f r)(h':OpR X f r'):OpR X f (λx y H Q=>r x y H Q∨r' x y H Q):=by
 intro pins s σ H x y v u Q I rx ry q;rcases q with q | q
 ·exact h pins s σ H x y v u Q I rx ry q
 ·exact h' pins s σ H x y v u Q I rx ry q
theorem Z1(b:QZ){op:QfV}(h:op≠.In:=by decide)(h2:op≠.NotIn:=by decide):behindInMarks op b=false:=by
 have e1:(op == CmpOp.In)=false:=by cases op<;>first | rfl | exact absurd rfl h
 have e2:(op == Qxi)=false:=by cases op<;>first | rfl | exact absurd rfl h2
 cases b<;>simp[behindInMarks,e1,e2]
theorem Qdz{op:QfV}{r:R2}(ho:OpR X (compareOp op) r)(ha:PE X a ta)(hb:PE X b tb)(hm:behindInMarks op b=false):PE X (.Compare a [op] [b] pos) (tOp r ta tb):=by
 intro pins s σ H Q I h;exact wpAny_Compare1 (Qyh ha hb I h λv u s2 x y H2 I2 rx ry q=>ho pins s2 σ H2 x y v u Q I2 rx ry q) hm
def Qob(t:TE):TT:=λσ H Q=>t σ H λx H'=>∃k,x=.bl k/\Q k H'
theorem QbQ{op:QfV}{r:R2}(ho:OpR X (compareOp op) r)(ha:PE X a ta)(hb:PE X b tb)(hm:behindInMarks op b=false):PT X (.Compare a [op] [b] pos) (Qob (tOp r ta tb)):=by
 intro pins s σ H Q I h;refine QrP (thn (ha pins s σ H _ I h) λv s1 ⟨x,H1,I1,r1,q1⟩=>thn (hb pins s1 σ H1 _ I1 q1) λu s2 ⟨y,H2,I2,r2,q2⟩=>
  thn (ho pins s2 σ H2 x y v u _ I2 r1 r2 q2) λc s3 ⟨z,H3,I3,r3,k,e,q3⟩=>?_) hm
 subst e;cases r3;exact J5 ⟨H3,I3,q3⟩
def Qlp(r r':R2)(ta tb tc:TE):TE:=λσ H Q=>ta σ H λx H1=>tb σ H1 λy H2=>r x y H2 λz H3=>∃k,z=.bl k /\
 (if k=true then tc σ H3 λw' H4=>r' y w' H4 Q else Q (.bl false) H3)
theorem QoF{op op':QfV}{r r':R2}(ho:OpR X (compareOp op) r)(ho':OpR X (compareOp op') r')(ha:PE X a ta)(hb:PE X b tb)(hc:PE X c tc)
  (hm:lastMarks [op,op'] [b,c]=false:=by with_unfolding_all rfl):PE X (.Compare a [op,op'] [b,c] pos) (Qlp r r' ta tb tc):=by
 intro pins s σ H Q I h;refine Compare_chain (thn (ha pins s σ H _ I h) λv s1 ⟨x,H1,I1,r1,q1⟩=>chain_link (thn (hb pins s1 σ H1 _ I1 q1) λu s2 ⟨y,H2,I2,r2,q2⟩=>
  thn (ho pins s2 σ H2 x y v u _ I2 r1 r2 q2) λd s3 ⟨z,H3,I3,r3,k,e,q3⟩=>?_)) hm
 subst e;cases r3;refine J5 ?_
 cases k with
 |false=>exact ite_ff ⟨.bl false,H3,I3,rfl,q3⟩
 |true=>exact ite_tt (chain_last (thn (hc pins s3 σ H3 _ I3 q3) λw' s4 ⟨z',H4,I4,r4,q4⟩=>ho' pins s4 σ H4 y z' u w' Q I4 r2 r4 q4))
theorem Qoy{op op':QfV}{r r':R2}(ho:OpR X (compareOp op) r)(ho':OpR X (compareOp op') r')(ha:PE X a ta)(hb:PE X b tb)(hc:PE X c tc)
  (hm:lastMarks [op,op'] [b,c]=false:=by with_unfolding_all rfl):PT X (.Compare a [op,op'] [b,c] pos) (Qob (Qlp r r' ta tb tc)):=by
 intro pins s σ H Q I h;refine isTrue_chain (thn (ha pins s σ H _ I h) λv s1 ⟨x,H1,I1,r1,q1⟩=>test_link (thn (hb pins s1 σ H1 _ I1 q1) λu s2 ⟨y,H2,I2,r2,q2⟩=>
  thn (ho pins s2 σ H2 x y v u _ I2 r1 r2 q2) λd s3 ⟨z,H3,I3,r3,k,e,q3⟩=>?_)) hm
 subst e;cases r3;refine J5 ?_
 cases k with
 |false=>
  obtain⟨k',e',q'⟩:=q3;cases e';exact ite_ff ⟨H3,I3,q'⟩
 |true=>
  refine ite_tt (test_last (thn (hc pins s3 σ H3 _ I3 q3) λw' s4 ⟨z',H4,I4,r4,q4⟩=>thn (ho' pins s4 σ H4 y z' u w' _ I4 r2 r4 q4) λd' s5 ⟨z2,H5,I5,r5,k2,e2,q5⟩=>?_));subst e2;cases r5;exact J5 ⟨H5,I5,q5⟩
theorem QjO:(sizeLine:Nat)<2^63:=by rw[Ya];decide
theorem vals1{x:V}{us:List Value}(r:Vals [x] us):∃u,us=[u]/\RelV x u:=by
 cases r with
 |cons r1 r2=>cases r2;exact⟨_,rfl,r1⟩
theorem vals2{x y:V}{us:List Value}(r:Vals [x,y] us):∃u w',us=[u,w']/\RelV x u/\RelV y w':=by
 cases r with
 |cons r1 r2=>
  cases r2 with
  |cons r3 r4=>cases r4;exact⟨_,_,rfl,r1,r3⟩
theorem Qnn(hc:X.calm=true):CallR X (.builtin "max") (λxs H Q=>∃i j,xs=[.int i,.int j]/\Q (.int (if j > i then j else i)) H):=by
 intro pins s σ H xs us Q I r h;obtain⟨i,j,rfl,q⟩:=h;obtain⟨u,w',rfl,⟨t,rfl⟩,⟨t',rfl⟩⟩:=vals2 r;refine max_two_ints (I.ok.hd hc) λh' tk k=>⟨_,H,I.kept k,?_,q⟩
 by_cases hj:j > i
 ·rw[if_pos hj,if_pos hj];exact⟨_,rfl⟩
 ·rw[if_neg hj,if_neg hj];exact⟨_,rfl⟩
theorem QhS(hc:X.calm=true):CallR X (.builtin "min") (λxs H Q=>∃i j,xs=[.int i,.int j]/\Q (.int (if j<i then j else i)) H):=by
 intro pins s σ H xs us Q I r h;obtain⟨i,j,rfl,q⟩:=h;obtain⟨u,w',rfl,⟨t,rfl⟩,⟨t',rfl⟩⟩:=vals2 r;refine min_two_ints (I.ok.hd hc) λh' tk k=>⟨_,H,I.kept k,?_,q⟩
 by_cases hj:j<i
 ·rw[if_pos hj,if_pos hj];exact⟨_,rfl⟩
 ·rw[if_neg hj,if_neg hj];exact⟨_,rfl⟩
theorem Qno:CallR X (.type "int") (λxs H Q=>(∃i,xs=[.int i]/\Q (.int i) H)∨∃k,xs=[.bl k]/\Q (.int (if k then 1 else 0)) H):=by
 intro pins s σ H xs us Q I r h;rcases h with⟨i,rfl,q⟩ | ⟨k,rfl,q⟩
 ·obtain⟨u,rfl,t,rfl⟩:=vals1 r;exact call_int_int ⟨.int i,H,I,⟨_,rfl⟩,q⟩
 ·obtain⟨u,rfl,r1⟩:=vals1 r;cases r1;exact call_int_bool ⟨.int (if k then 1 else 0),H,I.tok _,⟨_,rfl⟩,q⟩
end
structure ObjM (h:Heap) (x dx C:Addr) (mA:Str->Option Value):Prop where
 obj:h.get? x=some (PySem.W.instObj C dx)
 ns:h.Ns1 dx mA
 ne:dx≠x
theorem Qmx{h:Heap}{dx:Addr}{mA:Str->Option Value}(n:h.Ns1 dx mA):∃od,h.get? dx=some od/\∀name,PySem.W.lookIn name od=some (mA name):=by
 obtain⟨o,es,ep,ho,hd,hk,_,hm⟩:=n;refine⟨o,ho,λname=>?_⟩;have e:=hm name;unfold nsFind findBy at e;rw[<- Array.find?_toList] at e;unfold PySem.W.lookIn;rw[hd]
 dsimp only
 split
 ·rename_i y q
  rw[q] at e;exact congrArg some e
 ·rename_i q
  rw[q] at e;have a:es.toList.any (·.refKey)=false:=by
   rw[List.any_eq_false];intro y hy;obtain⟨z,t,hkey⟩:=hk y (ZE.mp hy);simp[DictEntry.refKey,hkey]
  have a':¬es.toList.any (·.refKey)=true:=by rw[a];exact Qx
  rw[if_neg a'];exact congrArg some e
theorem ObjM.look{h:Heap}{x dx C:Addr}{mA:Str->Option Value}(I:ObjM h x dx C mA):∃od,PySem.W.InstAt h x (PySem.W.instObj C dx) C (some od)/\∀name,PySem.W.lookIn name od=some (mA name):=
 let ⟨od,ho,hl⟩:=Qmx I.ns
 ⟨od,⟨I.obj,rfl,rfl,ho⟩,hl⟩
section
variable{prog:QB}{w:Q8}{A:Q2}{E:Value->Shared->Prop}{s:Shared}{K:PySem.W.Frag}{x dx C f:Addr}{mA:Str->Option Value}{name:Str}{v:Value}
end
section
variable{P:QB}{w:Q8}{H H':Hp}{h h':Heap}{a C dx:Addr}{fs fs':List (Str×V)}
theorem ins_get(hok:HOk P w H h)(e:H a=some (.ins C dx fs)):∃mA,ObjM h a dx C mA/\(∀f,Qyk (fs.lookup f) (mA f))/\PySem.Within mA (fs.map (·.1))/\fs.length<=1000/\H dx=some (.own a):=by
 obtain⟨d,z,ne,ob,mA,n,r,q⟩:=(show ObjOk P w H h a (.ins C dx fs) from hok a _ e);exact⟨mA,⟨ob,n,ne⟩,r,q,z,d⟩
end
structure Cls (K:PySem.W.Frag) (C:Addr):Prop where
 pg:PySem.W.plainGet K C Str.empty=true
 hd:PySem.W.hasDictIn K C=true
 po:PySem.W.plainOver K C=true
 sa:PySem.W.findIn K (.ref C) "__setattr__" = some (some (.builtin "object.__setattr__"))
theorem Cls.get{K:PySem.W.Frag}{C:Addr}(c:Cls K C)(f:Str):PySem.W.plainGet K C f=true:=c.pg
section
variable{X:Cx}{pins:List (Addr×Obj)}{σ:St}{H:Hp}{s:Shared}{a C dx:Addr}{fs:List (Str×V)}{f:Str}{v:V}{A:Q2}{E:Value->Shared->Prop}
theorem Inv.made(I:Inv X pins σ H s):Inv X pins σ (upd (upd H s.heap.objs.size (.own (s.heap.objs.size+1))) (s.heap.objs.size+1) (.ins C s.heap.objs.size []))
  { s with heap:=(s.heap.push PySem.W.emptyDict).push (PySem.W.instObj C s.heap.objs.size) }:=by
 have e1:(s.heap.push PySem.W.emptyDict).get? s.heap.objs.size=some PySem.W.emptyDict:=Qu s.heap rfl;have e2:((s.heap.push PySem.W.emptyDict).push (PySem.W.instObj C s.heap.objs.size)).get? (s.heap.objs.size+1)=some (PySem.W.instObj C s.heap.objs.size):=by
  have:=Qu (s.heap.push PySem.W.emptyDict) (o:=PySem.W.instObj C s.heap.objs.size) rfl
  rwa [JH] at this
 have e3:(s.heap.push PySem.W.emptyDict).Ns s.heap.objs.size (λ_=>none):=⟨PySem.W.emptyDict,#[],_,e1,rfl,(λe he=>absurd he (by simp)),λ_=>rfl⟩;have I1:=I.laid (a:=s.heap.objs.size) (o:=.own (s.heap.objs.size+1)) (h':=s.heap.push PySem.W.emptyDict) (t':=s.toks) (λb u q=>Qc _ q) (Qg _) ⟨_,e1⟩;refine I1.laid (a:=s.heap.objs.size+1) (o:=.ins C s.heap.objs.size []) (t':=s.toks) (λb u q=>Qc _ q) (Nat.le_of_eq (JH _ _)) ?_
 have ne:s.heap.objs.size≠s.heap.objs.size+1:=QC (QaV _);refine⟨by rw[JK ne,Jp],Qq _,ne,e2,λ_=>none,(Heap.Ns1.of_empty e3).at λo q=>Qc _ q,λ_=>QbG,λy hy=>absurd rfl hy⟩
end
section
variable{X:Cx}{o e value:QZ}{f:Str}{pos pos' tpos:Pos}{ta tv:TE}
def rAdd:V->V->Hp->VK->Prop:=λx y H Q=>∃i j,x=.int i/\y=.int j/\Q (.int (i+j)) H
end
section
variable{X:Cx}{pins:List (Addr×Obj)}{σ:St}{H:Hp}{s:Shared}{A:Q2}{E:Value->Shared->Prop}{Q:Value->Shared->Prop}{c:Value}{b:Bool}
inductive TyOf (K:PySem.W.Frag) (H:Hp):V->Value->Prop where
 |non:TyOf K H .non (.type "NoneType")
 |bl (x:Bool):TyOf K H (.bl x) (.type "bool")
 |int (i:Int):TyOf K H (.int i) (.type "int")
 |str (x:Str):TyOf K H (.str x) (.type "str")
 |flt (x:UInt64):TyOf K H (.flt x) (.type "float")
 |lst {a:Addr} {xs:List V} (e:H a=some (.lst xs)):TyOf K H (.ref a) (.type "list")
 |frz {a:Addr} {o:Obj} {xs:List V} (e:H a=some (.frz o (.lst xs))):TyOf K H (.ref a) (.type "list")
 |tup {a:Addr} {xs:List V} (e:H a=some (.tup xs)):TyOf K H (.ref a) (.type "tuple")
 |dK {a:Addr} {kvs:List (Key×V)} (e:H a=some (.dK kvs)):TyOf K H (.ref a) (.type "dict")
 |dT {a:Addr} {kvs:List (List Key×V)} (e:H a=some (.dT kvs)):TyOf K H (.ref a) (.type "dict")
 |ins {a C dx:Addr} {fs:List (Str×V)} (e:H a=some (.ins C dx fs)) (cl:Cls K C) (ha:PySem.W.findIn K (.ref C) "__class__" = some (some (.builtin "object.__class__")))
   (hn:PySem.W.specialIn K (.builtin "object.__class__") "__get__" = some (some (.builtin "getset_descriptor.__get__"))) (htk:PySem.W.takesIn K (.builtin "object.__class__")=some true)
   (hm:PySem.W.mroIn K C (.type "object")=some true):TyOf K H (.ref a) (.ref C)
theorem QmE{x:V}{u t:Value}(I:Inv X pins σ H s)(rx:RelV x u)(ty:TyOf X.K H x t)(e:PySem.W.kitOne X.K t c=some b)(h:∀tk,Q (.bool b) { s with toks:=tk }) :
  wpAny (model X.prog X.w) A (call (.builtin "isinstance") [u,c]) Q E s:=by
 cases ty with
 |non=>cases(show u=JD from rx);exact PySem.W.kia_one PySem.W.kitx_none I.kIn QbG e (λz=>nomatch z) h
 |bl y=>cases(show u=QbB y from rx);exact PySem.W.kia_one PySem.W.kitx_bool I.kIn QbG e (λz=>nomatch z) h
 |int i=>obtain⟨t,q⟩:=(show ∃t,u=QfQ i t from rx);cases q;exact PySem.W.kia_one PySem.W.kitx_int I.kIn QbG e (λz=>nomatch z) h
 |str y=>obtain⟨t,q⟩:=(show ∃t,u=QrU y t from rx);cases q;exact PySem.W.kia_one PySem.W.kitx_str I.kIn QbG e (λz=>nomatch z) h
 |flt y=>obtain⟨t,q⟩:=(show ∃t,u=Qw4 y t from rx);cases q;exact PySem.W.kia_one PySem.W.kitx_float I.kIn QbG e (λz=>nomatch z) h
 |@lst a xs ea=>
  cases(show u=QL a from rx);obtain⟨_,_,n,_,h1⟩:=(show ObjOk X.prog X.w H s.heap a (.lst xs) from I.hok a _ ea);exact PySem.W.kia_one PySem.W.kitx_list I.kIn ⟨_,h1,rfl⟩ e (λz=>nomatch z) h
 |@frz a ob xs ea=>
  cases(show u=QL a from rx);obtain⟨_,_,_,n,_,h1⟩:=(show ObjOk X.prog X.w H s.heap a (.frz ob (.lst xs)) from I.hok a _ ea);exact PySem.W.kia_one PySem.W.kitx_list I.kIn ⟨_,h1,rfl⟩ e (λz=>nomatch z) h
 |@tup a xs ea=>
  cases(show u=QL a from rx);obtain⟨_,_,_,p⟩:=(show ObjOk X.prog X.w H s.heap a (.tup xs) from I.hok a _ ea);obtain⟨o,h1,h2,_⟩:=p;exact PySem.W.kia_one PySem.W.kitx_tuple I.kIn ⟨o,h1,h2⟩ e (λz=>nomatch z) h
 |@dK a kvs ea=>
  cases(show u=QL a from rx);obtain⟨_,_,vs,_,p⟩:=(show ObjOk X.prog X.w H s.heap a (.dK kvs) from I.hok a _ ea);obtain⟨o,es,ep,h1,h2,_⟩:=p;exact PySem.W.kia_one PySem.W.kitx_dict I.kIn ⟨o,h1,h2.1⟩ e (λz=>nomatch z) h
 |@dT a kvs ea=>
  cases(show u=QL a from rx);obtain⟨_,_,xs,_,o,es,ep,h1,h2,_⟩:=(show ObjOk X.prog X.w H s.heap a (.dT kvs) from I.hok a _ ea);exact PySem.W.kia_one PySem.W.kitx_dict I.kIn ⟨o,h1,h2.1⟩ e (λz=>nomatch z) h
 |@ins a C dx fs ea cl ha hn htk hm=>
  cases(show u=QL a from rx);obtain⟨mA,O,_⟩:=ins_get I.hok ea;obtain⟨od,J,_⟩:=O.look;exact PySem.W.kia_one (PySem.W.kitx_own (cl.get _) cl.hd ha hn htk hm) I.kIn J e (λz=>nomatch z) h
end
structure Room (k:Nat) (A:Q2):Prop where
 hd:A.handled=none
 dp:A.depth+3*k+5<recursionLimit
 un:A.units+16*k+200<cLine
theorem Room.mono{j k:Nat}{A:Q2}(r:Room k A)(h:j<=k):Room j A:=⟨r.hd,by have:=r.dp;omega,by have:=r.un;omega⟩
theorem Room.deeper{k:Nat}{A:Q2}(r:Room (k+1) A)(env:Env):Room k (A.deeper env):=
 ⟨r.hd,by have:=r.dp;show A.depth+1+3*k+5<_;omega,by have:=r.un;show A.units+3+16*k+200<_;omega⟩
theorem Room.in1{k:Nat}{A:Q2}(r:Room (k+1) A):Room k A.in1:=
 ⟨r.hd,by have:=r.dp;show A.depth+3*k+5<_;omega,by have:=r.un;show A.units+1+16*k+200<_;omega⟩
theorem Room.depth{k:Nat}{A:Q2}(r:Room k A):A.depth<recursionLimit:=by have:=r.dp;omega
theorem Room.units{k:Nat}{A:Q2}(r:Room k A):A.units+64<cLine:=by have:=r.un;omega
theorem Room.units0{k:Nat}{A:Q2}(r:Room k A):A.units<cLine:=by have:=r.un;omega
def QpX:TA:=λ_ H Q=>Q [] H
def Qd4(ta:TE)(tr:TA):TA:=λσ H Q=>ta σ H λx H1=>tr σ H1 λxs H2=>Q (x::xs) H2
section
variable{X:Cx}{e:QZ}{es:List QZ}{te:TE}{t:TA}{pos:Pos}
theorem JN:PA X [] QpX:=λ_ _ _ _ H Q I h=>Calls.spliced_nil ⟨[],H,I,.nil,h⟩
theorem Jr(ha:PE X e te)(hr:PA X es t)(hs:starEach (e::es) X.env=(false,eval e X.env)::starEach es X.env:=by rfl):PA X (e::es) (Qd4 te t):=by
 intro pos pins s σ H Q I h;rw[hs];show wpAny _ _ (spliced ((false,eval e X.env)::backTo pos (starEach es X.env))) _ _ s;refine Calls.spliced_cons (thn (ha pins s σ H _ I h) λu s1 ⟨x,H1,I1,r1,q1⟩=>?_);exact thn (hr pos pins s1 σ H1 _ I1 q1) λus s2 ⟨xs,H2,I2,r2,q2⟩=>⟨x::xs,H2,I2,.cons r1 r2,q2⟩
def Qy5(t:TA):TE:=λσ H Q=>t σ H λxs H1=>xs.length<=sizeLine/\∀p,H1 p=none->Q (.ref p) (upd H1 p (.lst xs))
theorem Qri(h:PA X es t):PE X (.List es pos) (Qy5 t):=by
 intro pins s σ H Q I hq;refine Qwz (thn (h pos pins s σ H _ I hq) λus s1 ⟨xs,H1,I1,r,z,q⟩=>⟨by rw[<- r.length];exact z,?_⟩);have hf:H1 s1.heap.objs.size=none:=I1.hok.fresh (Qg _);refine⟨.ref s1.heap.objs.size,upd H1 s1.heap.objs.size (.lst xs),I1.laid (t':=s1.toks) (λb u e=>Qc _ e) (Qg _) ?_,rfl,q _ hf⟩;exact⟨z,us,0,r,Qu _ rfl⟩
end
abbrev Sp:=List V->Hp->VK->XK->Prop
abbrev CXT:=List Env->Hp->Shared->XK->Value->Shared->Prop
structure Env0 (P:QB) (w:Q8) (K:PySem.W.Frag) (mg:Str->Option Value) (base:Heap) (A:Q2) (outer:List Env) (s:Shared) (H:Hp):Prop where
 frames:A.frames=some outer
 mod:Mod K mg base
 bs:∀b o,base.get? b=some o->s.heap.get? b=some o/\H b=none
 bsz:base.objs.size<=s.heap.objs.size
 funs:s.heap.FunFrames base outer
 frf:∀b∈frs outer,H b=none
 hok:HOk P w H s.heap
 bare:Qe9 s.gens
def CE(outer:List Env)(P:QB)(w:Q8)(H:Hp)(s:Shared)(Q:VK)(u:Value)(s':Shared):Prop:=
 ∃v H',s'.os=s.os/\Qe9 s'.gens/\Un (frs outer) [] H H' s.heap s'.heap/\HOk P w H' s'.heap/\RelV v u/\Q v H'
def CR(CX:CXT)(outer:List Env)(P:QB)(w:Q8)(H:Hp)(s:Shared)(Q:VK)(E:XK)(r:QrW)(s':Shared):Prop:=
 match r with
 |.ok (.ret u)=>CE outer P w H s Q u s'
 |.ok _=>False
 |.error e=>CX outer H s E e s'
structure FnOk (P:QB) (w:Q8) (K:PySem.W.Frag) (mg:Str->Option Value) (base:Heap) (CX:CXT) (k:Nat) (f:Addr) (fd:Q1) (ps:List Str) (sp:Sp):Prop where
 len:∀vs H Q E,sp vs H Q E->vs.length=ps.length
 run:∀(A:Q2)(outer:List Env)(s:Shared)(H:Hp)(args:Args)(us:List Value)(vs:List V)(Q:VK)(E:XK),Room k A->Env0 P w K mg base A outer s H->Qn3 s fd args (ps.zip us)->Vals vs us->sp vs H Q E ->
  codeAny (model P w) A (.call (.ref f) args) (CR CX outer P w H s Q E) s
theorem FnOk.mono{P:QB}{w:Q8}{K:PySem.W.Frag}{mg:Str->Option Value}{base:Heap}{CX:CXT}{j k:Nat}{f:Addr}{fd:Q1}{ps:List Str}{sp:Sp}(F:FnOk P w K mg base CX j f fd ps sp)(h:j<=k) :
  FnOk P w K mg base CX k f fd ps sp:=⟨F.len,λA outer s H args us vs Q E hr=>F.run A outer s H args us vs Q E (hr.mono h)⟩
theorem FnOk.imp{P:QB}{w:Q8}{K:PySem.W.Frag}{mg:Str->Option Value}{base:Heap}{CX:CXT}{k:Nat}{f:Addr}{fd:Q1}{ps:List Str}{sp sp':Sp}(F:FnOk P w K mg base CX k f fd ps sp)
  (h:∀vs H Q E,sp' vs H Q E->sp vs H Q E):FnOk P w K mg base CX k f fd ps sp':=
 ⟨λvs H Q E q=>F.len vs H Q E (h _ _ _ _ q),λA outer s H args us vs Q E hr he hb hv hs=>F.run A outer s H args us vs Q E hr he hb hv (h _ _ _ _ hs)⟩
theorem Env0.in1{P:QB}{w:Q8}{K:PySem.W.Frag}{mg:Str->Option Value}{base:Heap}{A:Q2}{outer:List Env}{s:Shared}{H:Hp}(e:Env0 P w K mg base A outer s H) :
  Env0 P w K mg base A.in1 outer s H:=⟨e.frames,e.mod,e.bs,e.bsz,e.funs,e.frf,e.hok,e.bare⟩
section
variable{X:Cx}{pins:List (Addr×Obj)}{σ:St}{H:Hp}{s s':Shared}
theorem Inv.env0(I:Inv X pins σ H s):Env0 X.prog X.w X.K X.mg X.base X.A X.stack s H:=
 ⟨I.ok.frames,I.ok.mod,I.bs,Q4 I.ok.bsz I.sz,I.stack,I.stkFree,I.hok,I.bare⟩
theorem Inv.after{Q:VK}{u:Value}(I:Inv X pins σ H s)(h:CE X.stack X.prog X.w H s Q u s'):EP X pins σ Q u s':=by
 obtain⟨v,H',os,bare,un,hok,r,q⟩:=h;obtain⟨hh,g,d,t,os'⟩:=s';obtain rfl:os'=s.os:=os;exact⟨v,H',I.call (h':=hh) (g':=g) (d':=d) (t':=t) (ch:=[]) un hok bare (λb z=>absurd z (by simp)),r,q⟩
end
def Qks(sp:Sp)(dvs:List V)(E:XK)(t:TA):TE:=λσ H Q=>t σ H λvs H1=>sp (vs++dvs) H1 Q E
def Binds(K:PySem.W.Frag)(fd:Q1)(ps:List Str)(ds:List Value):Prop:=
 ∀(s:Shared)(us:List Value),K.In s.heap->(us++ds).length=ps.length->Qn3 s fd ⟨us,[]⟩ (ps.zip (us++ds))
theorem Binds.all{K:PySem.W.Frag}{fd:Q1}{ps:List Str}(h:∀us:List Value,us.length=ps.length->bindArgs fd ⟨us,[]⟩=pure (ps.zip us)):Binds K fd ps []:=λs us _ hl=>by
 rw[JA] at hl ⊢;exact .of_eq (h us hl)
def Qcu(CX:CXT)(X:Cx)(E:XK):Prop:=∀(pins:List (Addr×Obj))(σ:St)(H:Hp)(s:Shared)(e:Value)(s':Shared),Inv X pins σ H s->CX X.stack H s E e s'->X.xe e s'
section
variable{X:Cx}{CX:CXT}{k:Nat}{f C:Addr}{fd:Q1}{ps:List Str}{sp:Sp}{dvs:List V}{ds:List Value}{E:XK}{x m:Str}{p pos apos:Pos}{e o:QZ}{es:List QZ}{ta:TE}{t:TA}
theorem QuM{pins:List (Addr×Obj)}{σ:St}{H:Hp}{s:Shared}{Q:VK}{us:List Value}{vs:List V}(F:FnOk X.prog X.w X.K X.mg X.base CX k f fd ps sp)(hr:Room k X.A)(hb:Binds X.K fd ps ds)(hd:Vals dvs ds)(hx:Qcu CX X E)
  (I:Inv X pins σ H s)(r:Vals vs us)(h:sp (vs++dvs) H Q E):wpAny (model X.prog X.w) X.A (call (.ref f) us) (EP X pins σ Q) X.xe s:=by
 have r2:Vals (vs++dvs) (us++ds):=r.append hd;have hl:(us++ds).length=ps.length:=by rw[<- r2.length];exact F.len _ _ _ _ h
 refine wpAny_call (Qa1 (F.run X.A X.stack s H ⟨us,[]⟩ (us++ds) (vs++dvs) Q E hr I.env0 (hb s us I.kIn hl) r2 h) λr s' hq=>?_);cases r with
 |error e=>exact hx pins σ H s e s' I hq
 |ok fl=>
  cases fl with
  |ret u=>exact I.after hq
  |next=>exact Z3 hq
  |brk=>exact Z3 hq
  |cont=>exact Z3 hq
theorem Qa9(F:FnOk X.prog X.w X.K X.mg X.base CX k f fd ps sp)(hr:Room k X.A)(hg:Gl X x)(hm:X.mg x=some (.ref f))(hk:PySem.W.keepIn X.K (.ref f)=true)(hb:Binds X.K fd ps ds)(hd:Vals dvs ds)(hx:Qcu CX X E)
  (ha:PA X (e::es) t)(hdb:(x == ("__debug__" : Str))=false:=by decide)(he:starEach (e::es) X.env=(false,eval e X.env)::starEach es X.env:=by rfl)(hpl:(backTo pos (starEach es X.env)).any (·.1)=false:=by rfl) :
  PE X (.Call (.Name x p) (e::es) [] pos) (Qks sp dvs E t):=by
 intro pins s σ H Q I h;refine QfP (Qmy I hg hm ?_ hdb);refine PySem.W.callWith_K (h₀:=X.base) I.ok.mod.kin hk (thn (ha pos pins s σ H _ I h) λus s1 ⟨vs,H1,I1,r,q⟩=>⟨I1.kIn,?_⟩) he hpl;exact QuM F hr hb hd hx I1 r q
end
section
variable{X:Cx}{CX:CXT}{k:Nat}{f C:Addr}{fd:Q1}{ps ks:List Str}{sp:Sp}{E:XK}{x m:Str}{p pos apos kpos:Pos}{e o:QZ}{es:List QZ}{kws:List Quh}{te ta:TE}{t tk:TA}{nm:Option Str}
variable{g:List Value->List Value->List Value}{gV:List V->List V->List V}
end
structure J3 (N P:List Str) (sc:Yk):Prop where
 kind:sc.kind=.function
 co:sc.isCoroutine=false
 gen:sc.isGenerator=false
 nd:N.Nodup
 pre:N.take P.length=P
 par:∀x∈P,sc.names.lookup x=some .local∨sc.names.lookup x=some .cell
 nofree:∀y∈sc.names,y.2≠.free
theorem QhX{kindOf:Str->Option QaY}{x:Str}:∀{binds:List (Str×Value)}{m:Str->Option Value},(∀v,(x,v)∉binds)->bindL kindOf binds m x=m x
 |[],_,_=>rfl
 |(n,v)::r,m,h=>by
  unfold bindL;rw[QhX λw hw=>h w (QK _ hw)];split
  ·have:x≠n:=by rintro rfl;exact h v Jz
   simp[this]
  ·rfl
theorem QhZ{kindOf:Str->Option QaY}{x:Str}:∀{binds:List (Str×Value)}{m:Str->Option Value},(∀v,(x,v)∉binds)->bindC kindOf binds m x=m x
 |[],_,_=>rfl
 |(n,v)::r,m,h=>by
  unfold bindC;rw[QhZ λw hw=>h w (QK _ hw)];split
  ·rfl
  ·have:x≠n:=by rintro rfl;exact h v Jz
   simp[this]
theorem QhY{kindOf:Str->Option QaY}{x:Str}{v:Value}:∀{P:List Str}{vs:List Value}{i:Nat}{m:Str->Option Value},P.Nodup->P[i]? = some x->vs[i]? = some v->kindOf x=some .local ->
  bindL kindOf (P.zip vs) m x=some v
 |[],_,_,_,_,h,_,_=>by simp at h
 |_::_,[],_,_,_,_,h,_=>by simp at h
 |p::P,w::vs,0,m,nd,h1,h2,hk=>by
  simp at h1 h2;subst h1;subst h2;show bindL kindOf ((p,w)::P.zip vs) m p=_;unfold bindL;rw[QhX λv hv=>(Z8.mp nd).1 (QgM hv).1,if_pos hk];simp
 |p::P,w::vs,i+1,m,nd,h1,h2,hk=>by
  show bindL kindOf ((p,w)::P.zip vs) m x=_;unfold bindL;exact QhY (i:=i) (Z8.mp nd).2 (by simpa using h1) (by simpa using h2) hk
theorem Qh0{kindOf:Str->Option QaY}{x:Str}{v:Value}:∀{P:List Str}{vs:List Value}{i:Nat}{m:Str->Option Value},P.Nodup->P[i]? = some x->vs[i]? = some v->kindOf x≠some .local ->
  bindC kindOf (P.zip vs) m x=some v
 |[],_,_,_,_,h,_,_=>by simp at h
 |_::_,[],_,_,_,_,h,_=>by simp at h
 |p::P,w::vs,0,m,nd,h1,h2,hk=>by
  simp at h1 h2;subst h1;subst h2;show bindC kindOf ((p,w)::P.zip vs) m p=_;unfold bindC;rw[QhZ λv hv=>(Z8.mp nd).1 (QgM hv).1,if_neg hk];simp
 |p::P,w::vs,i+1,m,nd,h1,h2,hk=>by
  show bindC kindOf ((p,w)::P.zip vs) m x=_;unfold bindC;exact Qh0 (i:=i) (Z8.mp nd).2 (by simpa using h1) (by simpa using h2) hk
def start(N:List Str)(vs:List V):St:=vs.map some++JC (N.length - vs.length) none
def QnU(CX:CXT)(P:QB)(w:Q8)(K:PySem.W.Frag)(mg:Str->Option Value)(base:Heap)(N:List Str)(qual:Str)(scope:Yk)(f:Addr)(cd:Value)(A:Q2)(outer:List Env)(s:Shared)(H:Hp)(E:XK):Cx where
 prog:=P
 w:=w
 K:=K
 mg:=mg
 base:=base
 A:=A.deeper (envOfC qual scope s.heap.objs.size f cd)
 N:=N
 s₀:=s
 H₀:=H
 env:=envOfC qual scope s.heap.objs.size f cd
 outer:=outer
 stack:=envOfC qual scope s.heap.objs.size f cd::outer
 ex:=[]
 calm:=true
 fn:=λ_=>true
 pn:=[]
 xe:=λe s'=>wpAny (model P w) (A.deeper (envOfC qual scope s.heap.objs.size f cd)) (leaving (envOfC qual scope s.heap.objs.size f cd) e) (λ_ s''=>CX outer H s E e s'') (λe' s''=>CX outer H s E e' s'') s'
theorem Qkd{sc:Yk}{n:Nat}{x:Str}(h:sc.names.lookup x=some .cell):∃c,(cellsFrom n sc.names []).lookup x=some c:=by
 have q:=PySem.W.cellsFrom_some sc.names n [] (.inl h);exact Qg1.mp q
theorem QmF{CX:CXT}{P:QB}{w:Q8}{K:PySem.W.Frag}{mg:Str->Option Value}{base:Heap}{N ps:List Str}{qual:Str}{scope:Yk}{f:Addr}{cd:Value}{A:Q2}{outer:List Env}{s s1:Shared}{H:Hp}{E:XK}{us:List Value}{vs:List V}
  (S:J3 N ps scope)(hd:A.handled=none)(e0:Env0 P w K mg base A outer s H)(hl:vs.length=ps.length)(r:Vals vs us)
  (x:InCallC s s.heap.objs.size (bindL (envOfC qual scope s.heap.objs.size f cd).kindOf (ps.zip us) λ_=>none) (cellsFrom (s.heap.objs.size+1) scope.names []) (bindC (envOfC qual scope s.heap.objs.size f cd).kindOf (ps.zip us) λ_=>none) s1) :
  Inv (QnU CX P w K mg base N qual scope f cd A outer s H E) [] (start N vs) H s1:=by
 have hpl:ps.length<=N.length:=by have:=congrArg QgO S.pre;rw[Jl] at this;omega
 obtain⟨h1,tk,rfl,hk⟩:=x.done;have noA:∀b:Addr,b∉(QnU CX P w K mg base N qual scope f cd A outer s H E).ex:=λb z=>absurd (show b∈([]:List Addr) from z) (by simp)
 refine⟨⟨e0.mod,S.kind,rfl,rfl,Qg _,λy z c h1 h2=>?_,λy hy=>?_,λy c _ h=>?_,λ_=>hd,Around.frames_deeper e0.frames,.inr ⟨rfl,rfl⟩,λb z=>absurd z (noA b),e0.bs,e0.bsz,λb _ _=>noA b,λb z=>absurd z (noA b),e0.funs,e0.frf⟩,
  rfl,e0.bare,Un.kept hk,⟨_,x.toInCall.ns,λi y v h1 h2 h3=>?_⟩,λy c h=>⟨_,x.cell y c h⟩,e0.hok.fresh (Qg _),λy c h=>?_,λp hp=>absurd (show p∈([]:List (Addr×Obj)) from hp) (by simp),e0.hok.kept hk,?_⟩
 ·exact name_of_addr x.apart (PySem.mem_of_lookup h1) (PySem.mem_of_lookup h2)
 ·have hy:scope.names.lookup y=some .cell∨scope.names.lookup y=some .free:=hy;rcases hy with hy | hy
  ·exact Qkd hy
  ·exact absurd rfl (S.nofree _ (PySem.mem_of_lookup hy))
 ·exact Zz (x.above y c (PySem.mem_of_lookup h))
 ·have hi:i<vs.length:=by
   unfold start at h2;by_cases hi:i<vs.length
   ·exact hi
   ·rw[Jd (by simpa using hi)] at h2;rw[Qb2] at h2;split at h2<;>cases h2
  have ha:vs[i]? = some v:=by
   unfold start at h2;rw[Zp (by simpa using hi),Qy] at h2;cases e:vs[i]? with
   |none=>rw[e] at h2;cases h2
   |some a=>rw[e] at h2;cases h2;rfl
  obtain⟨u,hu,rv⟩:=r.get ha;have hp:ps[i]? = some y:=by
   rw[<- S.pre,Qil (by omega)];exact h1
  have ndP:ps.Nodup:=by rw[<- S.pre];exact S.nd.sublist (QpL _ _)
  refine⟨u,rv,?_⟩;rcases S.par y (QD hp) with k | k
  ·exact .inl ⟨k,QhY ndP hp hu k⟩
  ·obtain⟨c,e⟩:=Qkd (n:=s.heap.objs.size+1) k;refine .inr ⟨.inl k,c,e,?_⟩;have q:=x.cell y c e;rw[Qh0 ndP hp hu (by show scope.names.lookup y≠_;rw[k];decide)] at q;exact q
 ·exact e0.hok.fresh (Zz (x.above y c (PySem.mem_of_lookup h)))
 ·unfold start;show _=N.length;rw[Qv,Qf,QcJ];omega
theorem Qya{CX:CXT}{P:QB}{w:Q8}{K:PySem.W.Frag}{mg:Str->Option Value}{base:Heap}{k:Nat}{f:Addr}{name qual:Str}{params:Arguments}{body:List Y3}{scope:Yk}{dV kV doc pm cdv ct oc:Value}{an od:Option Addr}
  {osl:Array (Option Value)} {N ps:List Str} {sp:Sp} (lk:K.lookup f=some ⟨oc,od,.func (PySem.W.fnOf name qual params body scope dV kV doc pm an cdv ct),osl⟩) (hcd:PySem.W.codeIn K cdv qual=true) (S:J3 N ps scope)
  (len:∀vs H Q E,sp vs H Q E->vs.length=ps.length)
  (hbody:∀(A:Q2)(outer:List Env)(s:Shared)(H:Hp)(vs:List V)(Q:VK)(E:XK),Room k (A.deeper (envOfC qual scope s.heap.objs.size f cdv))->sp vs H Q E ->
   ∃t,PSs (QnU CX P w K mg base N qual scope f cdv A outer s H E) body t/\t { nx:=λ_ H'=>Q .non H',rt:=Q } (start N vs) H) :
  FnOk P w K mg base CX (k+1) f (PySem.W.fnOf name qual params body scope dV kV doc pm an cdv ct) ps sp:=by
 refine⟨len,λA outer s H args us vs Q E hr e0 hb r hsp=>?_⟩;have hl:=len _ _ _ _ hsp;have KX:K.In s.heap:=e0.mod.kin.keeps λb o e=>(e0.bs b o e).1
 have lim:s.heap.NoLimit:=e0.mod.nolimit.keeps λb o e=>(e0.bs b o e).1
 have hkind:∀y∈ps.zip us,scope.names.lookup y.1=some .local∨(scope.names.lookup y.1=some .cell/\((cellsFrom (s.heap.objs.size+1) scope.names []).lookup y.1).isSome=true):=λ⟨n,v⟩ hy=>by
  rcases S.par n (QgM hy).1 with q | q
  ·exact .inl q
  ·exact .inr ⟨q,PySem.W.cellsFrom_some _ _ _ (.inl q)⟩
 refine codeAny_call_function hr.depth (KX _ _ lk) rfl S.co S.gen rfl (PySem.W.codeRec_of KX hcd) (hb _ _ _ _ ?_);refine wpAny_newFunctionEnv_cells S.kind hkind λenv he s1 x=>?_
 subst he;refine⟨lim.keeps x.toInCall.keep,codeAny_func ?_⟩;obtain⟨t,ht,hq⟩:=hbody A outer s H vs Q E (hr.deeper _) hsp;have I:Inv (QnU CX P w K mg base N qual scope f cdv A outer s H E) [] (start N vs) H s1:=QmF S hr.hd e0 hl r x;refine wpAny_mono (ht [] s1 (start N vs) H _ I hq) (λfl s' hs=>?_) λe s' hs=>hs
 have fin:∀{σ':St}{H':Hp}{v:V}{u:Value},Inv (QnU CX P w K mg base N qual scope f cdv A outer s H E) [] σ' H' s'->RelV v u->Q v H'->CE outer P w H s Q u s':=
  λ{σ' H' v u} J rv q=>⟨v,H',J.os,J.bare,J.base,J.hok,rv,q⟩
 cases fl with
 |ret u=>
  obtain⟨v,σ',H',J,rv,q⟩:=hs;exact fin J rv q
 |next=>
  obtain⟨σ',H',J,q⟩:=hs;exact fin (v:=V.non) (u:=JD) J rfl q
 |brk=>
  obtain⟨_,_,_,q⟩:=hs;exact Z3 q
 |cont=>
  obtain⟨_,_,_,q⟩:=hs;exact Z3 q
section
variable{X:Cx}{x:Str}{p pos:Pos}{e:QZ}{es:List QZ}{t:TA}{id T:String}{r:List V->Hp->VK->Prop}
def tCB(r:List V->Hp->VK->Prop)(t:TA):TE:=λσ H Q=>t σ H λvs H1=>r vs H1 Q
theorem Zo(hc:CallR X (.builtin id) r)(hg:Gl X x)(hm:X.mg x=none)(hv:bootBuiltins x=some (.builtin id))(ha:PA X (e::es) t)(hn:x ≠ "__name__" := by decide)(hdb:(x == ("__debug__" : Str))=false:=by decide)
  (he:starEach (e::es) X.env=(false,eval e X.env)::starEach es X.env:=by rfl)(hpl:(backTo pos (starEach es X.env)).any (·.1)=false:=by rfl):PE X (.Call (.Name x p) (e::es) [] pos) (tCB r t):=by
 intro pins s σ H Q I h;refine QfP (QeJ I hg hm hv ?_ hn hdb);exact PyProof.Rows.callWith_builtin1 (thn (ha pos pins s σ H _ I h) λus s1 ⟨vs,H1,I1,r1,q1⟩=>hc pins s1 σ H1 vs us Q I1 r1 q1) he hpl
theorem Qhq(hc:CallR X (.type T) r)(hg:Gl X x)(hm:X.mg x=none)(hv:bootBuiltins x=some (.type T))(ha:PA X (e::es) t)(hn:x ≠ "__name__" := by decide)(hdb:(x == ("__debug__" : Str))=false:=by decide)
  (he:starEach (e::es) X.env=(false,eval e X.env)::starEach es X.env:=by rfl)(hpl:(backTo pos (starEach es X.env)).any (·.1)=false:=by rfl):PE X (.Call (.Name x p) (e::es) [] pos) (tCB r t):=by
 intro pins s σ H Q I h;refine QfP (QeJ I hg hm hv ?_ hn hdb);exact ZC (thn (ha pos pins s σ H _ I h) λus s1 ⟨vs,H1,I1,r1,q1⟩=>hc pins s1 σ H1 vs us Q I1 r1 q1) he hpl
end
end L2
namespace HT
theorem Qov(A:Q2)(s:Shared)(a:Int)(t:Tok)(c:Int)(u:Tok)(prog:QB)(w:Q8)(E:Value->Shared->Prop)(Q:Value->Shared->Prop)(h:Q (.bool (decide (a<c))) s) :
  wpAny (model prog w) A (richCompare .Lt (.int a t) (.int c u)) Q E s:=
 (PyProof.Rows.lt_int h:wpAny (model prog w) A (compareOp .Lt (.int a t) (.int c u)) Q E s)
section
open PySem.SeqAt
open PySem.AutoSeq1 (wpAny_loadPart')
open PySem.MeetsSeq PySem.MeetsSeq2 PySem.MeetsSeq3
end
section
variable{prog:QB}{w:Q8}{A:Q2}{E:Value->Shared->Prop}{s:Shared}
theorem QtS{t b:Addr}{vs ws:List Value}{Q:Value->Shared->Prop}(ht:IsTup s.heap t vs.toArray)(hb:IsTup s.heap b ws.toArray)(hv:vs≠[])
  (h1:ws=[]->Q (.ref t) s)(h2:ws≠[]->Q (.ref s.heap.objs.size) { s with heap:=s.heap.push { cls:=.type "tuple",data:=.seq (vs++ws).toArray } })
  (hsz:vs.length+ws.length<=sizeLine):wpAny (model prog w) A (binaryOp .Add (.ref t) (.ref b)) Q E s:=by
 obtain⟨⟨cls,dd,data,sl⟩,ho,hc,n,hd⟩:=id ht;obtain⟨⟨cls2,dd2,data2,sl2⟩,ho2,hc2,n2,hd2⟩:=id hb;simp only at hc hd hc2 hd2;subst hc hd hc2 hd2;have e:vs.toArray++ws.toArray=(vs++ws).toArray:=by simp
 by_cases hw:ws=[]
 ·exact QrT ⟨_,ho,rfl⟩ ⟨_,ho2,rfl⟩ Qig QnV PySem.F.slot_tuple_add PySem.F.entry_tuple_add (PySem.F.args_tuple_add_2 _ _)
   (tuple_addW1 t b vs.toArray ws.toArray n n2 dd dd2 sl sl2 (by simpa using hv) (by simp[hw])) ⟨ho,ho2,h1 hw⟩
 ·refine QrT ⟨_,ho,rfl⟩ ⟨_,ho2,rfl⟩ Qig QnV PySem.F.slot_tuple_add PySem.F.entry_tuple_add (PySem.F.args_tuple_add_2 _ _)
   (tuple_addW2 t b vs.toArray ws.toArray n n2 dd dd2 sl sl2 (by simpa using hv) (by simpa using hw) (by rw[Qp,Qp];exact hsz)) ⟨ho,ho2,?_⟩
  rw[e];exact h2 hw
def sIx(n d:Nat):Option Int->Nat
 |none=>d
 |some v=>if v<0 then(v+(n:Int)).toNat else min v.toNat n
theorem Qoq(n d:Nat):sIx n d none=d:=rfl
theorem Qsq(n d k:Nat):sIx n d (some (k:Int))=min k n:=by
 show(if(k:Int)<0 then((k:Int)+(n:Int)).toNat else min (k:Int).toNat n)=min k n;rw[if_neg (by omega),Yb]
theorem QuK(n d:Nat)(hd:d<=n)(o:Option Int):sIx n d o<=n:=by
 cases o with
 |none=>exact hd
 |some v=>
  show(if v<0 then(v+(n:Int)).toNat else min v.toNat n)<=n;by_cases hv:v<0
  ·rw[if_pos hv];omega
  ·rw[if_neg hv];exact QfT _ _
theorem Qnj(v:Int)(n d:Nat):(if v<0 then max (v+(n:Int)) 0 else min v (n:Int))=((sIx n d (some v):Nat):Int):=by
 show(if v<0 then max (v+(n:Int)) 0 else min v (n:Int))=(((if v<0 then(v+(n:Int)).toNat else min v.toNat n):Nat):Int);by_cases hv:v<0
 ·simp only[if_pos hv];omega
 ·simp only[if_neg hv];omega
theorem QkX(lo hi:Option Int)(n:Nat):QaL lo hi 1 (n:Int)=(((sIx n 0 lo:Nat):Int),((sIx n n hi:Nat):Int)):=by
 have h1:¬((1:Int)<0):=by omega
 unfold QaL;simp only[h1,if_false];refine Prod.ext ?_ ?_
 ·cases lo with
  |none=>rfl
  |some v=>exact Qnj v n 0
 ·cases hi with
  |none=>rfl
  |some v=>exact Qnj v n n
theorem QkA(i j:Nat):Yu (i:Int) (j:Int) 1=j - i:=by
 unfold Yu;have h1:(1:Int) > 0:=by omega
 simp only[h1,if_true,Int.ediv_one];split<;>omega
theorem Qfo{v:Value}{o:Option Int}{Q:Option Int->Shared->Prop}(p:Qib v o)(h:Q o s):wpAny (model prog w) A (Qxl v) Q E s:=by
 cases p with
 |none=>exact slicePart_none h
 |int i t=>exact slicePart_int h
theorem Qbw{sl:Addr}{vl vu:Value}{lo hi:Option Int}{n:Nat}{Q:Int×Int×Nat->Shared->Prop}(hs:s.heap.IsSliceOf sl vl vu .none)(pl:Qib vl lo)(pu:Qib vu hi)
  (h:Q (((sIx n 0 lo:Nat):Int),1,sIx n n hi - sIx n 0 lo) s):wpAny (model prog w) A (QdN (.ref sl) (pure (n:Int))) Q E s:=by
 obtain⟨os,hos,hcs,hds⟩:=id hs;unfold QdN Qxm;refine wpAny_bind (wpAny_bind (Zy hos hds (x:=vl) rfl (wpAny_bind (Zy hos hds (x:=vu) rfl (wpAny_bind (Zy hos hds (x:=.none) rfl (wpAny_pure ?_)))))));refine wpAny_bind (slicePart_none ?_);show wpAny _ _ (if((1:Int) == 0)=true then _ else _) _ _ s;rw[if_neg (by decide)];refine wpAny_bind (Qfo pl (wpAny_bind (Qfo pu (wpAny_bind (wpAny_pure ?_)))));show wpAny _ _ (match QaL lo hi 1 (n:Int) with | (lo,hi)=>pure (lo,(1:Int),Yu lo hi 1)) _ _ s;rw[QkX lo hi n];show wpAny _ _ (pure (((sIx n 0 lo:Nat):Int),(1:Int),Yu ((sIx n 0 lo:Nat):Int) ((sIx n n hi:Nat):Int) 1)) _ _ s;rw[QkA];exact wpAny_pure h
theorem QoB(xs:Array Value)(i k:Nat):((Qm k).filterMap λ(m:Nat)=>xs[((i:Int)+(m:Int)*1).toNat]?).toArray=((xs.toList.drop i).take k).toArray:=by
 have e:(λ(m:Nat)=>xs[((i:Int)+(m:Int)*1).toNat]?)=λm=>xs[i+m]? := by
  funext m
  have:((i:Int)+(m:Int)*1).toNat=i+m:=by omega
  rw[this]
 rw[e];have:=pick_run xs i k;rw[Qeb] at this;have e2:((λx=>xs[x]?)∘λx=>i+x)=λm=>xs[i+m]? := rfl
 rw[e2] at this;rw[this]
theorem QdF{t sl:Addr}{items:Array Value}{vl vu:Value}{lo hi:Option Int}{Q:Value->Shared->Prop}(ht:IsTup s.heap t items)(hs:s.heap.IsSliceOf sl vl vu .none)(pl:Qib vl lo)(pu:Qib vu hi)
  (hw:¬(sIx items.size 0 lo=0/\sIx items.size items.size hi=items.size))
  (h:Q (.ref s.heap.objs.size) { s with heap:=s.heap.push { cls:=.type "tuple",data:=.seq ((items.toList.drop (sIx items.size 0 lo)).take (sIx items.size items.size hi - sIx items.size 0 lo)).toArray } })
  (hsz:items.size<=sizeLine):wpAny (model prog w) A (getItem (.ref t) (.ref sl)) Q E s:=by
 have htake:sizeOk (.seq ((items.toList.drop (sIx items.size 0 lo)).take (sIx items.size items.size hi - sIx items.size 0 lo)).toArray):=by
  show((items.toList.drop (sIx items.size 0 lo)).take (sIx items.size items.size hi - sIx items.size 0 lo)).toArray.size<=sizeLine;rw[Qp,Jl,Qaa,Qe];omega
 have hj:sIx items.size items.size hi<=items.size:=QuK _ _ (Qg _) hi;obtain⟨os,hos,hcs,hds⟩:=id hs;have hTs:s.TypeIs (.ref sl) "slice" := ⟨os,hos,hcs⟩;unfold getItem
 try with_reducible refine JV ?_
 first | refine wpAny_bind (wpAny_pure ?_) | skip
 refine wpAny_bind (QwW ht.typeIs (by decide) ?_);refine wpAny_bind (J6 (name:=Qah "__getitem__") ht.typeIs JT
  (JO JT ht.typeIs Qub ?_ (QwA _ _)))
 show wpAny _ _ (QdM (.ref t) >>= _) _ _ s;refine wpAny_bind (tupleItemsOf_ ht ?_);refine wpAny_bind (Qb1 hTs ?_);rw[if_pos (by decide)];refine wpAny_bind (Qbw hs pl pu ?_);have hno:¬((((sIx items.size 0 lo:Nat):Int) == 0&&(1:Int) == 1&&(sIx items.size items.size hi - sIx items.size 0 lo) == items.size)=true):=by
  intro q;rw[JF,JF] at q;have q1:((sIx items.size 0 lo:Nat):Int)=0:=eq_of_beq q.1.1;have q2:sIx items.size items.size hi - sIx items.size 0 lo=items.size:=eq_of_beq q.2;exact hw ⟨by omega,by omega⟩
 show wpAny _ _ (if(((sIx items.size 0 lo:Nat):Int) == 0&&(1:Int) == 1&&(sIx items.size items.size hi - sIx items.size 0 lo) == items.size)=true then _ else _) _ _ s;rw[if_neg hno,QoB]
 first
  |exact wpAny_bind (m:=YG _) (JJ (wpAny_pure ⟨_,rfl,wpAny_pure h⟩) htake)
  |exact wpAny_bind (m:=YG _) (JJ (wpAny_bind (wpAny_pure (wpAny_pure ⟨_,rfl,wpAny_pure h⟩))) htake)
  |exact wpAny_bind (wpAny_bind (m:=YG _) (JJ (wpAny_pure (wpAny_pure ⟨_,rfl,wpAny_pure h⟩)) htake))
  |exact wpAny_bind (wpAny_bind (m:=YG _) (JJ (wpAny_pure ⟨_,rfl,wpAny_pure h⟩) htake))
end
end HT
namespace L2
abbrev TO:=St->Hp->(Option Int->Hp->Prop)->Prop
def PO(X:Cx)(e:Option QZ)(t:TO):Prop:=
 ∀(pins:List (Addr×Obj))(s:Shared)(σ:St)(H:Hp)(Q:Option Int->Hp->Prop),Inv X pins σ H s->t σ H Q ->
  wpAny (model X.prog X.w) X.A (evalPart e X.env) (λu s'=>∃o H',Inv X pins σ H' s'/\Qib u o/\Q o H') X.xe s
def Qse:TO:=λ_ H Q=>Q none H
def Qxp(t:TE):TO:=λσ H Q=>t σ H λx H1=>∃i,x=.int i/\Q (some i) H1
theorem intsAre_of{ns:List Int}:∀{us:List Value},Vals (ns.map V.int) us->IntsAre us ns:=by
 induction ns with
 |nil=>intro us r;rw[Qe7] at r;cases r;exact .nil
 |cons n ns ih=>
  intro us r;rw[Q7] at r;cases r with
  |cons r1 r2=>
   obtain⟨t,e⟩:=r1;subst e;exact .cons n t (ih r2)
section
variable{X:Cx}{e:QZ}{te:TE}{lo hi:Option QZ}{tl th:TO}{pos p2:Pos}
theorem QsB:PO X none Qse:=by
 intro pins s σ H Q I h;rw[evalPart_none];exact wpAny_pure ⟨none,H,I,.none,h⟩
theorem QsA(h:PE X e te):PO X (some e) (Qxp te):=by
 intro pins s σ H Q I hw;rw[evalPart_some];refine thn (h pins s σ H _ I hw) λu s1 ⟨x,H1,I1,r1,q1⟩=>?_
 obtain⟨i,rfl,q⟩:=q1;obtain⟨t,rfl⟩:=r1;exact⟨some i,H1,I1,.int i t,q⟩
def SlR(X:Cx)(r:V->Option Int->Option Int->Hp->VK->Prop):Prop:=
 ∀(pins:List (Addr×Obj))(s:Shared)(σ:St)(H:Hp)(x:V)(v vl vu:Value)(lo hi:Option Int)(sl:Addr)(Q:VK),Inv X pins σ H s->RelV x v->s.heap.IsSliceOf sl vl vu .none->Qib vl lo->Qib vu hi->r x lo hi H Q ->
  ∃T id,typeLookup (.type T) "__getitem__" = pure (some (.builtin id))/\s.TypeIs v T/\wpAny (model X.prog X.w) X.A (getItem v (.ref sl)) (EP X pins σ Q) X.xe s
theorem SlR.or{r r':V->Option Int->Option Int->Hp->VK->Prop}(h:SlR X r)(h':SlR X r'):SlR X (λx lo hi H Q=>r x lo hi H Q∨r' x lo hi H Q):=by
 intro pins s σ H x v vl vu lo hi sl Q I rx hs pl pu q;rcases q with q | q
 ·exact h pins s σ H x v vl vu lo hi sl Q I rx hs pl pu q
 ·exact h' pins s σ H x v vl vu lo hi sl Q I rx hs pl pu q
def tSl(r:V->Option Int->Option Int->Hp->VK->Prop)(te:TE)(tl th:TO):TE:=λσ H Q=>te σ H λx H1=>tl σ H1 λl H2=>th σ H2 λu H3=>r x l u H3 Q
theorem QoE{r:V->Option Int->Option Int->Hp->VK->Prop}(hr:SlR X r)(he:PE X e te)(hl:PO X lo tl)(hu:PO X hi th):PE X (.Subscript e (.Slice lo hi none p2) pos) (tSl r te tl th):=by
 intro pins s σ H Q I h;refine Subscript_ (thn (he pins s σ H _ I h) λv s1 ⟨x,H1,I1,r1,q1⟩=>?_);refine wpAny_Slice (thn (hl pins s1 σ H1 _ I1 q1) λvl s2 ⟨l,H2,I2,pl,q2⟩=>thn (hu pins s2 σ H2 _ I2 q2) λvu s3 ⟨u,H3,I3,pu,q3⟩=>?_);rw[evalPart_none];refine wpAny_pure ?_
 have I4:Inv X pins σ H3 { s3 with heap:=s3.heap.push { cls:=.type "slice",data:=.fields #[vl,vu,.none] } }:=I3.kept (t':=s3.toks) λb ob q=>Qc _ q
 obtain⟨T,id,hT,ht,hg⟩:=hr pins { s3 with heap:=s3.heap.push { cls:=.type "slice",data:=.fields #[vl,vu,.none] } } σ H3 x v vl vu l u s3.heap.objs.size Q I4 r1 (QwH ..) pl pu q3;show wpAny (model X.prog X.w) X.A (subscriptTail e (.Slice lo hi none p2) v (.ref s3.heap.objs.size)) (EP X pins σ Q) X.xe { s3 with heap:=s3.heap.push { cls:=.type "slice",data:=.fields #[vl,vu,.none] } };exact tail_any (ops:=[.ref s3.heap.objs.size,v]) ht hT hg (by with_unfolding_all rfl)
def Qk5(xs:List V)(lo hi:Option Int):List V:=(xs.drop (HT.sIx xs.length 0 lo)).take (HT.sIx xs.length xs.length hi - HT.sIx xs.length 0 lo)
theorem QeW(xs:List V)(lo hi:Option Int):(Qk5 xs lo hi).length<=xs.length:=by
 unfold Qk5;rw[Jl,Qaa];omega
def Qy8(K:PySem.W.Frag):V->Option Int->Option Int->Hp->VK->Prop:=λx lo hi H Q=>∃a xs,x=.ref a/\SqT K H a xs /\
 ¬(HT.sIx xs.length 0 lo=0/\HT.sIx xs.length xs.length hi=xs.length)/\∀p,H p=none->Q (.ref p) (upd H p (.tup (Qk5 xs lo hi)))
theorem QuA:SlR X (Qy8 X.K):=by
 intro pins s σ H x v vl vu lo hi sl Q I rx hs pl pu h;obtain⟨a,xs,rfl,hx,hw,q⟩:=h;cases rx;obtain⟨its,r,ht,hz⟩:=I.tuple hx;have hlen:its.toArray.size=xs.length:=by rw[Qp];exact r.length.symm
 refine⟨"tuple",_,JT.lookup,ht.typeIs,?_⟩;refine HT.QdF ht hs pl pu (by rw[hlen];exact hw) ?_ (by rw[hlen];exact hz)
 rw[hlen];refine⟨.ref s.heap.objs.size,_,I.laid (t':=s.toks) (o:=.tup (Qk5 xs lo hi)) (λb ob q=>Qc _ q) (Qg _) ?_,rfl,q _ (I.hok.fresh (Qg _))⟩;exact⟨Q4 (QeW xs lo hi) hz,_,(r.drop (HT.sIx xs.length 0 lo)).take (HT.sIx xs.length xs.length hi - HT.sIx xs.length 0 lo),Qr4 _ _⟩
def QxD(K:PySem.W.Frag):R2:=λx y H Q=>∃a b xs ys,x=.ref a/\y=.ref b/\SqT K H a xs/\SqT K H b ys/\xs≠[]/\xs.length+ys.length<=sizeLine /\
 (ys=[]->Q (.ref a) H)/\(ys≠[]->∀p,H p=none->Q (.ref p) (upd H p (.tup (xs++ys))))
theorem Vals.nil_iff{xs:List V}{us:List Value}(r:Vals xs us):us=[]↔xs=[]:=by
 cases r with
 |nil=>simp
 |cons _ _=>simp
theorem Qs2:OpR X (binaryOp .Add) (QxD X.K):=by
 intro pins s σ H x y v u Q I rx ry h;obtain⟨a,b,xs,ys,rfl,rfl,ha,hb,hx,hz,q1,q2⟩:=h;cases rx;cases ry;obtain⟨its,r1,p1,_⟩:=I.tuple ha;obtain⟨its2,r2,p2,_⟩:=I.tuple hb;refine HT.QtS p1 p2 (λz=>hx (r1.nil_iff.mp z)) (λz=>⟨.ref a,H,I,rfl,q1 (r2.nil_iff.mp z)⟩) (λz=>?_) (by rw[<- r1.length,<- r2.length];exact hz);refine⟨.ref s.heap.objs.size,_,I.laid (t':=s.toks) (o:=.tup (xs++ys)) (λb ob q=>Qc _ q) (Qg _) ?_,rfl,q2 (λw=>z (r2.nil_iff.mpr w)) _ (I.hok.fresh (Qg _))⟩;exact⟨by rw[Qv];exact hz,_,r1.append r2,Qr4 _ _⟩
end
def ixN(n:Nat)(i:Int):Option Nat:=if 0<=i then(if i<n then some i.toNat else none) else if -(n:Int)<=i then some (i+n).toNat else none
def atI{α:Type}(xs:List α)(i:Int):Option α:=(ixN xs.length i).bind λj=>xs[j]?
theorem QmD{n:Nat}{i:Int}{j:Nat}(h:ixN n i=some j):seqIndex? i n=some j/\j<n /\ -(n:Int)<=i/\i<n:=by
 unfold ixN at h;by_cases h0:0<=i
 ·rw[if_pos h0] at h;by_cases h1:i<n
  ·rw[if_pos h1] at h;have e:i.toNat=j:=Qw h;exact⟨by rw[Qt9 h0 h1,e],by omega,by omega,h1⟩
  ·rw[if_neg h1] at h;cases h
 ·rw[if_neg h0] at h;by_cases h1 : -(n:Int)<=i
  ·rw[if_pos h1] at h;have e:(i+n).toNat=j:=Qw h;exact⟨by rw[QrR (by omega) h1,e],by omega,h1,by omega⟩
  ·rw[if_neg h1] at h;cases h
theorem Qny{α:Type}{xs:List α}{i:Int}{v:α}(h:atI xs i=some v):∃j,seqIndex? i xs.length=some j/\xs[j]? = some v/\j<xs.length /\ -(xs.length:Int)<=i/\i<xs.length:=by
 unfold atI at h;cases e:ixN xs.length i with
 |none=>rw[e] at h;cases h
 |some j=>
  rw[e] at h;obtain⟨h1,h2,h3,h4⟩:=QmD e;exact⟨j,h1,h,h2,h3,h4⟩
theorem Qb0{α:Type}{xs:List α}{j:Nat}{v:α}(h:xs[j]? = some v):atI xs (j:Int)=some v:=by
 have hj:j<xs.length:=(QQ.mp h).1;have e:ixN xs.length (j:Int)=some j:=by
  unfold ixN;rw[if_pos (by omega),if_pos (by omega)];simp
 unfold atI;rw[e];exact h
theorem QpD{α:Type}(xs:List α)(v:α):atI (xs++[v]) (-1)=some v:=by
 have hl:(xs++[v]).length=xs.length+1:=by simp
 have e:ixN (xs++[v]).length (-1)=some xs.length:=by
  unfold ixN;rw[hl,if_neg (by decide),if_pos (by omega)]
  congr 1
  omega
 unfold atI;rw[e];show(xs++[v])[xs.length]? = some v;simp
def Qjj(b:QZ):Prop:=∀o i,subscripted b false o i=operate [o,i] (getItem o i)
def IxR(X:Cx)(r:R2):Prop:=
 ∀(value slice:QZ)(pins:List (Addr×Obj))(s:Shared)(σ:St)(H:Hp)(x y:V)(v u:Value)(Q:VK),Inv X pins σ H s->RelV x v->RelV y u->r x y H Q ->
  subscripted slice false v u=operate [v,u] (getItem v u)->wpAny (model X.prog X.w) X.A (subscriptTail value slice v u) (EP X pins σ Q) X.xe s
def MtR(X:Cx)(id:String)(r:V->List V->Hp->VK->Prop):Prop:=
 ∀(pins:List (Addr×Obj))(s:Shared)(σ:St)(H:Hp)(x:V)(xs:List V)(v:Value)(us:List Value)(Q:VK),Inv X pins σ H s->RelV x v->Vals xs us->r x xs H Q ->
  wpAny (model X.prog X.w) X.A (call (.builtin id) (v::us)) (EP X pins σ Q) X.xe s
section
variable{X:Cx}{a b:QZ}{ta tb:TE}{pos:Pos}
theorem IxR.or{r r':R2}(h:IxR X r)(h':IxR X r'):IxR X (λx y H Q=>r x y H Q∨r' x y H Q):=by
 intro value slice pins s σ H x y v u Q I rx ry q hs;rcases q with q | q
 ·exact h value slice pins s σ H x y v u Q I rx ry q hs
 ·exact h' value slice pins s σ H x y v u Q I rx ry q hs
theorem MtR.or{id:String}{r r':V->List V->Hp->VK->Prop}(h:MtR X id r)(h':MtR X id r'):MtR X id (λx xs H Q=>r x xs H Q∨r' x xs H Q):=by
 intro pins s σ H x xs v us Q I rx rs q;rcases q with q | q
 ·exact h pins s σ H x xs v us Q I rx rs q
 ·exact h' pins s σ H x xs v us Q I rx rs q
theorem QlY{r:R2}(hr:IxR X r)(ha:PE X a ta)(hb:PE X b tb)(hs:Qjj b):PE X (.Subscript a b pos) (tOp r ta tb):=by
 intro pins s σ H Q I h;exact Subscript_ (Qyh ha hb I h λv u s2 x y H2 I2 rx ry q=>hr a b pins s2 σ H2 x y v u Q I2 rx ry q (hs _ _))
def Qyu(K:PySem.W.Frag):R2:=λx y H Q=>∃p xs i v,x=.ref p/\y=.int i/\SqL K H p xs/\atI xs i=some v/\Q v H
def QxB(K:PySem.W.Frag):R2:=λx y H Q=>∃p xs i v,x=.ref p/\y=.int i/\SqT K H p xs/\atI xs i=some v/\Q v H
theorem Qgp:IxR X (Qyu X.K):=by
 intro value slice pins s σ H x y v u Q I rx ry h hs;obtain⟨p,xs,i,z,rfl,rfl,hq,he,q⟩:=h;cases rx;obtain⟨t,rfl⟩:=ry;obtain⟨its,r,pl,hz⟩:=I.list hq;obtain⟨j,h1,h2,h3,h4,h5⟩:=Qny he;obtain⟨w,ew,rw'⟩:=r.get h2;have hl:=r.length;have hn:=QjO;have fin:EP X pins σ Q w s:=⟨z,H,I,rw',q⟩;by_cases h0:0<=i
 ·have hj:i.toNat=j:=by
   rw[Qt9 h0 h5] at h1;exact Qw h1
  exact item_listR pl.isList h0 (by omega) (by rw[hj];simpa using ew) fin hs
 ·have hj:(i+(its.toArray.size:Int)).toNat=j:=by
   rw[QrR (by omega) h4] at h1;rw[Qp,<- hl];exact Qw h1
  exact QpG (x:=w) pl.isList.typeIs Qw2.lookup
   (wpAny_getItem_list_neg (Q:=λr s'=>r=w/\EP X pins σ Q r s') pl.isList (by omega) (by rw[Qp]<;>omega) (by omega) (by rw[hj];simpa using ew) ⟨rfl,fin⟩) hs
theorem Qrs:IxR X (QxB X.K):=by
 intro value slice pins s σ H x y v u Q I rx ry h hs;obtain⟨p,xs,i,z,rfl,rfl,hq,he,q⟩:=h;cases rx;obtain⟨t,rfl⟩:=ry;obtain⟨its,r,pl,hz⟩:=I.tuple hq;obtain⟨j,h1,h2,h3,h4,h5⟩:=Qny he;obtain⟨w,ew,rw'⟩:=r.get h2;have hl:=r.length;have hn:=QjO;have fin:EP X pins σ Q w s:=⟨z,H,I,rw',q⟩;exact QpG (x:=w) pl.typeIs slot_tuple_getitem.lookup
  (getItem_tuple (j:=j) (Q:=λr s'=>r=w/\EP X pins σ Q r s') pl (by omega) (by omega) (by rw[Qp,<- hl];exact h1) (by simpa using ew) ⟨rfl,fin⟩) hs
theorem QkL(its:List Value)(n j:Nat)(u:Value):JU (·.setIfInBounds j u) { cls:=.type "list",data:=.seq its.toArray n }={ cls:=.type "list",data:=.seq (its.set j u).toArray n }:=by
 simp[JU]
theorem Inv.lst{pins:List (Addr×Obj)}{σ:St}{H:Hp}{s:Shared}{p:Addr}{xs:List V}(I:Inv X pins σ H s)(h:H p=some (.lst xs)) :
  ∃(its:List Value)(n:Nat),Vals xs its/\s.heap.get? p=some { cls:=.type "list",data:=.seq its.toArray n }/\xs.length<=sizeLine:=by
 obtain⟨z,its,n,r,e⟩:=I.hok p _ h;exact⟨its,n,r,e,z⟩
theorem Inv.lstUpd{pins:List (Addr×Obj)}{σ:St}{H:Hp}{s:Shared}{p:Addr}{xs ys:List V}{its its':List Value}{n n':Nat}{f:Obj->Obj}(I:Inv X pins σ H s)(h:H p=some (.lst xs))
  (ho:s.heap.get? p=some { cls:=.type "list",data:=.seq its.toArray n })(hf:f { cls:=.type "list",data:=.seq its.toArray n }={ cls:=.type "list",data:=.seq its'.toArray n' })(r:Vals ys its')(hz:ys.length<=sizeLine)(t:Nat) :
  Inv X pins σ (upd H p (.lst ys)) { s with heap:=s.heap.update p f,toks:=t }:=by
 have e:(s.heap.update p f).get? p=some { cls:=.type "list",data:=.seq its'.toArray n' }:=by
  rw[Zx f ho (by rw[hf]<;>rfl),hf]
 refine I.write (x:=p) (e:=p) (by rw[h];trivial) (.inl rfl) (λb u hb q=>(Yn _ _ (Qcn hb)).trans q) ⟨_,e⟩ ?_
 exact⟨hz,its',n',r,e⟩
def QxA:V->V->V->Hp->(Hp->Prop)->Prop:=λo i v H Q=>∃p xs k j,o=.ref p/\i=.int k/\H p=some (.lst xs)/\ixN xs.length k=some j/\Q (upd H p (.lst (xs.set j v)))
theorem Qoh:QyV X QxA:=by
 intro pins s σ H o i v ov iv u Q I ro ri rv h;obtain⟨p,xs,k,j,rfl,rfl,hp,hj,q⟩:=h;cases ro;obtain⟨t,rfl⟩:=ri;obtain⟨its,n,r,ho,hz⟩:=I.lst hp;obtain⟨h1,h2,h3,h4⟩:=QmD hj;have hl:=r.length;have hn:=QjO;have I':Inv X pins σ (upd H p (.lst (xs.set j v))) { s with heap:=s.heap.update p (JU (·.setIfInBounds j u)) }:=
  I.lstUpd hp ho (QkL its n j u) (r.set rv j) (by rw[Z9];exact hz) s.toks
 by_cases h0:0<=k
 ·have hk:k.toNat=j:=by
   rw[Qt9 h0 h4] at h1;exact Qw h1
  exact PySem.W.ki_setAt ho h0 (by omega) (by rw[Qp,<- hl];exact h4) (by rw[hk];exact⟨_,I',q⟩)
 ·have hk:(k+(its.toArray.size:Int)).toNat=j:=by
   rw[QrR (by omega) h3] at h1;rw[Qp,<- hl];exact Qw h1
  exact PySem.W.ki_setBack ho (by omega) (by rw[Qp,<- hl];exact h3) (by omega) (by rw[hk];exact⟨_,I',q⟩)
theorem Qhf(lo hi:Option Int)(n:Nat):(sliceBounds lo hi none n).1=((HT.sIx n 0 lo:Nat):Int)/\(sliceBounds lo hi none n).2.1=((HT.sIx n n hi:Nat):Int)/\(sliceBounds lo hi none n).2.2=1:=by
 refine⟨?_,?_,rfl⟩
 ·cases lo with
  |none=>simp[sliceBounds,HT.sIx]
  |some i=>
   simp only[sliceBounds,HT.sIx,QnY,show(1:Int) > 0 by decide,if_true];by_cases h:i<0
   ·simp only[h,if_true]<;>omega
   ·simp only[h,if_false]<;>omega
 ·cases hi with
  |none=>simp[sliceBounds,HT.sIx]
  |some i=>
   simp only[sliceBounds,HT.sIx,QnY,show(1:Int) > 0 by decide,if_true];by_cases h:i<0
   ·simp only[h,if_true]<;>omega
   ·simp only[h,if_false]<;>omega
theorem Qf3(its:List Value)(lo hi:Option Int):slicePick its.toArray lo hi none=((its.drop (HT.sIx its.length 0 lo)).take (HT.sIx its.length its.length hi - HT.sIx its.length 0 lo)).toArray:=by
 obtain⟨h1,h2,h3⟩:=Qhf lo hi its.toArray.size;unfold slicePick;rw[h1,h2,h3];simp only[sliceRange_one,pick_run,Qp]<;>rfl
def Qy9(K:PySem.W.Frag):V->Option Int->Option Int->Hp->VK->Prop:=λx lo hi H Q=>∃a xs,x=.ref a/\SqL K H a xs/\∀p,H p=none->Q (.ref p) (upd H p (.lst (Qk5 xs lo hi)))
theorem Qsh:SlR X (Qy9 X.K):=by
 intro pins s σ H x v vl vu lo hi sl Q I rx hs pl pu h;obtain⟨a,xs,rfl,hx,q⟩:=h;cases rx;obtain⟨its,r,ht,hz⟩:=I.list hx;have hlen:=r.length;refine⟨"list",_,Qw2.lookup,ht.isList.typeIs,?_⟩;refine wpAny_getItem_list_slice ht.isList hs pl pu .none (by simp) ?_ (by rw[Qp]<;>omega)
 rw[Qf3,<- hlen];refine⟨.ref s.heap.objs.size,_,I.laid (t':=s.toks) (o:=.lst (Qk5 xs lo hi)) (λb ob q=>Qc _ q) (Qg _) ?_,rfl,q _ (I.hok.fresh (Qg _))⟩;exact⟨Q4 (QeW xs lo hi) hz,_,0,(r.drop (HT.sIx xs.length 0 lo)).take (HT.sIx xs.length xs.length hi - HT.sIx xs.length 0 lo),Qu _ rfl⟩
def Qgu:V->Bool
 |.non=>true
 |.bl _=>true
 |.int _=>true
 |.str _=>true
 |_=>false
def eqV:V->V->Bool
 |.non,.non=>true
 |.bl a,.bl b=>a == b
 |.bl a,.int b=>(if a then 1 else 0) == b
 |.int a,.bl b=>a == (if b then 1 else 0)
 |.int a,.int b=>a == b
 |.str a,.str b=>a == b
 |_,_=>false
theorem Qv5{A:Q2}{s:Shared}{y x:V}{u v:Value}(ry:RelV y u)(rx:RelV x v)(fy:Qgu y=true)(fx:Qgu x=true):QnW A s u v (eqV y x):=by
 cases y with
 |non=>
  cases ry;cases x with
  |non=>cases rx;exact SeqAt.EqAt.same _
  |bl b=>cases rx;exact SeqAt.EqAt.none_bool b
  |int b=>obtain⟨t,rfl⟩:=rx;exact SeqAt.EqAt.none_int b t
  |str b=>obtain⟨t,rfl⟩:=rx;exact SeqAt.EqAt.none_str b t
  |_=>exact absurd (show false=true from fx) Qx
 |bl a=>
  cases ry;cases x with
  |non=>cases rx;exact SeqAt.EqAt.bool_none a
  |bl b=>cases rx;exact SeqAt.EqAt.bool_bool a b
  |int b=>obtain⟨t,rfl⟩:=rx;exact SeqAt.EqAt.bool_int a b t
  |str b=>obtain⟨t,rfl⟩:=rx;exact SeqAt.EqAt.bool_str a b t
  |_=>exact absurd (show false=true from fx) Qx
 |int a=>
  obtain⟨t',rfl⟩:=ry;cases x with
  |non=>cases rx;exact SeqAt.EqAt.int_none a t'
  |bl b=>cases rx;exact SeqAt.EqAt.int_bool a t' b
  |int b=>obtain⟨t,rfl⟩:=rx;exact SeqAt.EqAt.int_int a t' b t
  |str b=>obtain⟨t,rfl⟩:=rx;exact Qii a t' b t
  |_=>exact absurd (show false=true from fx) Qx
 |str a=>
  obtain⟨t',rfl⟩:=ry;cases x with
  |non=>cases rx;exact SeqAt.EqAt.str_none a t'
  |bl b=>cases rx;exact SeqAt.EqAt.str_bool a t' b
  |int b=>obtain⟨t,rfl⟩:=rx;exact Qih a t' b t
  |str b=>obtain⟨t,rfl⟩:=rx;exact SeqAt.EqAt.str_str a t' b t
  |_=>exact absurd (show false=true from fx) Qx
 |_=>exact absurd (show false=true from fy) Qx
def eqU(x:V)(u:Value):Bool:=match u with
 |.none=>eqV .non x
 |.bool b=>eqV (.bl b) x
 |.int i _=>eqV (.int i) x
 |.str z _=>eqV (.str z) x
 |_=>false
theorem QrA{x y:V}{u:Value}(r:RelV y u)(f:Qgu y=true):eqU x u=eqV y x:=by
 cases y with
 |non=>cases r;rfl
 |bl b=>cases r;rfl
 |int i=>obtain⟨t,rfl⟩:=r;rfl
 |str z=>obtain⟨t,rfl⟩:=r;rfl
 |_=>exact absurd (show false=true from f) Qx
theorem Qjh{x:V}:∀{xs:List V}{us:List Value},Vals xs us->xs.all Qgu=true->us.any (eqU x)=xs.any λy=>eqV y x
 |_,_,.nil,_=>rfl
 |y::xs,u::us,.cons r t,f=>by
  rw[QwG,JF] at f;rw[Qb5,Qb5,QrA r f.1,Qjh t f.2]
theorem Qgk{A:Q2}{s:Shared}{x:V}{v:Value}(rx:RelV x v)(fx:Qgu x=true):∀{xs:List V}{us:List Value},Vals xs us->xs.all Qgu=true->∀u∈us,QnW A s u v (eqU x u)
 |_,_,.nil,_=>λu hu=>by cases hu
 |y::xs,u::us,.cons r t,f=>λu' hu=>by
  rw[QwG,JF] at f;rcases Qs.mp hu with rfl | hu
  ·rw[QrA r f.1];exact Qv5 r rx f.1 fx
  ·exact Qgk rx fx t f.2 u' hu
def inV(x:V)(xs:List V):Bool:=xs.any λy=>eqV y x
def rIn(K:PySem.W.Frag)(neg:Bool):R2:=λx y H Q=>∃p xs,y=.ref p/\(SqL K H p xs∨SqT K H p xs)/\Qgu x=true/\xs.all Qgu=true/\Q (.bl (if neg then !inV x xs else inV x xs)) H
theorem Qhu:OpR X (compareOp .NotIn) (rIn X.K true):=by
 intro pins s σ H x y v u Q I rx ry h;obtain⟨p,xs,rfl,hq,fx,fs,q⟩:=h;cases ry;rcases hq with hq | hq
 ·obtain⟨its,r,pl,hz⟩:=I.list hq;refine QnK (eqU x) pl.isList (λw hw=>Qgk rx fx r fs w (by simpa using hw)) ⟨.bl _,H,I,rfl,?_⟩;rw[show its.toArray.any (eqU x)=its.any (eqU x) by simp,Qjh r fs];exact q
 ·obtain⟨its,r,pl,hz⟩:=I.tuple hq;refine Qk9 (eqU x) pl (λw hw=>Qgk rx fx r fs w (by simpa using hw)) ⟨.bl _,H,I,rfl,?_⟩;rw[show its.toArray.any (eqU x)=its.any (eqU x) by simp,Qjh r fs];exact q
theorem Y2:CallR X (.builtin "len") (λxs H Q=>∃p ys,xs=[.ref p]/\(SqL X.K H p ys∨SqT X.K H p ys)/\Q (.int ys.length) H):=by
 intro pins s σ H xs us Q I r h;obtain⟨p,ys,rfl,hq,q⟩:=h;obtain⟨u,rfl,rx⟩:=vals1 r;cases rx;have hn:=QjO;rcases hq with hq | hq
 ·obtain⟨its,r',pl,hz⟩:=I.list hq;have hlen:=r'.length;exact Calls.call_len_list pl.isList (by simp only[Qp]<;>omega) ⟨.int ys.length,H,I.tok _,⟨s.toks+1,by rw[Qp,hlen]⟩,q⟩
 ·obtain⟨its,r',pl,hz⟩:=I.tuple hq;have hlen:=r'.length;exact len_tuple pl (by simp only[Qp]<;>omega) ⟨.int ys.length,H,I.tok _,⟨s.toks+1,by rw[Qp,hlen]⟩,q⟩
theorem CallR.or{f:Value}{r r':List V->Hp->VK->Prop}(h:CallR X f r)(h':CallR X f r'):CallR X f (λxs H Q=>r xs H Q∨r' xs H Q):=by
 intro pins s σ H xs us Q I rs q;rcases q with q | q
 ·exact h pins s σ H xs us Q I rs q
 ·exact h' pins s σ H xs us Q I rs q
theorem QhT:CallR X (.type "list") (λxs H Q=>∃p ys,xs=[.ref p]/\(SqL X.K H p ys∨SqT X.K H p ys)/\∀l,H l=none->Q (.ref l) (upd H l (.lst ys))):=by
 intro pins s σ H xs us Q I r h;obtain⟨p,ys,rfl,hq,q⟩:=h;obtain⟨u,rfl,rx⟩:=vals1 r;cases rx;have fin:∀(its:List Value),Vals ys its->ys.length<=sizeLine->∀(h':Heap)(c':Nat),(∀b o',s.heap.get? b=some o'->h'.get? b=some o') ->
   h'.get? s.heap.objs.size=some { cls:=.type "list",dict:=none,data:=.seq its.toArray c',slots:=#[] }->EP X pins σ Q (.ref s.heap.objs.size) { s with heap:=h' }:=λits r' hz h' c' kp e=>
  ⟨.ref s.heap.objs.size,_,I.laid (t':=s.toks) kp (Qg _) (show ObjOk X.prog X.w _ h' _ (.lst ys) from⟨hz,its,c',r',e⟩),rfl,q _ (I.hok.fresh (Qg _))⟩
 rcases hq with hq | hq
 ·obtain⟨its,r',pl,hz⟩:=I.list hq;have hlen:=r'.length;obtain⟨o,ho,hc,n,hd⟩:=pl.isList;exact call_list_seq p (.inl rfl) ho hc hd (λh' c' kp e=>fin its r' hz h' c' kp e) (by simp only[Qp]<;>omega)
 ·obtain⟨its,r',pl,hz⟩:=I.tuple hq;have hlen:=r'.length;obtain⟨o,ho,hc,n,hd⟩:=pl;exact call_list_seq p (.inr rfl) ho hc hd (λh' c' kp e=>fin its r' hz h' c' kp e) (by simp only[Qp]<;>omega)
theorem QgF:CallR X (.type "tuple") (λxs H Q=>∃p ys,xs=[.ref p]/\((SqL X.K H p ys/\∀l,H l=none->Q (.ref l) (upd H l (.tup ys)))∨(SqT X.K H p ys/\Q (.ref p) H))):=by
 intro pins s σ H xs us Q I r h;obtain⟨p,ys,rfl,h⟩:=h;obtain⟨u,rfl,rx⟩:=vals1 r;cases rx;rcases h with⟨hq,q⟩ | ⟨hq,q⟩
 ·obtain⟨its,r',pl,hz⟩:=I.list hq;have hlen:=r'.length;refine call_tuple_list pl.isList (λh' kp=>?_) (by simp only[Qp]<;>omega);have I1:Inv X pins σ H { s with heap:=h' }:=I.kept (t':=s.toks) kp;have I2:Inv X pins σ (upd H h'.objs.size (.tup ys)) { s with heap:=h'.push { cls:=.type "tuple",data:=.seq its.toArray } }:=
   I1.laid (t':=s.toks) (λb o e=>Qc _ e) (Qg _) (show ObjOk X.prog X.w _ _ _ (.tup ys) from⟨hz,its,r',Qr4 _ _⟩)
  exact⟨.ref h'.objs.size,_,I2,rfl,q _ (I1.hok.fresh (Qg _))⟩
 ·obtain⟨its,r',pl,hz⟩:=I.tuple hq;exact call_tuple_same pl ⟨.ref p,H,I,rfl,q⟩
def tyV(K:PySem.W.Frag)(T:String)(x:V)(H:Hp):Prop:=match x with
 |.str _=>T = "str"
 |.int _=>T = "int"
 |.ref p=>(T = "list" /\ ∃xs,SqL K H p xs)∨(T = "tuple" /\ ∃o,K.lookup p=some o/\o.cls=.type "tuple" /\ o.dict=none) ∨
   (T = "dict" /\ ((∃kvs,H p=some (.dK kvs))∨∃kvs,H p=some (.dT kvs)))∨(T = "set" /\ ∃S n,H p=some (.set S n))
 |_=>False
theorem Qup{pins:List (Addr×Obj)}{σ:St}{H:Hp}{s:Shared}{T:String}{x:V}{v:Value}(I:Inv X pins σ H s)(r:RelV x v)(ty:tyV X.K T x H) :
  s.TypeIs v T/\∀a,v=.ref a->∃ob,s.heap.get? a=some ob/\ob.dict=none:=by
 cases x with
 |str z=>
  obtain⟨t,rfl⟩:=r;cases(show T = "str" from ty);exact⟨typeIs_str s z t,λ_ e=>nomatch e⟩
 |int i=>
  obtain⟨t,rfl⟩:=r;cases(show T = "int" from ty);exact⟨Qw1 s i t,λ_ e=>nomatch e⟩
 |ref p=>
  cases r;rcases ty with⟨rfl,xs,hq⟩ | ⟨rfl,o,hk,hc,hd⟩ | ⟨rfl,hk⟩ | ⟨rfl,S,n,hk⟩
  ·obtain⟨its,_,pl,_⟩:=I.list hq;refine⟨pl.isList.typeIs,λa e=>?_⟩;cases e;obtain⟨o,n,e,c,hd,_⟩:=pl;exact⟨o,e,hd⟩
  ·refine⟨⟨o,I.kIn p o hk,hc⟩,λa e=>?_⟩;cases e;exact⟨o,I.kIn _ o hk,hd⟩
  ·have z:∃o,s.heap.get? p=some o/\o.ExactDict:=by
    rcases hk with⟨kvs,hk⟩ | ⟨kvs,hk⟩
    ·obtain⟨_,_,_,_,o,_,_,e,ex,_⟩:=I.hok p _ hk;exact⟨o,e,ex⟩
    ·obtain⟨_,_,_,_,o,_,_,e,ex,_⟩:=I.hok p _ hk;exact⟨o,e,ex⟩
   obtain⟨o,e,ex⟩:=z;refine⟨⟨o,e,ex.1⟩,λa e2=>?_⟩;cases e2;exact⟨o,e,ex.2.1⟩
  ·obtain⟨o,_,_,_,e,ex,_⟩:=I.hok p _ hk;refine⟨⟨o,e,ex.1⟩,λa e2=>?_⟩;cases e2;exact⟨o,e,ex.2.1⟩
 |_=>exact Z3 ty
def tBM(K:PySem.W.Frag)(T:String)(r:V->List V->Hp->VK->Prop)(to:TE)(t:TA):TE:=λσ H Q=>to σ H λx H1=>tyV K T x H1/\t σ H1 λxs H2=>r x xs H2 Q
variable{o e:QZ}{es:List QZ}{to:TE}{t:TA}{name:Str}{apos cpos:Pos}{T id:String}{r:V->List V->Hp->VK->Prop}
theorem Qu9(pa:PlainAttrs T)(slot:Slot T name id)(hty:typeOf (.builtin id)=pure (.type "method_descriptor"))(hm:MtR X id r)(ho:PE X o to)(ha:PA X (e::es) t)
  (hbase:attributeBase o name X.env (eval o X.env)=eval o X.env:=by rfl)
  (hfew:((backTo cpos (starEach (e::es) X.env)).all (λx => !x.1)&&(backToKw cpos (keywordEach [] X.env)).all (λx=>x.1.isSome)
   && decide ((e::es).length+([]:List Quh).length+(if([]:List Quh).isEmpty then 0 else 1)<30))=true:=by rfl)
  (hline:(apos.endLine == cpos.line)=true:=by rfl) (hs:starEach (e::es) X.env=(false,eval e X.env)::starEach es X.env:=by rfl) (hplain:(backTo cpos (starEach es X.env)).any (·.1)=false:=by rfl) :
  PE X (.Call (.Attribute o name apos) (e::es) [] cpos) (tBM X.K T r to t):=by
 intro pins s σ H Q I h;refine wpAny_Call_method_late hbase hfew hline rfl (thn (ho pins s σ H _ I h) λv s1 ⟨x,H1,I1,r1,ty,q1⟩=>?_);obtain⟨h1,h2⟩:=Qup I1 r1 ty;refine⟨T,id,pa,slot,hty,h1,h2,?_⟩;have hA:=ha cpos pins s1 σ H1 _ I1 q1;rw[hs] at hA ⊢;refine Calls.callWith_builtin (by show(false||(backTo cpos (starEach es X.env)).any (·.1))=false;rw[hplain]<;>rfl) (Calls.evalArgs_plain ?_);exact thn hA λus s2 ⟨vs,H2,I2,r2,q2⟩=>hm pins s2 σ H2 x vs v us Q I2 r1 r2 q2
end
def MtM(X:Cx)(id:String)(r:V->List V->Hp->VK->Prop):Prop:=
 ∀(pins:List (Addr×Obj))(s:Shared)(σ:St)(H:Hp)(x:V)(xs:List V)(v:Value)(us:List Value)(Q:VK),Inv X pins σ H s->RelV x v->Vals xs us->r x xs H Q ->
  wpAny (model X.prog X.w) X.A (call (.builtin id) (v::us)) (EP X pins σ Q) X.xe s
theorem Vals.one:∀{x:V}{us:List Value},Vals [x] us->∃u,us=[u]/\RelV x u
 |_,_,.cons r .nil=>⟨_,rfl,r⟩
theorem Vals.zero:∀{us:List Value},Vals [] us->us=[]
 |_,.nil=>rfl
theorem Vals.reverse{xs:List V}{us:List Value}(h:Vals xs us):Vals xs.reverse us.reverse:=by
 induction h with
 |nil=>exact .nil
 |cons r t ih=>rw[QpM,QpM];exact Vals.append ih (.cons r .nil)
theorem Vals.rep{xs:List V}{us:List Value}(h:Vals xs us):∀k:Nat,Vals (JC k xs).flatten (JC k us).flatten
 |0=>.nil
 |k+1=>by
  rw[ZO,ZO,YO,YO];exact Vals.append h (Vals.rep h k)
theorem foldl_rep(its:List Value):∀(k:Nat)(acc:List Value),
  QpP (λx1 x2=>x1++x2) acc.toArray (JC k its.toArray)=(acc++(JC k its).flatten).toArray
 |0,acc=>by simp
 |k+1,acc=>by
  have e:acc.toArray++its.toArray=(acc++its).toArray:=by simp
  have e2:(acc++its)++(JC k its).flatten=acc++(JC (k+1) its).flatten:=by
   rw[ZO,YO,QR]
  rw[<- e2,<- foldl_rep its k (acc++its),<- e,ZO,QcL]
section
variable{X:Cx}{pins:List (Addr×Obj)}{σ:St}{H:Hp}{s:Shared}{l b:Addr}{xs ys zs:List V}
theorem Inv.lset{its its':List Value}{n:Nat}{f:Array Value->Array Value}{t':Nat}(I:Inv X pins σ H s)(hH:H l=some (.lst xs))
  (e:s.heap.get? l=some { cls:=.type "list",data:=.seq its.toArray n })(hf:f its.toArray=its'.toArray)(hv:Vals ys its')(hz:ys.length<=sizeLine) :
  Inv X pins σ (upd H l (.lst ys)) { s with heap:=s.heap.update l (JU f),toks:=t' }:=by
 have q:=PySem.IsL.update e f;rw[hf] at q;refine I.write (x:=l) (e:=l) (by rw[hH];exact trivial) (.inl rfl) (λb' u hb hu=>(Yn s.heap (JU f) (Qcn hb)).trans hu) ⟨_,q⟩ ?_
 exact⟨hz,its',_,hv,q⟩
theorem Inv.lnew{its:List Value}{t':Nat}(I:Inv X pins σ H s)(hv:Vals ys its)(hz:ys.length<=sizeLine) :
  Inv X pins σ (upd H s.heap.objs.size (.lst ys)) { s with heap:=s.heap.push { cls:=.type "list",data:=.seq its.toArray },toks:=t' }:=
 I.laid (λ_ _ q=>Qc _ q) (Qg _) ⟨hz,its,0,hv,Qu _ rfl⟩
theorem Inv.fresh(I:Inv X pins σ H s):H s.heap.objs.size=none:=I.hok.fresh (Qg _)
theorem Inv.lstM(I:Inv X pins σ H s)(hH:H l=some (.lst xs)):xs.length<=sizeLine/\∃(its:List Value)(n:Nat),Vals xs its/\xs.length=its.length/\s.heap.get? l=some { cls:=.type "list",data:=.seq its.toArray n }:=by
 obtain⟨z,its,n,r,e⟩:=I.hok l _ hH;exact⟨z,its,n,r,r.length,e⟩
theorem QjI{n:Nat}(h:n<=sizeLine):YJ n=false:=by
 unfold YJ;exact decide_eq_false (by omega)
end
section
variable{X:Cx}
def QlO:V->List V->Hp->VK->Prop:=λx vs H Q=>∃l xs y,x=.ref l/\vs=[y]/\H l=some (.lst xs)/\xs.length<sizeLine/\Q .non (upd H l (.lst (xs++[y])))
theorem QhB:MtM X "list.append" QlO:=by
 intro pins s σ H x vs v us Q I rx rv h;obtain⟨l,xs,y,rfl,rfl,hH,hz,q⟩:=h;cases rx;obtain⟨u,rfl,ru⟩:=rv.one;obtain⟨z,its,n,r,hl,e⟩:=I.lstM hH;refine QgU F.slot_list_append ⟨_,e,rfl⟩ F.entry_list_append (F.args_list_append_2 _ _) (PySem.list_append l its.toArray n u (by rw[Qp];omega)) ⟨e,?_⟩;refine⟨.non,_,I.lset (its':=its++[u]) hH e (by simp) (r.append (.cons ru .nil)) ?_,rfl,q⟩;rw[Qv,List.length_singleton];omega
def Qss:V->List V->Hp->VK->Prop:=λx vs H Q=>∃l b xs zs,x=.ref l/\vs=[.ref b]/\H l=some (.lst xs)/\H b=some (.lst zs)/\xs.length+zs.length<=sizeLine/\Q .non (upd H l (.lst (xs++zs)))
theorem Qmt:MtM X "list.extend" Qss:=by
 intro pins s σ H x vs v us Q I rx rv h;obtain⟨l,b,xs,zs,rfl,rfl,hH,hB,hz,q⟩:=h;cases rx;obtain⟨u,rfl,ru⟩:=rv.one;cases ru;obtain⟨z,its,n,r,hl,e⟩:=I.lstM hH;obtain⟨z2,its2,n2,r2,hl2,e2⟩:=I.lstM hB;have hsz:its.toArray.size+its2.toArray.size<=sizeLine:=by rw[Qp,Qp];omega
 have hlong:¬(!its.toArray.isEmpty&&YJ (its.toArray.size+its2.toArray.size))=true:=by
  rw[QjI hsz,Bool.and_false];exact Qx
 refine QgU F.slot_list_extend ⟨_,e,rfl⟩ F.entry_list_extend (F.args_list_extend_2 _ _)
  (AutoSeq1.list_extend_list_list_0 l its.toArray n b its2.toArray n2 hlong (by rw[Qp];omega) (by omega)) ⟨e,e2,?_⟩
 refine⟨.non,_,I.lset (its':=its++its2) hH e (by simp) (r.append r2) ?_,rfl,q⟩;rw[Qv];omega
def QyA:R2:=λx y H Q=>∃l b xs zs,x=.ref l/\y=.ref b/\H l=some (.lst xs)/\H b=some (.lst zs)/\xs.length+zs.length<=sizeLine/\∀p,H p=none->Q (.ref p) (upd H p (.lst (xs++zs)))
theorem Qvw:OpR X (binaryOp .Add) QyA:=by
 intro pins s σ H x y v u Q I rx ry h;obtain⟨l,b,xs,zs,rfl,rfl,hH,hB,hz,q⟩:=h;cases rx;cases ry;obtain⟨z,its,n,r,hl,e⟩:=I.lstM hH;obtain⟨z2,its2,n2,r2,hl2,e2⟩:=I.lstM hB;refine PySem.P.add_list e e2 ?_ (by rw[Qp,Qp];omega)
 have ea:its.toArray++its2.toArray=(its++its2).toArray:=by simp
 rw[ea];exact⟨.ref _,_,I.lnew (t':=s.toks) (r.append r2) (by rw[Qv];omega),rfl,q _ I.fresh⟩
def Qyr:R2:=λx y H Q=>∃l k xs,x=.ref l/\y=.int k/\H l=some (.lst xs) /\ -(2^63)<=k/\k<2^63/\xs.length*k.toNat<=sizeLine /\
 ∀p,H p=none->Q (.ref p) (upd H p (.lst (JC k.toNat xs).flatten))
theorem Qtm{α:Type}(xs:List α)(k:Nat):(JC k xs).flatten.length=k*xs.length:=by
 induction k with
 |zero=>simp
 |succ k ih=>rw[ZO,YO,Qv,ih,QcR,Nat.add_comm]
theorem Qvp:OpR X (binaryOp .Mult) Qyr:=by
 intro pins s σ H x y v u Q I rx ry h;obtain⟨l,k,xs,rfl,rfl,hH,h1,h2,hz,q⟩:=h;cases rx;obtain⟨t,rfl⟩:=ry;obtain⟨z,its,n,r,hl,e⟩:=I.lstM hH;have hlen:its.toArray.size*k.toNat<=sizeLine:=by rw[Qp,<- hl];exact hz
 have hcap:¬its.toArray.size*k.toNat > (2^63 - 1) / 8:=by
  have:(sizeLine:Nat)<=(2^63 - 1) / 8:=by decide
  omega
 have hfit:¬(!Builtin.List.listFitsIndex k)=true:=by
  rw[fitsIndex_both h1 h2];exact Qx
 have hlong:¬YJ (its.toArray.size*k.toNat)=true:=by
  rw[QjI hlen];exact Qx
 have hnew:QpP (λx1 x2=>x1++x2) #[] (JC (if its.toArray.isEmpty=true then 0 else k.toNat) its.toArray)=(JC k.toNat its).flatten.toArray:=by
  have f0:∀m:Nat,QpP (λx1 x2=>x1++x2) #[] (JC m its.toArray)=(JC m its).flatten.toArray:=λm=>by
   have:=foldl_rep its m [];rw[QcI] at this;exact this
  rw[f0];cases its with
  |nil=>simp
  |cons a r'=>rw[if_neg (by simp)]
 refine wpAny_binaryOp_repeat_ref (T := "list") (U := "int") (by decide) ⟨_,e,rfl⟩ (λs'=>Qw1 s' k t) noFill_list_mul F.fills_int_mul Qxg repeat_list F.slot_int_index.lookup
  (QgU Qxg (Qw1 s k t) F.entry_int_rmul (F.args_int_rmul_2 _ _) (int___rmul___int_list k t l its.toArray n)
   ⟨e,rfl,⟨_,e,rfl⟩,QgU F.slot_list_mul ⟨_,e,rfl⟩ F.entry_list_mul (F.args_list_mul_2 _ _) (AutoListH.list___mul___list_int_3 l its.toArray n k t hfit hcap hlong) ⟨e,?_⟩⟩)
 rw[hnew];exact⟨.ref _,_,I.lnew (t':=s.toks) (r.rep k.toNat) (by rw[Qtm,Nat.mul_comm];exact hz),rfl,q _ I.fresh⟩
end
section
variable{prog:QB}{w:Q8}{A:Q2}{E:Value->Shared->Prop}{s:Shared}
end
section
variable{X:Cx}
end
end L2
namespace Att
open PySem.W PySem.Calls
theorem QeN{P:Params}{h:Heap}:∀(ns:List Int)(vs:List Value),WellAll P h vs (ns.map WData.int)->IntsAre vs ns:=by
 intro ns;induction ns with
 |nil=>
  intro vs w;rw[Qe7] at w;cases w;exact .nil
 |cons n ns ih=>
  intro vs w;rw[Q7] at w;cases w with
  |cons a b=>
   cases a;exact .cons _ _ (ih _ b)
theorem Qlz{l:OpenLaw}{n:Nat}(hn:l.most=some n){P:Params}{h:Heap}{args:List WData}{vals:List Value}
  (hpre:l.row.toRowW.claim.pre args=true)(hwl:WellAll P h vals args) :
  ∃a vs ns,vals=[QL a]/\args=[WData.list (ns.map WData.int)]/\h.get? a=some { cls:=.type "list",data:=.seq vs.toArray }/\IntsAre vs ns/\ns.length<=n:=by
 have hsh:WShape.hasAll [] args [.list .int]=true:=(pre_splitW hpre).1;have hc:l.pre.holds [] { args:=args }=true:=(pre_splitW hpre).2;obtain⟨d,r,rfl,h1,h2⟩:=hasAllW_cons hsh;obtain rfl:=hasAllW_nil h2;obtain⟨xs,rfl,h3⟩:=hasW_list h1;obtain⟨ns,rfl⟩:=items_int h3;have hlen:ns.length<=n:=by
  unfold OpenLaw.pre at hc;have h4:(WTm.not (.lt (.lit (.int (n:Int))) (.len (.arg 0)))).holds [] { args:=[.list (ns.map .int)] }=true:=by
   have h4:=(holds_andW hc).1;rw[hn] at h4;exact h4
  have h5:=condW_of h4 (w_not (w_lt w_lit (w_len_list (w_arg rfl))));rw[Qf] at h5;refine Nat.le_of_not_lt λq=>?_
  have q':(n:Int)<((ns.length:Nat):Int):=by omega
  first
   |(rw[decide_eq_true q'] at h5;exact absurd h5 (by decide))
   |(simp at h5;omega)
 cases hwl with
 |cons w1 w2=>
  cases w2;cases w1 with
  |list ho hall=>exact⟨_,_,ns,rfl,rfl,ho,QeN ns _ hall,hlen⟩
theorem QlU(l:OpenLaw)(args:List WData):l.row.toRowW.claim.post args (.bool true) args=true:=
 postW_of (r:=l.row.toRowW) (X:=(true == true))
  (show Qw3 [] (.bool true) .bool=true by first | rfl | decide | simp[Qw3,WShape.arms,WShape.armsAll])
  (show(WTm.eq .res (.lit (.bool true))).value [] { args:=args,res:=some (.bool true),after:=args }=some (.bool (true == true)) from w_eq_bool (w_res rfl) w_lit) rfl
theorem Qjg{l:OpenLaw}{n:Nat}{q:QB}{loose:List Str}{XP:(Str->Option Value)->Heap->Prop}{YP:Q8->Heap->Prop}{d:DefRec}
  (hn:l.most=some n)(hdf:d.params.defaults=[])
  (call:∀(w:Q8)(s₀ s₁:Shared)(mg mb:Str->Option Value)(fa:Addr)(o:Obj)(pm cd doc:Value)(a:Addr)(vs:List Value)(ns:List Int),
   Ground q loose [] XP w s₀ mg mb s₁.heap->YP w s₁.heap ->
   s₁.heap.get? fa=some o->o.data=.func (docDef d.name d.params d.body d.scope pm cd doc)->s₁.heap.CodeRec cd d.name->mg d.name=some (.ref fa) ->
   s₁.heap.get? a=some { cls:=.type "list",data:=.seq vs.toArray }->IntsAre vs ns->ns.length<=n->s₁.gens=#[] ->
   codeAny (model l.prog w) callerA (.call (.ref fa) ⟨[.ref a],[]⟩) (λr s'=>r=.ok (.ret (.bool true))/\OldK s₁.heap s'.heap/\s'.os=s₁.os/\Qe9 s'.gens) s₁) :
  WalkO q loose XP YP l.row.toRowW d [] (λf vs=>PySem.call f vs):=by
 intro w s₀ s₁ mg mb G Y fa o pm cd doc dV kV ho hd hcd hD hmg hg args vals as hpre hlay hrd hwl hlo;obtain rfl:dV=.none:=Dflts.none hD hdf;obtain rfl:kV=.none:=Dflts.noKw hD;obtain⟨a,vs,ns,rfl,rfl,hobj,hints,hlen⟩:=Qlz hn hpre hwl;refine enter_call (Qa1 (call w s₀ s₁ mg mb fa o pm cd doc a vs ns G Y ho (fd_plain hd) hcd hmg hobj hints hlen hg) λr s' hq=>?_);obtain⟨rfl,h2,h3,h4⟩:=hq;exact⟨.inl ⟨.bool true,.bool true,[],rfl,λ_=>rfl,.bool true,QlU l _,λ_=>⟨Qxf,λ_ hm=>(nomatch hm)⟩⟩,h2,h3,h4⟩
section
variable{prog:QB}{w:Q8}{A:Q2}{E:Value->Shared->Prop}{s:Shared}{K:Frag}
end
end Att
namespace L2
theorem Qg8:∀{vs:List Value}{ns:List Int},IntsAre vs ns->Vals (ns.map V.int) vs
 |_,_,.nil=>.nil
 |_,_,.cons n t h=>.cons ⟨t,rfl⟩ (Qg8 h)
def Qyl(H:Hp):Prop:=∀b,H b=none∨∃o xs,H b=some (.frz o (.lst xs))
theorem Qpf{P:QB}{w:Q8}{K:PySem.W.Frag}{mg mb:Str->Option Value}{CX:CXT}{k:Nat}{fa a:Addr}{fd:Q1}{x:Str}{sp:Sp}{s₁:Shared}{vs:List Value}{ns:List Int}
  (KX:K.In s₁.heap)(hns:s₁.heap.Ns mainGlobals mg)(hb:s₁.heap.Ns builtinsNs mb)(hbb:∀x:Str,x ≠ "__name__" -> mb x=bootBuiltins x)(hlim:s₁.heap.NoLimit)(hg:s₁.gens=#[])
  (ha:s₁.heap.get? a=some { cls:=.type "list",data:=.seq vs.toArray })(hi:IntsAre vs ns)(hl:ns.length<=sizeLine)(hr:Room k callerA)
  (F:∀base:Heap,K.In base->base.Ns mainGlobals mg->FnOk P w K mg base CX k fa fd [x] sp)(hbind:∀(s:Shared)(u:Value),Qn3 s fd ⟨[u],[]⟩ [(x,u)])
  (hsp:∀H:Hp,Qyl H->SqL K H a (ns.map V.int)->sp [.ref a] H (λv _=>v=.bl true) λ_ _ _=>False)
  (hCX:∀H e s',CX [] H s₁ (λ_ _ _=>False) e s'->False) :
  codeAny (model P w) callerA (.call (.ref fa) ⟨[.ref a],[]⟩) (λr s'=>r=.ok (.ret (.bool true))/\OldK s₁.heap s'.heap/\s'.os=s₁.os/\Qe9 s'.gens) s₁:=by
 have rv:=Qg8 hi;have lenV:=hi.length;have core:∀H:Hp,Qyl H->SqL K H a (ns.map V.int)->HOk P w H s₁.heap->(∀b,H b≠none->b=a)->(H a≠none->K.lookup a=none) ->
   codeAny (model P w) callerA (.call (.ref fa) ⟨[.ref a],[]⟩) (λr s'=>r=.ok (.ret (.bool true))/\OldK s₁.heap s'.heap/\s'.os=s₁.os/\Qe9 s'.gens) s₁:=by
  intro H hO hS hok hA hK;have base_of:∀{b:Addr}{o:Obj},s₁.heap.get? b=some o->H b=none->(Qpk s₁.heap H).get? b=some o:=λe n=>Qpj e n
  have noA:∀{b:Addr}{o:Obj}{es:Array DictEntry}{ep:Nat},s₁.heap.get? b=some o->o.data=.dict es ep->H b=none:=λ{b o es ep} e d=>by
   cases q:H b with
   |none=>rfl
   |some u=>
    have e':b=a:=hA b (by rw[q];simp);subst e';rw[ha] at e;cases e;have d':Data.seq vs.toArray _=Data.dict es ep:=d;cases d'
  have nsK:∀{b:Addr}{m:Str->Option Value},s₁.heap.Ns b m->(Qpk s₁.heap H).Ns b m:=λ{b m} ⟨o,es,ep,e,d,r⟩=>⟨o,es,ep,base_of e (noA e d),d,r⟩
  have hKb:K.In (Qpk s₁.heap H):=λb o e=>base_of (KX b o e) (by
   cases q:H b with
   |none=>rfl
   |some u=>
    have e':b=a:=hA b (by rw[q];simp);subst e';rw[hK (by rw[q];simp)] at e;cases e)
  have hM:Mod K mg (Qpk s₁.heap H):=⟨hKb,nsK hns,⟨mb,nsK hb,hbb⟩,let ⟨mc,h1,h2⟩:=hlim;⟨mc,nsK h1,h2⟩⟩;have e0:Env0 P w K mg (Qpk s₁.heap H) callerA [] s₁ H:=⟨rfl,hM,λb o e=>Qs6 e,Nat.le_of_eq (QmK _ _),trivial,λb hb=>absurd (show b∈([]:List Addr) from hb) (by simp),hok,.of_eq hg⟩;refine Qa1 ((F _ hKb (nsK hns)).run callerA [] s₁ H ⟨[.ref a],[]⟩ [.ref a] [.ref a] _ _ hr e0 (hbind s₁ (.ref a)) (.cons rfl .nil) (hsp H hO hS)) λr s' h=>?_
  cases r with
  |error e=>exact(hCX H e s' h).elim
  |ok fl=>
   cases fl with
   |next=>exact Z3 h
   |brk=>exact Z3 h
   |cont=>exact Z3 h
   |ret u=>
    obtain⟨v,H',os,bare,un,hok',r',q⟩:=h;have q':v=.bl true:=q;subst q';obtain rfl:u=QbB true:=r';refine⟨rfl,OldK.of_keep λb o e=>?_,os,bare⟩;cases q:H b with
    |none=>exact un.keep b o e q (by intro z;exact absurd (show b∈([]:List Addr) from z) (by simp)) (by simp)
    |some u=>
     rcases hO b with z | ⟨ob,xs,z⟩
     ·rw[q] at z;cases z
     ·have z2:=un.frzs b ob _ z;obtain⟨e1,_⟩:=hok b _ z;obtain⟨e2,_⟩:=hok' b _ z2;rw[e] at e1;cases e1;exact e2
 cases hk:K.lookup a with
 |some o=>
  have e:=KX a o hk;rw[ha] at e;cases e;refine core (λ_=>none) (λ_=>.inl rfl) (.inr ⟨_,vs.toArray,_,hk,rfl,rfl,rfl,by rw[Qp,lenV];exact hl,by simpa using rv⟩) (λb u z=>by have z':(none:Option HO)=some u:=z;cases z') (λb z=>absurd rfl z) λz=>absurd rfl z
 |none=>
  refine core (λb=>if b=a then some (.frz { cls:=.type "list",data:=.seq vs.toArray } (.lst (ns.map V.int))) else none) (λb=>?_) (.inl (.inr ⟨{ cls:=.type "list",data:=.seq vs.toArray },if_pos rfl⟩)) (λb u z=>?_) (λb z=>?_) λ_=>hk
  ·by_cases hb:b=a
   ·exact .inr ⟨_,_,if_pos hb⟩
   ·exact .inl (if_neg hb)
  ·by_cases hb:b=a
   ·have z':=(if_pos hb).symm.trans z;cases z';subst hb;exact⟨ha,by rw[Qf];exact hl,vs,_,rv,ha⟩
   ·have z':=(if_neg hb).symm.trans z;cases z'
  ·by_cases hb:b=a
   ·exact hb
   ·exact absurd (if_neg hb) z
theorem Qsc{l:PySem.W.OpenLaw}{n k:Nat}{q:QB}{loose:List Str}{XP:(Str->Option Value)->Heap->Prop}{YP:Q8->Heap->Prop}{d:DefRec}{K:Params->PySem.W.Frag}{CX:Q8->CXT}{sp:Q8->Sp}{x:Str}
  (hn:l.most=some n)(hn2:n<=sizeLine)(hdf:d.params.defaults=[])(hr:Room k callerA)
  (hY:∀(w:Q8)(h:Heap),YP w h->(K w.params).In h)
  (F:∀(w:Q8)(mg:Str->Option Value)(fa:Addr)(h:Heap),(K w.params).In h->h.Ns mainGlobals mg->mg d.name=some (.ref fa) ->
   ∃fd:Q1,(∀(s:Shared)(u:Value),Qn3 s fd ⟨[u],[]⟩ [(x,u)]) /\
    ∀base:Heap,(K w.params).In base->base.Ns mainGlobals mg->FnOk l.prog w (K w.params) mg base (CX w) k fa fd [x] (sp w))
  (hsp:∀(w:Q8)(H:Hp)(a:Addr)(ns:List Int),ns.length<=n->Qyl H->SqL (K w.params) H a (ns.map V.int)->sp w [.ref a] H (λv _=>v=.bl true) λ_ _ _=>False)
  (hCX:∀(w:Q8)(H:Hp)(s:Shared)(e:Value)(s':Shared),CX w [] H s (λ_ _ _=>False) e s'->False) :
  PySem.W.WalkO q loose XP YP l.row.toRowW d [] (λf vs=>PySem.call f vs):=by
 refine Att.Qjg hn hdf λw s₀ s₁ mg mb fa o pm cd doc a vs ns G Y ho hd hcd hmg hobj hints hlen hg=>?_
 have KX:=hY w _ Y;obtain⟨fd,hb,hF⟩:=F w mg fa _ KX G.T.g hmg;exact Qpf KX G.T.g G.T.b G.T.builtins G.T.nolimit hg hobj hints (Q4 hlen hn2) hr hF hb (λH hO hS=>hsp w H a ns hlen hO hS) λH e s'=>hCX w H s₁ e s'
def Zg(s:Y3):Arguments:=match s with
 |.FunctionDef _ a _ _ _ _ _ _ _ _=>a
 |_=>{ posonlyargs:=[],args:=[],vararg:=none,kwonlyargs:=[],kw_defaults:=[],kwarg:=none,defaults:=[] }
def JW(s:Y3):List Y3:=match s with
 |.FunctionDef _ _ b _ _ _ _ _ _ _=>b
 |_=>[]
def QJ(s:Y3):Yk:=match s with
 |.FunctionDef _ _ _ _ _ _ sc _ _ _=>sc
 |_=>{ kind:=.function,names:=[],isGenerator:=false,isCoroutine:=false }
abbrev CX0:CXT:=λ_ _ _ _ _ _=>False
abbrev E0:XK:=λ_ _ _=>False
theorem QkB{X:Cx}:Qcu CX0 X E0:=λ_ _ _ _ _ _ _ h=>h.elim
structure Fun (K:PySem.W.Frag) (x qual:Str) (st:Y3) (f:Addr) (fd:Q1):Prop where
 ex:∃(oc:Value)(od:Option Addr)(kV doc pm:Value)(an:Option Addr)(cdv ct:Value)(osl:Array (Option Value)),
  fd=PySem.W.fnOf x qual (Zg st) (JW st) (QJ st) .none kV doc pm an cdv ct/\K.lookup f=some ⟨oc,od,.func fd,osl⟩/\PySem.W.codeIn K cdv qual=true
 kp:PySem.W.keepIn K (.ref f)=true
section
variable{P:QB}{w:Q8}{K:PySem.W.Frag}{mg:Str->Option Value}{base:Heap}
theorem Fun.ok{x qual:Str}{st:Y3}{f:Addr}{fd:Q1}{N ps:List Str}{k:Nat}{sp:Sp}(F:Fun K x qual st f fd)(S:J3 N ps (QJ st))(len:∀vs H Q E,sp vs H Q E->vs.length=ps.length)
  (hbody:∀(cdv:Value)(A:Q2)(outer:List Env)(s:Shared)(H:Hp)(vs:List V)(Q:VK)(E:XK),Room k (A.deeper (envOfC qual (QJ st) s.heap.objs.size f cdv))->sp vs H Q E ->
   ∃t,PSs (QnU CX0 P w K mg base N qual (QJ st) f cdv A outer s H E).nox (JW st) t/\t { nx:=λ_ H'=>Q .non H',rt:=Q } (start N vs) H):FnOk P w K mg base CX0 (k+1) f fd ps sp:=by
 obtain⟨oc,od,kV,doc,pm,an,cdv,ct,osl,rfl,lk,hcd⟩:=F.ex;refine Qya lk hcd S len λA outer s H vs Q E hr hsp=>?_
 obtain⟨t,h,q⟩:=hbody cdv A outer s H vs Q E hr hsp;exact⟨t,h.nox,q⟩
theorem Fun.binds{x qual:Str}{st:Y3}{f:Addr}{fd:Q1}{ps:List Str}(F:Fun K x qual st f fd)
  (h:∀(kV doc pm:Value)(an:Option Addr)(cdv ct:Value)(us:List Value),us.length=ps.length->bindArgs (PySem.W.fnOf x qual (Zg st) (JW st) (QJ st) .none kV doc pm an cdv ct) ⟨us,[]⟩=pure (ps.zip us)):Binds K fd ps []:=by
 obtain⟨oc,od,kV,doc,pm,an,cdv,ct,osl,rfl,lk,hcd⟩:=F.ex;exact .all (h kV doc pm an cdv ct)
theorem Yf{x qual:Str}{st:Y3}{f:Addr}{oc:Value}{od an:Option Addr}{osl:Array (Option Value)}{kV doc pm cdv ct:Value}(l:K.lookup f=some ⟨oc,od,.func (PySem.W.fnOf x qual (Zg st) (JW st) (QJ st) .none kV doc pm an cdv ct),osl⟩)
  (c:PySem.W.codeIn K cdv qual=true)(k:PySem.W.keepIn K (.ref f)=true):Fun K x qual st f (PySem.W.fnOf x qual (Zg st) (JW st) (QJ st) .none kV doc pm an cdv ct):=⟨⟨oc,od,kV,doc,pm,an,cdv,ct,osl,rfl,l,c⟩,k⟩
end
section
variable{X:Cx}
theorem pv(i:Nat){x:Str}{pos:Pos}(hN:X.N[i]? = some x:=by rfl)(hv:Vis X.env.scope x:=by first | exact Jw rfl | exact Ju (Jw rfl) | exact Ju (Ju rfl))(hd:(x == ("__debug__" : Str))=false:=by decide)
  (hcd:(x == ("__classdict__" : Str))=false:=by decide):PE X (.Name x pos) (Qfa i):=Qu8 hN hv hd hcd
end
theorem QdW{A B:Prop}(h:B):if false=true then A else B:=by
 rw[if_neg Qx];exact h
theorem QeM{A B:Prop}(h:A):if true=true then A else B:=by
 rw[if_pos rfl];exact h
theorem QyF{c A B:Prop}[Decidable c](h1:c->A)(h2:¬c->B):if c then A else B:=by
 by_cases h:c
 ·rw[if_pos h];exact h1 h
 ·rw[if_neg h];exact h2 h
theorem Qph{c A B:Prop}[Decidable c](hc:c)(h:B):if(!decide c)=true then A else B:=by
 rw[decide_eq_true hc];exact QdW h
def Same(H H':Hp):Prop:=∀b o,H b=some o->H' b=some o
theorem Same.refl(H:Hp):Same H H:=λ_ _ h=>h
theorem Same.trans{H H1 H2:Hp}(a:Same H H1)(b:Same H1 H2):Same H H2:=λc o h=>b c o (a c o h)
theorem Same.free{H H':Hp}(e:Same H H'){l:Addr}(h:H' l=QwD):H l=QwD:=by
 cases q:H l with
 |none=>rfl
 |some o=>
  rw[e l o q] at h;cases h
theorem Same.seq{K:PySem.W.Frag}{H H':Hp}{a:Addr}{xs:List V}(e:Same H H')(h:SqL K H a xs):SqL K H' a xs:=by
 rcases h with(h | ⟨o,h⟩) | h
 ·exact .inl (.inl (e _ _ h))
 ·exact .inl (.inr ⟨o,e _ _ h⟩)
 ·exact .inr h
end L2
set_option maxHeartbeats 4000000
namespace Rt
def QbW:Bool->Keyed->Array Keyed->Nat->Nat->Nat->StateT JP Sem (Option Nat):=sortPriv% PySem.Builtin.gallop
theorem QkQ(lf:Bool)(kk:Keyed)(xs:Array Keyed)(b n h:Nat):QbW lf kk xs b n h=(do
 let bey (z:Nat):StateT JP Sem (Option Bool):=do
  let x <- elem' xs (b+z)
  if lf then lt' x kk else return (<- lt' kk x).map (!·)
 let mut l0:=0
 let mut o0:=1
 let mut u:=0
 let mut v:=0
 let some r0 <- bey h | return none
 if r0 then
  let mo:=n - h
  for _ in [0:n] do
   if o0≥mo then break
   let some r1 <- bey (h+o0) | return none
   if !r1 then break
   l0:=o0
   o0:=2*o0+1
  u:=h+l0+1
  v:=h+min o0 mo
 else
  let mo:=h+1
  for _ in [0:n] do
   if o0≥mo then break
   let some r1 <- bey (h - o0) | return none
   if r1 then break
   l0:=o0
   o0:=2*o0+1
  u:=h+1 - min o0 mo
  v:=h - l0
 for _ in [0:n] do
  if u≥v then break
  let m:=u+(v - u) / 2
  let some r1 <- bey m | return none
  if r1 then u:=m+1 else v:=m
 return some v):=rfl
structure Ord (c:Keyed->Keyed->Bool):Prop where
 asym:∀x y,c x y=true->c y x=false
 trans:∀x y z,c y x=false->c z y=false->c z x=false
abbrev le (c:Keyed->Keyed->Bool) (x y:Keyed):Prop:=c y x=false
section
variable{c:Keyed->Keyed->Bool}
theorem Ord.irr(o:Ord c)(x:Keyed):c x x=false:=by
 cases h:c x x with
 |false=>rfl
 |true=>rw[o.asym x x h] at h;cases h
theorem Ord.tr(o:Ord c){x y z:Keyed}(a:le c x y)(b:le c y z):le c x z:=o.trans x y z a b
theorem Ord.lt_le(o:Ord c){x y:Keyed}(a:c x y=true):le c x y:=o.asym x y a
theorem Ord.tr_lt(o:Ord c){x y z:Keyed}(a:le c x y)(b:c y z=true):c x z=true:=by
 cases h:c x z with
 |true=>rfl
 |false=>rw[show c y z=false from o.trans z x y h a] at b;cases b
end
def kx(xs:Array Keyed)(i:Nat):Keyed:=(xs[i]?).getD (JD,JD)
theorem Qtp{xs:Array Keyed}{i:Nat}(h:i<xs.size):xs[i]? = some (kx xs i):=by
 unfold kx;rw[getElem?_pos xs i h];rfl
theorem Qi3{xs ys:Array Keyed}{i j:Nat}(h:xs[i]? = ys[j]?):kx xs i=kx ys j:=by unfold kx;rw[h]
def Sg(c:Keyed->Keyed->Bool)(xs:Array Keyed)(lo hi:Nat):Prop:=∀i j,lo<=i->i<=j->j<hi->le c (kx xs i) (kx xs j)
structure Asks (prog:QB) (w:Q8) (A:Q2) (s:Shared) (κ:Z2) (a₀:Array Keyed) (c:Keyed->Keyed->Bool):Prop where
 ord:Ord c
 lt:∀x y,x∈a₀.toList->y∈a₀.toList->∀(C:Bool->Shared->Prop)(E':Value->Shared->Prop),C (c x y) s->wpAny (model prog w) A (keyLt' κ x.1 y.1) C E' s
structure SB (κ:Z2) (a₀:Array Keyed) (st:JP):Prop where
 perm:(arrOf st).Perm a₀
 kind:kindOf st=κ
 failed:failedOf st=none
theorem SB.size{κ:Z2}{a₀:Array Keyed}{st:JP}(h:SB κ a₀ st):(arrOf st).size=a₀.size:=h.perm.size_eq
theorem SB.mem{κ:Z2}{a₀:Array Keyed}{st:JP}(h:SB κ a₀ st){p:Keyed}(e:p∈(arrOf st).toList):p∈a₀.toList:=(Zn.mp h.perm).mem_iff.mp e
theorem QeI{xs:Array Keyed}{i:Nat}(h:i<xs.size):kx xs i∈xs.toList:=ZE.mpr (YB (Qtp h))
section
variable{prog:QB}{w:Q8}{A:Q2}{E:Value->Shared->Prop}{s:Shared}{a₀:Array Keyed}{κ:Z2}{c:Keyed->Keyed->Bool}
theorem Qg5{st:JP}{x y:Keyed}{Q:Option Bool->JP->Prop}(hA:Asks prog w A s κ a₀ c)(hk:kindOf st=κ)(hx:x∈a₀.toList)(hy:y∈a₀.toList)(h:Q (some (c x y)) st):wpS (model prog w) A E s (lt' x y) Q st:=by
 rw[lt'_eq];refine Qh (Qcj ?_);rw[hk];refine Qh (Qd7 (QcM (hA.lt x y hx hy _ _ ⟨rfl,?_⟩)));exact Qi h
theorem Q0{st:JP}{arr:Array Keyed}{i:Nat}{Q:Keyed->JP->Prop}(hi:i<arr.size)(h:Q (kx arr i) st):wpS (model prog w) A E s (elem' arr i) Q st:=by
 rw[elem'_eq,Qtp hi];exact Qi h
theorem Qep{st:JP}{i j:Nat}{Q:Option Bool->JP->Prop}(hA:Asks prog w A s κ a₀ c)(hB:SB κ a₀ st)(hi:i<a₀.size)(hj:j<a₀.size)(h:Q (some (c (kx (arrOf st) i) (kx (arrOf st) j))) st):wpS (model prog w) A E s (ltAt' i j) Q st:=by
 have h1:i<(arrOf st).size:=by rw[hB.size];exact hi
 have h2:j<(arrOf st).size:=by rw[hB.size];exact hj
 rw[ltAt'_eq];refine Qh (Qcj ?_);refine Qh (Q0 h1 ?_);refine Qh (Q0 h2 ?_);exact Qg5 hA hB.kind (hB.mem (QeI h1)) (hB.mem (QeI h2)) h
def QcF(c:Keyed->Keyed->Bool)(lf:Bool)(kk:Keyed)(xs:Array Keyed)(i:Nat):Bool:=if lf then c (kx xs i) kk else !c kk (kx xs i)
theorem QpA(o:Ord c){lf:Bool}{kk:Keyed}{xs:Array Keyed}{b n:Nat}(sg:Sg c xs b (b+n)){i j:Nat}(hij:i<=j)(hj:j<n)(h:QcF c lf kk xs (b+j)=true):QcF c lf kk xs (b+i)=true:=by
 have l:=sg (b+i) (b+j) (by omega) (by omega) (by omega);unfold QcF at h ⊢;cases lf with
 |true=>exact o.tr_lt l h
 |false=>
  simp only[ZB,if_false,Qe3] at h ⊢;exact o.tr l h
theorem Zr{st:JP}{lf:Bool}{kk:Keyed}{xs:Array Keyed}{b n hint:Nat}{Q:Option Nat->JP->Prop}(hA:Asks prog w A s κ a₀ c)(hk:kindOf st=κ)(hkey:kk∈a₀.toList)(harr:∀p∈xs.toList,p∈a₀.toList)(hb:b+n<=xs.size)(hh:hint<n)(sg:Sg c xs b (b+n))
  (h:∀k,k<=n->(∀i,i<k->QcF c lf kk xs (b+i)=true)->(∀i,k<=i->i<n->QcF c lf kk xs (b+i)=false)->Q (some k) st):wpS (model prog w) A E s (QbW lf kk xs b n hint) Q st:=by
 have bey:∀(i:Nat)(Q':Option Bool->JP->Prop),i<n->Q' (some (QcF c lf kk xs (b+i))) st->wpS (model prog w) A E s (do
   let x <- elem' xs (b+i)
   if lf then lt' x kk else return (<- lt' kk x).map (!·)) Q' st:=λi Q' hi hq=>by
  have hs:b+i<xs.size:=by omega
  refine Qh (Q0 hs ?_);have pm:=harr _ (QeI hs);unfold QcF at hq;cases lf with
  |true=>exact Qg5 hA hk pm hkey hq
  |false=>exact Qh (Qg5 hA hk hkey pm (Qi hq))
 have mono:∀{i j:Nat},i<=j->j<n->QcF c lf kk xs (b+j)=true->QcF c lf kk xs (b+i)=true:=λhij hj h=>QpA hA.ord sg hij hj h
 have monoF:∀{i j:Nat},i<=j->j<n->QcF c lf kk xs (b+i)=false->QcF c lf kk xs (b+j)=false:=λ{i j} hij hj h=>by
  cases e:QcF c lf kk xs (b+j) with
  |false=>rfl
  |true=>rw[mono hij hj e] at h;cases h
 rw[QkQ]
 dsimp only
 refine Qh (bey hint _ hh ?_);cases hr:QcF c lf kk xs (b+hint) with
 |true=>
  dsimp only
  rw[if_pos rfl];refine Qh (Yo (JS (I:=λx z st'=>st'=st/\∃l o,z=(none,l,o)/\l<o/\x+1<=o/\hint+l<n/\QcF c lf kk xs (b+(hint+l))=true)
   (Q:=λz st'=>st'=st/\∃l o,z=(none,l,o)/\l<o/\hint+l<n/\QcF c lf kk xs (b+(hint+l))=true/\(hint+o<n->QcF c lf kk xs (b+(hint+o))=false)) ?step ?fin ⟨rfl,0,1,rfl,by omega,by omega,by omega,hr⟩) ?post)
  case fin=>
   rintro z st' ⟨rfl,l,o,rfl,h1,h2,h3,h4⟩;exact⟨rfl,l,o,rfl,h1,h3,h4,λh5=>by omega⟩
  case step=>
   rintro x z st' _ hx ⟨rfl,l,o,rfl,h1,h2,h3,h4⟩
   dsimp only
   by_cases g:o≥n - hint
   ·rw[if_pos g];exact Qi ⟨rfl,l,o,rfl,h1,h3,h4,λh5=>by omega⟩
   ·rw[if_neg g];refine Qh (bey (hint+o) _ (by omega) ?_);cases e:QcF c lf kk xs (b+(hint+o)) with
    |true=>exact Qi ⟨rfl,o,2*o+1,rfl,by omega,by omega,by omega,e⟩
    |false=>exact Qi ⟨rfl,l,o,rfl,h1,h3,h4,λ_=>e⟩
  case post=>
   rintro z st' ⟨rfl,l,o,rfl,h1,h3,h4,h5⟩
   dsimp only
   refine Qh (Yo (JS (I:=λx z st''=>st''=st'/\∃u v,z=(none,u,v)/\v<=n/\u<=v/\v - u<=n - x/\(∀i,i<u->QcF c lf kk xs (b+i)=true)/\(∀i,v<=i->i<n->QcF c lf kk xs (b+i)=false))
    (Q:=λz st''=>st''=st'/\∃v,z=(none,v,v)/\v<=n/\(∀i,i<v->QcF c lf kk xs (b+i)=true)/\(∀i,v<=i->i<n->QcF c lf kk xs (b+i)=false)) ?step2 ?fin2 ?init2) ?post2)
   case init2=>
    refine⟨rfl,_,_,rfl,by omega,by omega,by omega,λi hi=>mono (by omega) h3 h4,λi hi hn=>?_⟩;exact monoF (i:=hint+o) (by omega) hn (h5 (by omega))
   case fin2=>
    rintro z st'' ⟨rfl,u,v,rfl,g1,g2,g3,g4,g5⟩;have:u=v:=by omega
    subst this;exact⟨rfl,u,rfl,g1,g4,g5⟩
   case step2=>
    rintro x z st'' _ hx ⟨rfl,u,v,rfl,g1,g2,g3,g4,g5⟩
    dsimp only
    by_cases g:u≥v
    ·rw[if_pos g];have:u=v:=by omega
     subst this;exact Qi ⟨rfl,u,rfl,g1,g4,g5⟩
    ·rw[if_neg g];refine Qh (bey (u+(v - u) / 2) _ (by omega) ?_);cases e:QcF c lf kk xs (b+(u+(v - u) / 2)) with
     |true=>exact Qi ⟨rfl,_,_,rfl,g1,by omega,by omega,λi hi=>mono (by omega) (by omega) e,g5⟩
     |false=>exact Qi ⟨rfl,_,_,rfl,by omega,by omega,by omega,g4,λi hi hn=>monoF hi hn e⟩
   case post2=>
    rintro z st'' ⟨rfl,v,rfl,g1,g4,g5⟩;exact Qi (h v g1 g4 g5)
 |false=>
  dsimp only
  rw[if_neg (by decide)];refine Qh (Yo (JS (I:=λx z st'=>st'=st/\∃l o,z=(none,l,o)/\l<o/\x+1<=o/\l<=hint/\QcF c lf kk xs (b+(hint - l))=false)
   (Q:=λz st'=>st'=st/\∃l o,z=(none,l,o)/\l<o/\l<=hint/\QcF c lf kk xs (b+(hint - l))=false/\(o<=hint->QcF c lf kk xs (b+(hint - o))=true)) ?step ?fin ⟨rfl,0,1,rfl,by omega,by omega,by omega,hr⟩) ?post)
  case fin=>
   rintro z st' ⟨rfl,l,o,rfl,h1,h2,h3,h4⟩;exact⟨rfl,l,o,rfl,h1,h3,h4,λh5=>by omega⟩
  case step=>
   rintro x z st' _ hx ⟨rfl,l,o,rfl,h1,h2,h3,h4⟩
   dsimp only
   by_cases g:o≥hint+1
   ·rw[if_pos g];exact Qi ⟨rfl,l,o,rfl,h1,h3,h4,λh5=>by omega⟩
   ·rw[if_neg g];refine Qh (bey (hint - o) _ (by omega) ?_);cases e:QcF c lf kk xs (b+(hint - o)) with
    |false=>exact Qi ⟨rfl,o,2*o+1,rfl,by omega,by omega,by omega,e⟩
    |true=>exact Qi ⟨rfl,l,o,rfl,h1,h3,h4,λ_=>e⟩
  case post=>
   rintro z st' ⟨rfl,l,o,rfl,h1,h3,h4,h5⟩
   dsimp only
   refine Qh (Yo (JS (I:=λx z st''=>st''=st'/\∃u v,z=(none,u,v)/\v<=n/\u<=v/\v - u<=n - x/\(∀i,i<u->QcF c lf kk xs (b+i)=true)/\(∀i,v<=i->i<n->QcF c lf kk xs (b+i)=false))
    (Q:=λz st''=>st''=st'/\∃v,z=(none,v,v)/\v<=n/\(∀i,i<v->QcF c lf kk xs (b+i)=true)/\(∀i,v<=i->i<n->QcF c lf kk xs (b+i)=false)) ?step2 ?fin2 ?init2) ?post2)
   case init2=>
    refine⟨rfl,_,_,rfl,by omega,by omega,by omega,λi hi=>?_,λi hi hn=>monoF hi hn h4⟩;exact mono (j:=hint - o) (by omega) (by omega) (h5 (by omega))
   case fin2=>
    rintro z st'' ⟨rfl,u,v,rfl,g1,g2,g3,g4,g5⟩;have:u=v:=by omega
    subst this;exact⟨rfl,u,rfl,g1,g4,g5⟩
   case step2=>
    rintro x z st'' _ hx ⟨rfl,u,v,rfl,g1,g2,g3,g4,g5⟩
    dsimp only
    by_cases g:u≥v
    ·rw[if_pos g];have:u=v:=by omega
     subst this;exact Qi ⟨rfl,u,rfl,g1,g4,g5⟩
    ·rw[if_neg g];refine Qh (bey (u+(v - u) / 2) _ (by omega) ?_);cases e:QcF c lf kk xs (b+(u+(v - u) / 2)) with
     |true=>exact Qi ⟨rfl,_,_,rfl,g1,by omega,by omega,λi hi=>mono (by omega) (by omega) e,g5⟩
     |false=>exact Qi ⟨rfl,_,_,rfl,by omega,by omega,by omega,g4,λi hi hn=>monoF hi hn e⟩
   case post2=>
    rintro z st'' ⟨rfl,v,rfl,g1,g4,g5⟩;exact Qi (h v g1 g4 g5)
structure Fb (κ:Z2) (a₀:Array Keyed) (lo:Nat) (st st':JP):Prop where
 sb:SB κ a₀ st'
 pend:pendingOf st'=pendingOf st
 low:∀k,k<lo->kx (arrOf st') k=kx (arrOf st) k
theorem Fb.refl{st:JP}{lo:Nat}(h:SB κ a₀ st):Fb κ a₀ lo st st:=⟨h,rfl,λ_ _=>rfl⟩
theorem QmB{xs:Array Keyed}{i j:Nat}(hj:j<=xs.size)(k:Nat):kx (mirror xs i j ((j - i) / 2)) k=if i<=k/\k<j then kx xs (i+j - 1 - k) else kx xs k:=by
 have e:=Qua (i:=i) hj k;by_cases h1:i<=k/\k<j
 ·rw[if_pos h1] at e ⊢;exact Qi3 e
 ·rw[if_neg h1] at e ⊢;exact Qi3 e
theorem QbJ{st:JP}{i j lo:Nat}{st0:JP}{Q:Unit->JP->Prop}(fb:Fb κ a₀ lo st0 st)(hi:lo<=i)(hj:j<=a₀.size)
  (h:∀st',Fb κ a₀ lo st0 st'->(∀k,kx (arrOf st') k=if i<=k/\k<j then kx (arrOf st) (i+j - 1 - k) else kx (arrOf st) k)->Q () st'):wpS (model prog w) A E s (reverseSlice' i j) Q st:=by
 rw[reverseSlice'_eq];have km:∀k,kx (mirror (arrOf st) i j ((j - i) / 2)) k=if i<=k/\k<j then kx (arrOf st) (i+j - 1 - k) else kx (arrOf st) k:=λk=>QmB (by rw[fb.sb.size];exact hj) k
 refine Qau (h _ ⟨⟨(mirror_perm _ _ _ _).trans fb.sb.perm,fb.sb.kind,fb.sb.failed⟩,fb.pend,λk hk=>?_⟩ km);show kx (mirror (arrOf st) i j ((j - i) / 2)) k=_;rw[km,if_neg (by omega)];exact fb.low k hk
def QyT(lo a nr:Nat):StateT JP Sem (Option (Option Nat)×Nat):=
 forIn [a:nr] ((none,a):Option (Option Nat)×Nat) λ_ z=>do
  let r <- ltAt' (lo+z.2) (lo+z.2 - 1)
  match r with
  |some b=>if b=true then pure (Qa2 (none,z.2)) else pure (JR (none,z.2+1))
  |_=>pure (Qa2 (some none,z.2))
theorem Qer{st:JP}{lo a nr:Nat}{Q:Option (Option Nat)×Nat->JP->Prop}(hA:Asks prog w A s κ a₀ c)(hn:lo+nr<=a₀.size)(h1:1<=a)(han:a<=nr)(hB:SB κ a₀ st)(sg:Sg c (arrOf st) lo (lo+a))
  (h:∀n,a<=n->n<=nr->Sg c (arrOf st) lo (lo+n)->(n=nr∨c (kx (arrOf st) (lo+n)) (kx (arrOf st) (lo+n - 1))=true)->Q (none,n) st):wpS (model prog w) A E s (QyT lo a nr) Q st:=by
 unfold QyT;refine JS (I:=λx z st'=>st'=st/\z=(none,x)/\Sg c (arrOf st) lo (lo+x)) ?step ?fin ⟨rfl,rfl,sg⟩
 case fin=>
  rintro z st' ⟨rfl,rfl,hs⟩;rw[show max a nr=nr by omega] at hs ⊢;exact h nr han (Qg _) hs (.inl rfl)
 case step=>
  rintro x z st' hax hxn ⟨rfl,rfl,hs⟩
  dsimp only
  refine Qh (Qep hA hB (by omega) (by omega) ?_);cases e:c (kx (arrOf st') (lo+x)) (kx (arrOf st') (lo+x - 1)) with
  |true=>exact Qi (h x hax (by omega) hs (.inr e))
  |false=>
   refine Qi ⟨rfl,rfl,λi j hi hij hj=>?_⟩;by_cases z:j<lo+x
   ·exact hs i j hi hij z
   ·have zj:j=lo+x:=by omega
    subst zj;by_cases zi:i=lo+x
    ·subst zi;exact hA.ord.irr _
    ·exact hA.ord.tr (hs i (lo+x - 1) hi (by omega) (by omega)) e
def Ng(c:Keyed->Keyed->Bool)(xs:Array Keyed)(lo hi:Nat):Prop:=∀i j,lo<=i->i<=j->j<hi->le c (kx xs j) (kx xs i)
def Eqv(c:Keyed->Keyed->Bool)(x y:Keyed):Prop:=le c x y/\le c y x
theorem Eqv.ng(o:Ord c){xs ys:Array Keyed}{lo hi:Nat}(h:∀k,lo<=k->k<hi->Eqv c (kx ys k) (kx xs k))(n:Ng c xs lo hi):Ng c ys lo hi:=λi j hi' hij hj=>
 o.tr (h j (by omega) hj).1 (o.tr (n i j hi' hij hj) (h i hi' (by omega)).2)
theorem Qf8(o:Ord c){xs ys:Array Keyed}{u v:Nat}(h:∀k,kx ys k=if u<=k/\k<v then kx xs (u+v - 1 - k) else kx xs k)(q:∀k,u<=k->k<v->Eqv c (kx xs k) (kx xs (v - 1)))(k:Nat):Eqv c (kx ys k) (kx xs k):=by
 rw[h k];split
 ·rename_i z
  have a:=q (u+v - 1 - k) (by omega) (by omega);have b:=q k z.1 z.2;exact⟨o.tr a.1 b.2,o.tr b.1 a.2⟩
 ·exact⟨o.irr _,o.irr _⟩
def Qv7(lo n nr:Nat):StateT JP Sem (Option (Option Nat)×Nat×Nat):=
 forIn [n:nr] ((none,n,0):Option (Option Nat)×Nat×Nat) λ_ z=>do
  let r <- ltAt' (lo+z.2.1) (lo+z.2.1 - 1)
  match r with
  |some b=>
   if b=true then
    if z.2.2 > 0 then do
     reverseSlice' (lo+z.2.1 - (z.2.2+1)) (lo+z.2.1)
     pure (JR (none,z.2.1+1,0))
    else pure (JR (none,z.2.1+1,0))
   else do
    let r <- ltAt' (lo+z.2.1 - 1) (lo+z.2.1)
    match r with
    |some b=>
     if b=true then pure (Qa2 (none,z.2.1,z.2.2))
     else pure (JR (none,z.2.1+1,z.2.2+1))
    |_=>pure (Qa2 (some none,z.2.1,z.2.2))
  |_=>pure (Qa2 (some none,z.2.1,z.2.2))
theorem QeG(o:Ord c){xs:Array Keyed}{lo n:Nat}(h:Ng c xs lo (lo+n))(h1:1<=n)(l:le c (kx xs (lo+n)) (kx xs (lo+n - 1))):Ng c xs lo (lo+(n+1)):=λi j hi hij hj=>by
 by_cases z:j<lo+n
 ·exact h i j hi hij z
 ·have zj:j=lo+n:=by omega
  subst zj;by_cases zi:i=lo+n
  ·subst zi;exact o.irr _
  ·exact o.tr l (h i (lo+n - 1) hi (by omega) (by omega))
theorem Qjr{st st0:JP}{lo n nr:Nat}{Q:Option (Option Nat)×Nat×Nat->JP->Prop}(hA:Asks prog w A s κ a₀ c)(hn:lo+nr<=a₀.size)(h1:1<=n)(han:n<=nr)(fb:Fb κ a₀ lo st0 st)(ng:Ng c (arrOf st) lo (lo+n))
  (h:∀m q st',n<=m->m<=nr->Fb κ a₀ lo st0 st'->Ng c (arrOf st') lo (lo+m)->q+1<=m->(∀k,lo+m - (q+1)<=k->k<lo+m->Eqv c (kx (arrOf st') k) (kx (arrOf st') (lo+m - 1)))->Q (none,m,q) st'):wpS (model prog w) A E s (Qv7 lo n nr) Q st:=by
 unfold Qv7;have ir:∀x,Eqv c x x:=λx=>⟨hA.ord.irr x,hA.ord.irr x⟩
 refine JS (I:=λx z st'=>∃q,z=(none,x,q)/\Fb κ a₀ lo st0 st'/\Ng c (arrOf st') lo (lo+x)/\q+1<=x/\(∀k,lo+x - (q+1)<=k->k<lo+x->Eqv c (kx (arrOf st') k) (kx (arrOf st') (lo+x - 1)))) ?step ?fin
  ⟨0,rfl,fb,ng,h1,λk k1 k2=>by rw[show k=lo+n - 1 by omega];exact ir _⟩
 case fin=>
  rintro z st' ⟨q,rfl,f,g,g1,g2⟩;rw[show max n nr=nr by omega] at g g1 g2 ⊢;exact h nr q st' han (Qg _) f g g1 g2
 case step=>
  rintro x z st' hax hxn ⟨q,rfl,f,g,g1,g2⟩
  dsimp only
  refine Qh (Qep hA f.sb (by omega) (by omega) ?_);cases e:c (kx (arrOf st') (lo+x)) (kx (arrOf st') (lo+x - 1)) with
  |true=>
   dsimp only
   rw[if_pos rfl];by_cases zq:q > 0
   ·rw[if_pos zq];refine Qh (QbJ f (by omega) (by omega) λst2 f2 km=>Qi ⟨0,rfl,f2,?_,by omega,λk k1 k2=>by rw[show k=lo+(x+1) - 1 by omega];exact ir _⟩);refine Eqv.ng hA.ord (xs:=arrOf st') (λk _ _=>Qf8 hA.ord km g2 k) (QeG hA.ord g (by omega) (hA.ord.lt_le e))
   ·rw[if_neg zq];exact Qi ⟨0,rfl,f,QeG hA.ord g (by omega) (hA.ord.lt_le e),by omega,λk k1 k2=>by rw[show k=lo+(x+1) - 1 by omega];exact ir _⟩
  |false=>
   dsimp only
   rw[if_neg (by decide)];refine Qh (Qep hA f.sb (by omega) (by omega) ?_);cases e2:c (kx (arrOf st') (lo+x - 1)) (kx (arrOf st') (lo+x)) with
   |true=>exact Qi (h x q st' hax (by omega) f g g1 g2)
   |false=>
    refine Qi ⟨q+1,rfl,f,QeG hA.ord g (by omega) e2,by omega,λk k1 k2=>?_⟩;rw[show lo+(x+1) - 1=lo+x by omega];by_cases zk:k=lo+x
    ·subst zk;exact ir _
    ·have a:=g2 k (by omega) (by omega);exact⟨hA.ord.tr a.1 e,hA.ord.tr e2 a.2⟩
theorem Qo9{xs ys:Array Keyed}{lo hi:Nat}(h:∀k,kx ys k=if lo<=k/\k<hi then kx xs (lo+hi - 1 - k) else kx xs k)(n:Ng c xs lo hi):Sg c ys lo hi:=λi j hi' hij hj=>by
 rw[h i,h j,if_pos (by omega),if_pos (by omega)];exact n _ _ (by omega) (by omega) (by omega)
theorem QfY{st:JP}{lo nr:Nat}{Q:Option Nat->JP->Prop}(hA:Asks prog w A s κ a₀ c)(hn:lo+nr<=a₀.size)(h1:1<=nr)(hB:SB κ a₀ st)
  (h:∀m st',Fb κ a₀ lo st st'->1<=m->m<=nr->Sg c (arrOf st') lo (lo+m)->Q (some m) st'):wpS (model prog w) A E s (countRun' lo nr) Q st:=by
 rw[countRun'_eq]
 dsimp only
 refine Qh (Qer (lo:=lo) (a:=1) (nr:=nr) hA hn (Qg _) h1 hB (λi j hi hij hj=>by rw[show i=j by omega];exact hA.ord.irr _) λn n1 n2 sg hor=>?_)
 dsimp only
 by_cases zn:n=nr
 ·rw[if_pos (by simpa using zn)];exact Qi (h n st (Fb.refl hB) n1 n2 sg)
 ·rw[if_neg (by simpa using zn)];have hlt:=hor.resolve_left zn;by_cases zg:n > 1
  ·rw[if_pos zg];refine Qh (Qep hA hB (by omega) (by omega) ?_);cases e:c (kx (arrOf st) lo) (kx (arrOf st) (lo+n - 1)) with
   |true=>exact Qi (h n st (Fb.refl hB) n1 n2 sg)
   |false=>
    have all:∀k,lo<=k->k<lo+n->Eqv c (kx (arrOf st) k) (kx (arrOf st) (lo+n - 1)):=λk k1 k2=>
     ⟨sg k (lo+n - 1) k1 (by omega) (by omega),hA.ord.tr e (sg lo k (Qg _) k1 k2)⟩
    dsimp only
    rw[if_neg (by decide)];refine Qh (QbJ (Fb.refl hB) (Qg _) (by omega) λst2 f2 km=>?_);have ng2:Ng c (arrOf st2) lo (lo+(n+1)):=by
     refine Eqv.ng hA.ord (xs:=arrOf st) (λk k1 k2=>Qf8 hA.ord km all k) (QeG hA.ord (λi j i1 ij j1=>?_) n1 (hA.ord.lt_le hlt));have a:=all i i1 (by omega);have b:=all j (by omega) j1;exact hA.ord.tr b.1 a.2
    refine Qh (Qd7 (wpAny_rule ⟨rfl,?_⟩));refine Qh (Qjr (lo:=lo) (n:=n+1) (nr:=nr) hA hn (by omega) (by omega) f2 (ng2) λm q st' m1 m2 f5 g g1 g2=>?_)
    dsimp only
    by_cases zq:q > 0
    ·rw[if_pos zq];refine Qh (QbJ f5 (by omega) (by omega) λst3 f3 km3=>?_);refine Qh (QbJ f3 (Qg _) (by omega) λst4 f4 km4=>?_);refine Qh (Qer (lo:=lo) (a:=m) (nr:=nr) hA hn (by omega) m2 f4.sb (Qo9 km4 (Eqv.ng hA.ord (xs:=arrOf st') (λk _ _=>Qf8 hA.ord km3 g2 k) g)) λk k1 k2 sg4 _=>Qi (h k st4 f4 (by omega) k2 sg4))
    ·rw[if_neg zq];refine Qh (QbJ f5 (Qg _) (by omega) λst4 f4 km4=>?_);refine Qh (Qer (lo:=lo) (a:=m) (nr:=nr) hA hn (by omega) m2 f4.sb (Qo9 km4 (g)) λk k1 k2 sg4 _=>Qi (h k st4 f4 (by omega) k2 sg4))
  ·rw[if_neg zg];have z1:n=1:=by omega
   subst z1;refine Qh (Qd7 (wpAny_rule ⟨rfl,?_⟩));refine Qh (Qjr (lo:=lo) (n:=1+1) (nr:=nr) hA hn (by omega) (by omega) (Fb.refl hB) (QeG hA.ord (λi j i1 ij j1=>by rw[show i=j by omega];exact hA.ord.irr _) n1 (hA.ord.lt_le hlt)) λm q st' m1 m2 f5 g g1 g2=>?_)
   dsimp only
   by_cases zq:q > 0
   ·rw[if_pos zq];refine Qh (QbJ f5 (by omega) (by omega) λst3 f3 km3=>?_);refine Qh (QbJ f3 (Qg _) (by omega) λst4 f4 km4=>?_);refine Qh (Qer (lo:=lo) (a:=m) (nr:=nr) hA hn (by omega) m2 f4.sb (Qo9 km4 (Eqv.ng hA.ord (xs:=arrOf st') (λk _ _=>Qf8 hA.ord km3 g2 k) g)) λk k1 k2 sg4 _=>Qi (h k st4 f4 (by omega) k2 sg4))
   ·rw[if_neg zq];refine Qh (QbJ f5 (Qg _) (by omega) λst4 f4 km4=>?_);refine Qh (Qer (lo:=lo) (a:=m) (nr:=nr) hA hn (by omega) m2 f4.sb (Qo9 km4 (g)) λk k1 k2 sg4 _=>Qi (h k st4 f4 (by omega) k2 sg4))
theorem QmC{xs:Array Keyed}{src d:Nat}(hs:src<xs.size)(hd:d<=src)(k:Nat):kx (bubble xs src d) k=if k=src - d then kx xs src else if src - d<k/\k<=src then kx xs (k - 1) else kx xs k:=by
 have e:=getElem?_bubble hs d hd k
 by_cases h1:k=src - d
 ·rw[if_pos h1] at e ⊢;exact Qi3 e
 ·rw[if_neg h1] at e ⊢;by_cases h2:src - d<k/\k<=src
  ·rw[if_pos h2] at e ⊢;exact Qi3 e
  ·rw[if_neg h2] at e ⊢;exact Qi3 e
theorem Qeq{st:JP}{lo n ok:Nat}{Q:Bool->JP->Prop}(hA:Asks prog w A s κ a₀ c)(hn:lo+n<=a₀.size)(h1:1<=ok)(hok:ok<=n)(hB:SB κ a₀ st)(sg:Sg c (arrOf st) lo (lo+ok))
  (h:∀st',Fb κ a₀ lo st st'->Sg c (arrOf st') lo (lo+n)->Q true st'):wpS (model prog w) A E s (binarySort' lo n ok) Q st:=by
 rw[binarySort'_eq];refine Qh (Yo (JS (I:=λk z st'=>z=(none,())/\Fb κ a₀ lo st st'/\Sg c (arrOf st') lo (lo+min k n)) (Q:=λz st'=>z=(none,())/\Fb κ a₀ lo st st'/\Sg c (arrOf st') lo (lo+n)) ?step ?fin ⟨rfl,Fb.refl hB,by rw[show min (max ok 1) n=ok by omega];exact sg⟩) ?post)
 case post=>
  rintro z st' ⟨rfl,f,g⟩;exact Qi (h st' f g)
 case fin=>
  rintro z st' ⟨rfl,f,g⟩;rw[show min (max (max ok 1) n) n=n by omega] at g;exact⟨rfl,f,g⟩
 case step=>
  rintro k z st' hak hkn ⟨rfl,f,g⟩;rw[show min k n=k by omega] at g;refine Qh (Yo (JS (I:=λx z st''=>st''=st'/\∃l r,z=(none,l,r)/\l<=r/\r<=k/\r - l<=k - x/\(∀i,i<l->le c (kx (arrOf st') (lo+i)) (kx (arrOf st') (lo+k)))/\(∀i,r<=i->i<k->le c (kx (arrOf st') (lo+k)) (kx (arrOf st') (lo+i))))
   (Q:=λz st''=>st''=st'/\∃l r,z=(none,l,r)/\l<=k/\(∀i,i<l->le c (kx (arrOf st') (lo+i)) (kx (arrOf st') (lo+k)))/\(∀i,l<=i->i<k->le c (kx (arrOf st') (lo+k)) (kx (arrOf st') (lo+i)))) ?istep ?ifin ⟨rfl,0,k,rfl,by omega,by omega,by omega,λi hi=>by omega,λi a b=>by omega⟩) ?ipost)
  case ifin=>
   rintro z st'' ⟨rfl,l,r,rfl,h1,h2,h3,h4,h5⟩;have:l=r:=by omega
   subst this;exact⟨rfl,l,l,rfl,h2,h4,h5⟩
  case istep=>
   rintro x z st'' _ hx ⟨rfl,l,r,rfl,h1,h2,h3,h4,h5⟩
   dsimp only
   by_cases zz:l≥r
   ·rw[if_pos zz];have:l=r:=by omega
    subst this;exact Qi ⟨rfl,l,l,rfl,h2,h4,h5⟩
   ·rw[if_neg zz];refine Qh (Qep hA f.sb (by omega) (by omega) ?_);cases e:c (kx (arrOf st'') (lo+k)) (kx (arrOf st'') (lo+(l+r) / 2)) with
    |true=>exact Qi ⟨rfl,_,_,rfl,by omega,by omega,by omega,h4,λi a b=>hA.ord.tr (hA.ord.lt_le e) (g _ _ (by omega) (by omega) (by omega))⟩
    |false=>exact Qi ⟨rfl,_,_,rfl,by omega,by omega,by omega,λi a=>hA.ord.tr (g (lo+i) (lo+(l+r) / 2) (by omega) (by omega) (by omega)) e,h5⟩
  case ipost=>
   rintro z st'' ⟨rfl,l,r,rfl,h2,h4,h5⟩
   dsimp only
   rw[moveDown'_eq];have hs:lo+k<(arrOf st'').size:=by rw[f.sb.size];omega
   have kb:∀j,kx (bubble (arrOf st'') (lo+k) (lo+k - (lo+l))) j=if j=lo+l then kx (arrOf st'') (lo+k) else if lo+l<j/\j<=lo+k then kx (arrOf st'') (j - 1) else kx (arrOf st'') j:=λj=>by
    rw[QmC hs (by omega),show lo+k - (lo+k - (lo+l))=lo+l by omega]
   refine Qh (Qau (Qi ⟨rfl,⟨⟨(bubble_perm _ _ _).trans f.sb.perm,f.sb.kind,f.sb.failed⟩,f.pend,λj hj=>?_⟩,λi j hi hij hj=>?_⟩))
   ·show kx (bubble (arrOf st'') (lo+k) (lo+k - (lo+l))) j=_;rw[kb,if_neg (by omega),if_neg (by omega)];exact f.low j hj
   ·show le c (kx (bubble (arrOf st'') (lo+k) (lo+k - (lo+l))) i) (kx (bubble (arrOf st'') (lo+k) (lo+k - (lo+l))) j);rw[kb,kb];have low:∀i,lo<=i->i<lo+l->le c (kx (arrOf st'') i) (kx (arrOf st'') (lo+k)):=λi a b=>by have:=h4 (i - lo) (by omega);rwa [show lo+(i - lo)=i by omega] at this
    have high:∀i,lo+l<=i->i<lo+k->le c (kx (arrOf st'') (lo+k)) (kx (arrOf st'') i):=λi a b=>by have:=h5 (i - lo) (by omega) (by omega);rwa [show lo+(i - lo)=i by omega] at this
    repeat' split
    all_goals first
     |(exfalso;omega)
     |exact hA.ord.irr _
     |exact low _ (by omega) (by omega)
     |exact high _ (by omega) (by omega)
     |exact g _ _ (by omega) (by omega) (by omega)
end
def Yv:Nat->StateT JP Sem Unit:=sortPriv% PySem.Builtin.setMinGallop
theorem Qd5(g:Nat):Yv g=modify λz=>QnJ (kindOf z) (arrOf z) (pendingOf z) g (failedOf z):=rfl
def Qgi:Array Keyed->Array Keyed->StateT JP Sem (Array Keyed):=sortPriv% PySem.Builtin.mergeLo
def Qgj:Array Keyed->Array Keyed->StateT JP Sem (Array Keyed):=sortPriv% PySem.Builtin.mergeHi
theorem QiZ(a b:Array Keyed):Qgi a b=(do
 rule "list.sort.merge-lo"
 let tot:=a.size+b.size
 let dn (r:Array Keyed) (i j:Nat):=r++a.extract i a.size++b.extract j b.size
 let la (r:Array Keyed) (i j:Nat):=r++b.extract j b.size++a.extract i a.size
 let mut r:Array Keyed:=#[<- elem' b 0]
 let mut i:=0
 let mut j:=1
 if j == b.size then return dn r i j
 if i+1 == a.size then return la r i j
 let mut mg:=gallopOf (<- get)
 for _ in [0:tot] do
  let mut p:=0
  let mut q:=0
  for _ in [0:tot] do
   let some t <- lt' (<- elem' b j) (<- elem' a i) | return dn r i j
   if t then
    r:=r.push (<- elem' b j);j:=j+1;q:=q+1;p:=0
    if j == b.size then return dn r i j
    if q≥mg then break
   else
    r:=r.push (<- elem' a i);i:=i+1;p:=p+1;q:=0
    if i+1 == a.size then return la r i j
    if p≥mg then break
  rule "list.sort.gallop"
  mg:=mg+1
  for _ in [0:tot] do
   if mg > 1 then mg:=mg - 1
   Yv mg
   let some k <- QbW false (<- elem' b j) a i (a.size - i) 0 | return dn r i j
   p:=k
   if k > 0 then
    r:=r++a.extract i (i+k);i:=i+k
    if i+1 == a.size then return la r i j
    if i == a.size then return dn r i j
   r:=r.push (<- elem' b j);j:=j+1
   if j == b.size then return dn r i j
   let some k <- QbW true (<- elem' a i) b j (b.size - j) 0 | return dn r i j
   q:=k
   if k > 0 then
    r:=r++b.extract j (j+k);j:=j+k
    if j == b.size then return dn r i j
   r:=r.push (<- elem' a i);i:=i+1
   if i+1 == a.size then return la r i j
   if p<7&&q<7 then break
  mg:=mg+1
  Yv mg
 unsupported "internal:list.sort.merge-bound"):=rfl
section
variable{c:Keyed->Keyed->Bool}
abbrev Pw (c:Keyed->Keyed->Bool) (l:List Keyed):Prop:=l.Pairwise (le c)
theorem QrI{r ch x y:List Keyed}(h1:Pw c (r++(ch++x)))(h2:Pw c (r++y))(h:∀u∈ch,∀v∈y,le c u v):Pw c ((r++ch)++x)/\Pw c ((r++ch)++y):=by
 have h1':Pw c ((r++ch)++x):=by rw[QR];exact h1
 refine⟨h1',?_⟩;have g:=Jx.mp h1';have g2:=Jx.mp h2;refine Jx.mpr ⟨g.1,g2.2.1,λu hu v hv=>?_⟩;rcases Ji.mp hu with z | z
 ·exact g2.2.2 u z v hv
 ·exact h u z v hv
theorem QaO{xs:Array Keyed}{i:Nat}(h:i<xs.size):xs.toList[i]? = some (kx xs i):=by rw[QY];exact Qtp h
theorem Qm6{xs:Array Keyed}{i:Nat}(h:i<xs.size):xs.toList.drop i=kx xs i::xs.toList.drop (i+1):=by
 have hl:i<xs.toList.length:=by rw[Qe];exact h
 rw[Y6 hl];have:=QaO h;rw[Qd hl] at this;rw[Qw this]
theorem Qbr{xs:Array Keyed}{i:Nat}{p:Keyed}(h:p∈xs.toList.drop i):∃k,i<=k/\k<xs.size/\p=kx xs k:=by
 obtain⟨n,hn⟩:=Jc.mp h;rw[Ys] at hn;have hl:=(QQ.mp hn).1;rw[Qe] at hl;rw[QaO hl] at hn;exact⟨i+n,by omega,hl,(Qw hn).symm⟩
theorem Qek(xs:Array Keyed)(i k:Nat):(xs.extract i (i+k)).toList=(xs.toList.drop i).take k:=by
 rw[QaU,Y5,Nat.add_sub_cancel_left]
theorem QdH(xs:Array Keyed)(i:Nat):(xs.extract i xs.size).toList=xs.toList.drop i:=by
 rw[QaU,Y5,Qco (by rw[Qaa,Qe];exact Qg _)]
theorem QeH{xs:Array Keyed}{i k:Nat}{p:Keyed}(h:p∈(xs.toList.drop i).take k):∃t,t<k/\i+t<xs.size/\p=kx xs (i+t):=by
 obtain⟨n,hn⟩:=Jc.mp h;rw[Qea] at hn;split at hn
 ·rename_i z
  rw[Ys] at hn;have hl:=(QQ.mp hn).1;rw[Qe] at hl;rw[QaO hl] at hn;exact⟨n,z,hl,(Qw hn).symm⟩
 ·cases hn
structure MI (c:Keyed->Keyed->Bool) (a b r:Array Keyed) (i j:Nat):Prop where
 ha:Pw c (r.toList++a.toList.drop i)
 hb:Pw c (r.toList++b.toList.drop j)
 pm:(r.toList++(a.toList.drop i++b.toList.drop j)).Perm (a.toList++b.toList)
def Out(c:Keyed->Keyed->Bool)(a b z:Array Keyed):Prop:=Pw c z.toList/\z.toList.Perm (a.toList++b.toList)
variable{a b r:Array Keyed}{i j k:Nat}
theorem MI.chA(m:MI c a b r i j)(h:∀t,t<k->i+t<a.size->∀n,j<=n->n<b.size->le c (kx a (i+t)) (kx b n)):MI c a b (r++a.extract i (i+k)) (i+k) j:=by
 have e:a.toList.drop i=(a.toList.drop i).take k++a.toList.drop (i+k):=by rw[<- Qia,Jh]
 have e2:(r++a.extract i (i+k)).toList=r.toList++(a.toList.drop i).take k:=by rw[Js,Qek]
 have h1:=m.ha;have pm:=m.pm;rw[e] at h1 pm;obtain⟨g1,g2⟩:=QrI h1 m.hb λu hu v hv=>by
  obtain⟨t,t1,t2,rfl⟩:=QeH hu;obtain⟨n,n1,n2,rfl⟩:=Qbr hv;exact h t t1 t2 n n1 n2
 refine⟨by rw[e2];exact g1,by rw[e2];exact g2,?_⟩;rw[e2,QR,<- QR ((a.toList.drop i).take k)];exact pm
theorem MI.chB(m:MI c a b r i j)(h:∀t,t<k->j+t<b.size->∀n,i<=n->n<a.size->le c (kx b (j+t)) (kx a n)):MI c a b (r++b.extract j (j+k)) i (j+k):=by
 have e:b.toList.drop j=(b.toList.drop j).take k++b.toList.drop (j+k):=by rw[<- Qia,Jh]
 have e2:(r++b.extract j (j+k)).toList=r.toList++(b.toList.drop j).take k:=by rw[Js,Qek]
 have h1:=m.hb;have pm:=m.pm;rw[e] at h1 pm;obtain⟨g1,g2⟩:=QrI h1 m.ha λu hu v hv=>by
  obtain⟨t,t1,t2,rfl⟩:=QeH hu;obtain⟨n,n1,n2,rfl⟩:=Qbr hv;exact h t t1 t2 n n1 n2
 refine⟨by rw[e2];exact g2,by rw[e2];exact g1,?_⟩;rw[e2,QR];refine QaK (Yl _ ?_) pm;rw[<- QR,<- QR];exact Qaj _ ZY
theorem QjA{xs:Array Keyed}{i:Nat}(h:i<xs.size):r.push (kx xs i)=r++xs.extract i (i+1):=by
 apply Qb7.mp
 rw[QbF,Js,Qek,Qm6 h];rfl
theorem MI.puA(m:MI c a b r i j)(hi:i<a.size)(h:∀n,j<=n->n<b.size->le c (kx a i) (kx b n)):MI c a b (r.push (kx a i)) (i+1) j:=by
 rw[QjA hi];refine m.chA λt t1 t2=>?_
 have:t=0:=by omega
 subst this;exact h
theorem MI.puB(m:MI c a b r i j)(hj:j<b.size)(h:∀n,i<=n->n<a.size->le c (kx b j) (kx a n)):MI c a b (r.push (kx b j)) i (j+1):=by
 rw[QjA hj];refine m.chB λt t1 t2=>?_
 have:t=0:=by omega
 subst this;exact h
theorem MI.dnB(m:MI c a b r i j)(hj:j=b.size):Out c a b (r++a.extract i a.size++b.extract j b.size):=by
 have e:b.toList.drop j=[]:=Ym (by rw[Qe];omega);have e2:(r++a.extract i a.size++b.extract j b.size).toList=r.toList++a.toList.drop i:=by rw[Js,Js,QdH,QdH,e,JA]
 have pm:=m.pm;rw[e,JA] at pm;exact⟨by rw[e2];exact m.ha,by rw[e2];exact pm⟩
theorem MI.dnA(m:MI c a b r i j)(hi:i=a.size):Out c a b (r++a.extract i a.size++b.extract j b.size):=by
 have e:a.toList.drop i=[]:=Ym (by rw[Qe];omega);have e2:(r++a.extract i a.size++b.extract j b.size).toList=r.toList++b.toList.drop j:=by rw[Js,Js,QdH,QdH,e,JA]
 have pm:=m.pm;rw[e,QcI] at pm;exact⟨by rw[e2];exact m.hb,by rw[e2];exact pm⟩
theorem MI.last(m:MI c a b r i j)(hi:i+1=a.size)(p2:∀k,k<b.size->le c (kx b k) (kx a (a.size - 1))):Out c a b (r++b.extract j b.size++a.extract i a.size):=by
 have e2:(r++b.extract j b.size++a.extract i a.size).toList=(r.toList++b.toList.drop j)++a.toList.drop i:=by rw[Js,Js,QdH,QdH]
 have g:=Jx.mp m.ha;refine⟨by
  rw[e2];refine Jx.mpr ⟨m.hb,g.2.1,λu hu v hv=>?_⟩;rcases Ji.mp hu with z | z
  ·exact g.2.2 u z v hv
  ·obtain⟨n,n1,n2,rfl⟩:=Qbr hv;obtain⟨n',n3,n4,rfl⟩:=Qbr z;rw[show n=a.size - 1 by omega];exact p2 n' n4,?_⟩
 rw[e2,QR];exact QaK (Yl _ ZY) m.pm
end
structure Sm (st st':JP):Prop where
 kind:kindOf st'=kindOf st
 arr:arrOf st'=arrOf st
 pend:pendingOf st'=pendingOf st
 failed:failedOf st'=failedOf st
theorem Sm.refl(st:JP):Sm st st:=⟨rfl,rfl,rfl,rfl⟩
section
variable{prog:QB}{w:Q8}{A:Q2}{E:Value->Shared->Prop}{s:Shared}{a₀:Array Keyed}{κ:Z2}{c:Keyed->Keyed->Bool}
theorem Qfi{st st0:JP}{g:Nat}{Q:Unit->JP->Prop}(m:Sm st0 st)(h:∀st',Sm st0 st'->Q () st'):wpS (model prog w) A E s (Yv g) Q st:=by
 rw[Qd5];exact Qau (h _ ⟨m.kind,m.arr,m.pend,m.failed⟩)
theorem JI{x y:Nat}(h:x≠y):¬((x == y)=true):=λz=>h (beq_iff_eq.mp z)
theorem Qip{st:JP}{a b:Array Keyed}{Q:Array Keyed->JP->Prop}(hA:Asks prog w A s κ a₀ c)(hk:kindOf st=κ)(ma:∀p∈a.toList,p∈a₀.toList)(mb:∀p∈b.toList,p∈a₀.toList)(na:1<=a.size)(nb:1<=b.size)
  (sa:Sg c a 0 a.size)(sb:Sg c b 0 b.size)(p1:∀k,k<a.size->le c (kx b 0) (kx a k))(p2:∀k,k<b.size->le c (kx b k) (kx a (a.size - 1)))(h:∀z st',Sm st st'->Out c a b z->Q z st'):wpS (model prog w) A E s (Qgi a b) Q st:=by
 have pwl:∀{xs:Array Keyed},Sg c xs 0 xs.size->Pw c xs.toList:=λ{xs} sg=>Jq.mpr λx y hx hy hxy=>by
  rw[Qe] at hx hy;have e1:=QaO hx;have e2:=QaO hy;rw[Qd (by rw[Qe];exact hx)] at e1;rw[Qd (by rw[Qe];exact hy)] at e2;rw[Qw e1,Qw e2];exact sg x y (Qq _) (by omega) hy
 rw[QiZ]
 dsimp only
 refine Qh (Qd7 (wpAny_rule ⟨rfl,?_⟩));refine Qh (Q0 (by omega) ?_);have m0:MI c a b #[] 0 0:=⟨by rw[Z0];exact pwl sa,by rw[Z0];exact pwl sb,by rw[Z0,Z0];exact ZT _⟩;have m1:MI c a b #[kx b 0] 0 1:=MI.puB m0 (by omega) λn _ hn=>p1 n hn
 by_cases z1:1=b.size
 ·rw[if_pos (beq_iff_eq.mpr z1)];exact Qi (h _ _ (Sm.refl st) (m1.dnB z1))
 ·rw[if_neg (JI z1)];by_cases z2:0+1=a.size
  ·rw[if_pos (beq_iff_eq.mpr z2)];exact Qi (h _ _ (Sm.refl st) (m1.last z2 p2))
  ·rw[if_neg (JI z2)];refine Qh (Qcj ?_);refine Qh (Yo (JS (I:=λx z st'=>∃r i j mg,z=(none,r,i,j,mg)/\MI c a b r i j/\i+1<a.size/\j<b.size/\x+1<=i+j/\Sm st st')
    (Q:=λz st'=>∃o y,z=(some o,y)/\Out c a b o/\Sm st st') ?step ?fin ⟨_,0,1,_,rfl,m1,by omega,by omega,by omega,Sm.refl st⟩) ?post)
   case post=>
    rintro z st' ⟨o,y,rfl,ho,sm⟩;exact Qi (h o st' sm ho)
   case fin=>
    rintro z st' ⟨r,i,j,mg,rfl,m,i1,j1,x1,sm⟩;exfalso
    omega
   case step=>
    rintro x z st' _ hx ⟨r,i,j,mg,rfl,m,i1,j1,x1,sm⟩
    dsimp only
    refine Qh (Yo (JS (I:=λy z st2=>∃r i j p q,z=(none,r,i,j,p,q)/\MI c a b r i j/\i+1<a.size/\j<b.size/\x+1+y<=i+j/\Sm st st2)
     (Q:=λz st2=>(∃o y,z=(some o,y)/\Out c a b o/\Sm st st2)∨∃r i j p q,z=(none,r,i,j,p,q)/\MI c a b r i j/\i+1<a.size/\j<b.size/\x+2<=i+j/\Sm st st2) ?step1 ?fin1 ⟨r,i,j,0,0,rfl,m,i1,j1,by omega,sm⟩) ?post1)
    case fin1=>
     rintro z st2 ⟨r,i,j,p,q,rfl,m,i1,j1,x1,sm⟩;exact .inr ⟨r,i,j,p,q,rfl,m,i1,j1,by omega,sm⟩
    case step1=>
     rintro y z st2 _ hy ⟨r,i,j,p,q,rfl,m,i1,j1,x1,sm⟩
     dsimp only
     refine Qh (Q0 j1 ?_);refine Qh (Q0 (by omega) ?_);refine Qh (Qg5 hA (sm.kind.trans hk) (mb _ (QeI j1)) (ma _ (QeI (by omega))) ?_);cases e:c (kx b j) (kx a i) with
     |true=>
      dsimp only
      rw[if_pos rfl];refine Qh (Q0 j1 ?_);have m2:=MI.puB m j1 λn n1 n2=>hA.ord.tr (hA.ord.lt_le e) (sa i n (Qq _) n1 n2)
      by_cases z3:j+1=b.size
      ·rw[if_pos (beq_iff_eq.mpr z3)];exact Qi (.inl ⟨_,_,rfl,m2.dnB z3,sm⟩)
      ·rw[if_neg (JI z3)];split
       ·exact Qi (.inr ⟨_,_,_,_,_,rfl,m2,by omega,by omega,by omega,sm⟩)
       ·exact Qi ⟨_,_,_,_,_,rfl,m2,by omega,by omega,by omega,sm⟩
     |false=>
      dsimp only
      rw[if_neg (by decide)];refine Qh (Q0 (by omega) ?_);have m2:=MI.puA m (by omega) λn n1 n2=>hA.ord.tr e (sb j n (Qq _) n1 n2)
      by_cases z3:i+1+1=a.size
      ·rw[if_pos (beq_iff_eq.mpr z3)];exact Qi (.inl ⟨_,_,rfl,m2.last z3 p2,sm⟩)
      ·rw[if_neg (JI z3)];split
       ·exact Qi (.inr ⟨_,_,_,_,_,rfl,m2,by omega,by omega,by omega,sm⟩)
       ·exact Qi ⟨_,_,_,_,_,rfl,m2,by omega,by omega,by omega,sm⟩
    case post1=>
     rintro z st2 (⟨o,y,rfl,ho,sm⟩ | ⟨r,i,j,p,q,rfl,m,i1,j1,x1,sm⟩)
     ·exact Qi ⟨o,_,rfl,ho,sm⟩
     ·dsimp only
      refine Qh (Qd7 (wpAny_rule ⟨rfl,?_⟩));refine Qh (Yo (JS (I:=λy z st3=>∃r i j mg p q,z=(none,r,i,j,mg,p,q)/\MI c a b r i j/\i+1<a.size/\j<b.size/\x+2<=i+j/\Sm st st3)
       (Q:=λz st3=>(∃o y,z=(some o,y)/\Out c a b o/\Sm st st3)∨∃r i j mg p q,z=(none,r,i,j,mg,p,q)/\MI c a b r i j/\i+1<a.size/\j<b.size/\x+2<=i+j/\Sm st st3) ?step2 ?fin2 ⟨r,i,j,_,p,q,rfl,m,i1,j1,by omega,sm⟩) ?post2)
      case fin2=>
       rintro z st3 ⟨r,i,j,mg,p,q,rfl,m,i1,j1,x1,sm⟩;exact .inr ⟨r,i,j,mg,p,q,rfl,m,i1,j1,by omega,sm⟩
      case post2=>
       rintro z st3 (⟨o,y,rfl,ho,sm⟩ | ⟨r,i,j,mg,p,q,rfl,m,i1,j1,x1,sm⟩)
       ·exact Qi ⟨o,_,rfl,ho,sm⟩
       ·dsimp only
        exact Qh (Qfi sm λst4 sm4=>Qi ⟨_,_,_,_,rfl,m,i1,j1,by omega,sm4⟩)
      case step2=>
       rintro y z st3 _ hy ⟨r,i,j,mg,p,q,rfl,m,i1,j1,x1,sm⟩
       dsimp only
       by_cases z0:mg > 1
       ·rw[if_pos z0];refine Qh (Qfi sm λst4 sm4=>?_);refine Qh (Q0 (by omega) ?_);refine Qh (Zr hA (sm4.kind.trans hk) (mb _ (QeI (by omega))) ma (by omega) (by omega) (λx y x1 xy y1=>sa x y (Qq _) xy (by omega)) λk kn b1 b2=>?_);have b1:∀t,t<k->(!c (kx b j) (kx a (i+t)))=true:=λt ht=>b1 t ht
        have b2:∀t,k<=t->t<a.size - i->(!c (kx b j) (kx a (i+t)))=false:=λt h1 h2=>b2 t h1 h2
        dsimp only
        have hB1:∀n,i+k<=n->n<a.size->le c (kx b j) (kx a n):=λn n1 n2=>by
         have:=b2 (n - i) (by omega) (by omega);rw[show i+(n - i)=n by omega] at this;exact hA.ord.lt_le (by simpa using this)
        by_cases zk:k > 0
        ·rw[if_pos zk];have m2:=MI.chA (k:=k) m λt t1 t2 n n1 n2=>by
          have:=b1 t t1;exact hA.ord.tr (show le c (kx a (i+t)) (kx b j) by simpa using this) (sb j n (Qq _) n1 n2)
         by_cases z2:i+k+1=a.size
         ·rw[if_pos (beq_iff_eq.mpr z2)];exact Qi (.inl ⟨_,_,rfl,m2.last z2 p2,sm4⟩)
         ·rw[if_neg (JI z2)];by_cases z3:i+k=a.size
          ·rw[if_pos (beq_iff_eq.mpr z3)];exact Qi (.inl ⟨_,_,rfl,m2.dnA z3,sm4⟩)
          ·rw[if_neg (JI z3)];refine Qh (Q0 (by omega) ?_);have m5:=MI.puB m2 (by omega) hB1;by_cases z5:j+1=b.size
           ·rw[if_pos (beq_iff_eq.mpr z5)];exact Qi (.inl ⟨_,_,rfl,m5.dnB z5,sm4⟩)
           ·rw[if_neg (JI z5)];refine Qh (Q0 (by omega) ?_);refine Qh (Zr hA (sm4.kind.trans hk) (ma _ (QeI (by omega))) mb (by omega) (by omega) (λx y x1 xy y1=>sb x y (Qq _) xy (by omega)) λk2 k2n b1 b2=>?_);have b1:∀t,t<k2->c (kx b (j+1+t)) (kx a (i+k))=true:=λt ht=>b1 t ht
            have b2:∀t,k2<=t->t<b.size - (j+1)->c (kx b (j+1+t)) (kx a (i+k))=false:=λt h1 h2=>b2 t h1 h2
            dsimp only
            have gA:∀n,j+1+k2<=n->n<b.size->le c (kx a (i+k)) (kx b n):=λn n1 n2=>by have:=b2 (n - (j+1)) (by omega) (by omega);rwa [show j+1+(n - (j+1))=n by omega] at this
            by_cases zk2:k2 > 0
            ·rw[if_pos zk2];have m6:=MI.chB (k:=k2) m5 λt t1 t2 n n1 n2=>hA.ord.tr (hA.ord.lt_le (b1 t t1)) (sa (i+k) n (Qq _) n1 n2)
             by_cases z6:j+1+k2=b.size
             ·rw[if_pos (beq_iff_eq.mpr z6)];exact Qi (.inl ⟨_,_,rfl,m6.dnB z6,sm4⟩)
             ·rw[if_neg (JI z6)];refine Qh (Q0 (by omega) ?_);have m9:=MI.puA m6 (by omega) gA;by_cases z9:i+k+1+1=a.size
              ·rw[if_pos (beq_iff_eq.mpr z9)];exact Qi (.inl ⟨_,_,rfl,m9.last z9 p2,sm4⟩)
              ·rw[if_neg (JI z9)];split
               ·exact Qi (.inr ⟨_,_,_,_,_,_,rfl,m9,by omega,by omega,by omega,sm4⟩)
               ·exact Qi ⟨_,_,_,_,_,_,rfl,m9,by omega,by omega,by omega,sm4⟩
            ·rw[if_neg zk2];have zk2:k2=0:=by omega
             subst zk2;refine Qh (Q0 (by omega) ?_);have m9:=MI.puA m5 (by omega) gA;by_cases z9:i+k+1+1=a.size
             ·rw[if_pos (beq_iff_eq.mpr z9)];exact Qi (.inl ⟨_,_,rfl,m9.last z9 p2,sm4⟩)
             ·rw[if_neg (JI z9)];split
              ·exact Qi (.inr ⟨_,_,_,_,_,_,rfl,m9,by omega,by omega,by omega,sm4⟩)
              ·exact Qi ⟨_,_,_,_,_,_,rfl,m9,by omega,by omega,by omega,sm4⟩
        ·rw[if_neg zk];have zk:k=0:=by omega
         subst zk;refine Qh (Q0 (by omega) ?_);have m5:=MI.puB m (by omega) hB1;by_cases z5:j+1=b.size
         ·rw[if_pos (beq_iff_eq.mpr z5)];exact Qi (.inl ⟨_,_,rfl,m5.dnB z5,sm4⟩)
         ·rw[if_neg (JI z5)];refine Qh (Q0 (by omega) ?_);refine Qh (Zr hA (sm4.kind.trans hk) (ma _ (QeI (by omega))) mb (by omega) (by omega) (λx y x1 xy y1=>sb x y (Qq _) xy (by omega)) λk2 k2n b1 b2=>?_);have b1:∀t,t<k2->c (kx b (j+1+t)) (kx a (i))=true:=λt ht=>b1 t ht
          have b2:∀t,k2<=t->t<b.size - (j+1)->c (kx b (j+1+t)) (kx a (i))=false:=λt h1 h2=>b2 t h1 h2
          dsimp only
          have gA:∀n,j+1+k2<=n->n<b.size->le c (kx a (i)) (kx b n):=λn n1 n2=>by have:=b2 (n - (j+1)) (by omega) (by omega);rwa [show j+1+(n - (j+1))=n by omega] at this
          by_cases zk2:k2 > 0
          ·rw[if_pos zk2];have m6:=MI.chB (k:=k2) m5 λt t1 t2 n n1 n2=>hA.ord.tr (hA.ord.lt_le (b1 t t1)) (sa (i) n (Qq _) n1 n2)
           by_cases z6:j+1+k2=b.size
           ·rw[if_pos (beq_iff_eq.mpr z6)];exact Qi (.inl ⟨_,_,rfl,m6.dnB z6,sm4⟩)
           ·rw[if_neg (JI z6)];refine Qh (Q0 (by omega) ?_);have m9:=MI.puA m6 (by omega) gA;by_cases z9:i+1+1=a.size
            ·rw[if_pos (beq_iff_eq.mpr z9)];exact Qi (.inl ⟨_,_,rfl,m9.last z9 p2,sm4⟩)
            ·rw[if_neg (JI z9)];split
             ·exact Qi (.inr ⟨_,_,_,_,_,_,rfl,m9,by omega,by omega,by omega,sm4⟩)
             ·exact Qi ⟨_,_,_,_,_,_,rfl,m9,by omega,by omega,by omega,sm4⟩
          ·rw[if_neg zk2];have zk2:k2=0:=by omega
           subst zk2;refine Qh (Q0 (by omega) ?_);have m9:=MI.puA m5 (by omega) gA;by_cases z9:i+1+1=a.size
           ·rw[if_pos (beq_iff_eq.mpr z9)];exact Qi (.inl ⟨_,_,rfl,m9.last z9 p2,sm4⟩)
           ·rw[if_neg (JI z9)];split
            ·exact Qi (.inr ⟨_,_,_,_,_,_,rfl,m9,by omega,by omega,by omega,sm4⟩)
            ·exact Qi ⟨_,_,_,_,_,_,rfl,m9,by omega,by omega,by omega,sm4⟩
       ·rw[if_neg z0];refine Qh (Qfi sm λst4 sm4=>?_);refine Qh (Q0 (by omega) ?_);refine Qh (Zr hA (sm4.kind.trans hk) (mb _ (QeI (by omega))) ma (by omega) (by omega) (λx y x1 xy y1=>sa x y (Qq _) xy (by omega)) λk kn b1 b2=>?_);have b1:∀t,t<k->(!c (kx b j) (kx a (i+t)))=true:=λt ht=>b1 t ht
        have b2:∀t,k<=t->t<a.size - i->(!c (kx b j) (kx a (i+t)))=false:=λt h1 h2=>b2 t h1 h2
        dsimp only
        have hB1:∀n,i+k<=n->n<a.size->le c (kx b j) (kx a n):=λn n1 n2=>by
         have:=b2 (n - i) (by omega) (by omega);rw[show i+(n - i)=n by omega] at this;exact hA.ord.lt_le (by simpa using this)
        by_cases zk:k > 0
        ·rw[if_pos zk];have m2:=MI.chA (k:=k) m λt t1 t2 n n1 n2=>by
          have:=b1 t t1;exact hA.ord.tr (show le c (kx a (i+t)) (kx b j) by simpa using this) (sb j n (Qq _) n1 n2)
         by_cases z2:i+k+1=a.size
         ·rw[if_pos (beq_iff_eq.mpr z2)];exact Qi (.inl ⟨_,_,rfl,m2.last z2 p2,sm4⟩)
         ·rw[if_neg (JI z2)];by_cases z3:i+k=a.size
          ·rw[if_pos (beq_iff_eq.mpr z3)];exact Qi (.inl ⟨_,_,rfl,m2.dnA z3,sm4⟩)
          ·rw[if_neg (JI z3)];refine Qh (Q0 (by omega) ?_);have m5:=MI.puB m2 (by omega) hB1;by_cases z5:j+1=b.size
           ·rw[if_pos (beq_iff_eq.mpr z5)];exact Qi (.inl ⟨_,_,rfl,m5.dnB z5,sm4⟩)
           ·rw[if_neg (JI z5)];refine Qh (Q0 (by omega) ?_);refine Qh (Zr hA (sm4.kind.trans hk) (ma _ (QeI (by omega))) mb (by omega) (by omega) (λx y x1 xy y1=>sb x y (Qq _) xy (by omega)) λk2 k2n b1 b2=>?_);have b1:∀t,t<k2->c (kx b (j+1+t)) (kx a (i+k))=true:=λt ht=>b1 t ht
            have b2:∀t,k2<=t->t<b.size - (j+1)->c (kx b (j+1+t)) (kx a (i+k))=false:=λt h1 h2=>b2 t h1 h2
            dsimp only
            have gA:∀n,j+1+k2<=n->n<b.size->le c (kx a (i+k)) (kx b n):=λn n1 n2=>by have:=b2 (n - (j+1)) (by omega) (by omega);rwa [show j+1+(n - (j+1))=n by omega] at this
            by_cases zk2:k2 > 0
            ·rw[if_pos zk2];have m6:=MI.chB (k:=k2) m5 λt t1 t2 n n1 n2=>hA.ord.tr (hA.ord.lt_le (b1 t t1)) (sa (i+k) n (Qq _) n1 n2)
             by_cases z6:j+1+k2=b.size
             ·rw[if_pos (beq_iff_eq.mpr z6)];exact Qi (.inl ⟨_,_,rfl,m6.dnB z6,sm4⟩)
             ·rw[if_neg (JI z6)];refine Qh (Q0 (by omega) ?_);have m9:=MI.puA m6 (by omega) gA;by_cases z9:i+k+1+1=a.size
              ·rw[if_pos (beq_iff_eq.mpr z9)];exact Qi (.inl ⟨_,_,rfl,m9.last z9 p2,sm4⟩)
              ·rw[if_neg (JI z9)];split
               ·exact Qi (.inr ⟨_,_,_,_,_,_,rfl,m9,by omega,by omega,by omega,sm4⟩)
               ·exact Qi ⟨_,_,_,_,_,_,rfl,m9,by omega,by omega,by omega,sm4⟩
            ·rw[if_neg zk2];have zk2:k2=0:=by omega
             subst zk2;refine Qh (Q0 (by omega) ?_);have m9:=MI.puA m5 (by omega) gA;by_cases z9:i+k+1+1=a.size
             ·rw[if_pos (beq_iff_eq.mpr z9)];exact Qi (.inl ⟨_,_,rfl,m9.last z9 p2,sm4⟩)
             ·rw[if_neg (JI z9)];split
              ·exact Qi (.inr ⟨_,_,_,_,_,_,rfl,m9,by omega,by omega,by omega,sm4⟩)
              ·exact Qi ⟨_,_,_,_,_,_,rfl,m9,by omega,by omega,by omega,sm4⟩
        ·rw[if_neg zk];have zk:k=0:=by omega
         subst zk;refine Qh (Q0 (by omega) ?_);have m5:=MI.puB m (by omega) hB1;by_cases z5:j+1=b.size
         ·rw[if_pos (beq_iff_eq.mpr z5)];exact Qi (.inl ⟨_,_,rfl,m5.dnB z5,sm4⟩)
         ·rw[if_neg (JI z5)];refine Qh (Q0 (by omega) ?_);refine Qh (Zr hA (sm4.kind.trans hk) (ma _ (QeI (by omega))) mb (by omega) (by omega) (λx y x1 xy y1=>sb x y (Qq _) xy (by omega)) λk2 k2n b1 b2=>?_);have b1:∀t,t<k2->c (kx b (j+1+t)) (kx a (i))=true:=λt ht=>b1 t ht
          have b2:∀t,k2<=t->t<b.size - (j+1)->c (kx b (j+1+t)) (kx a (i))=false:=λt h1 h2=>b2 t h1 h2
          dsimp only
          have gA:∀n,j+1+k2<=n->n<b.size->le c (kx a (i)) (kx b n):=λn n1 n2=>by have:=b2 (n - (j+1)) (by omega) (by omega);rwa [show j+1+(n - (j+1))=n by omega] at this
          by_cases zk2:k2 > 0
          ·rw[if_pos zk2];have m6:=MI.chB (k:=k2) m5 λt t1 t2 n n1 n2=>hA.ord.tr (hA.ord.lt_le (b1 t t1)) (sa (i) n (Qq _) n1 n2)
           by_cases z6:j+1+k2=b.size
           ·rw[if_pos (beq_iff_eq.mpr z6)];exact Qi (.inl ⟨_,_,rfl,m6.dnB z6,sm4⟩)
           ·rw[if_neg (JI z6)];refine Qh (Q0 (by omega) ?_);have m9:=MI.puA m6 (by omega) gA;by_cases z9:i+1+1=a.size
            ·rw[if_pos (beq_iff_eq.mpr z9)];exact Qi (.inl ⟨_,_,rfl,m9.last z9 p2,sm4⟩)
            ·rw[if_neg (JI z9)];split
             ·exact Qi (.inr ⟨_,_,_,_,_,_,rfl,m9,by omega,by omega,by omega,sm4⟩)
             ·exact Qi ⟨_,_,_,_,_,_,rfl,m9,by omega,by omega,by omega,sm4⟩
          ·rw[if_neg zk2];have zk2:k2=0:=by omega
           subst zk2;refine Qh (Q0 (by omega) ?_);have m9:=MI.puA m5 (by omega) gA;by_cases z9:i+1+1=a.size
           ·rw[if_pos (beq_iff_eq.mpr z9)];exact Qi (.inl ⟨_,_,rfl,m9.last z9 p2,sm4⟩)
           ·rw[if_neg (JI z9)];split
            ·exact Qi (.inr ⟨_,_,_,_,_,_,rfl,m9,by omega,by omega,by omega,sm4⟩)
            ·exact Qi ⟨_,_,_,_,_,_,rfl,m9,by omega,by omega,by omega,sm4⟩
end
theorem Qi0(a b:Array Keyed):Qgj a b=(do
 rule "list.sort.merge-hi"
 let tot:=a.size+b.size
 let dn (r:Array Keyed) (i j:Nat):=a.extract 0 i++b.extract 0 j++r.reverse
 let fb (r:Array Keyed) (i j:Nat):=b.extract 0 j++a.extract 0 i++r.reverse
 let mut i:=a.size - 1
 let mut j:=b.size
 let mut r:Array Keyed:=#[<- elem' a i]
 if i == 0 then return dn r i j
 if j == 1 then return fb r i j
 let mut mg:=gallopOf (<- get)
 for _ in [0:tot] do
  let mut p:=0
  let mut q:=0
  for _ in [0:tot] do
   let some t <- lt' (<- elem' b (j - 1)) (<- elem' a (i - 1)) | return dn r i j
   if t then
    i:=i - 1;r:=r.push (<- elem' a i);p:=p+1;q:=0
    if i == 0 then return dn r i j
    if p≥mg then break
   else
    j:=j - 1;r:=r.push (<- elem' b j);q:=q+1;p:=0
    if j == 1 then return fb r i j
    if q≥mg then break
  rule "list.sort.gallop"
  mg:=mg+1
  for _ in [0:tot] do
   if mg > 1 then mg:=mg - 1
   Yv mg
   let some t <- QbW false (<- elem' b (j - 1)) a 0 i (i - 1) | return dn r i j
   let k:=i - t
   p:=k
   if k > 0 then
    r:=r++(a.extract t i).reverse;i:=t
    if i == 0 then return dn r i j
   j:=j - 1;r:=r.push (<- elem' b j)
   if j == 1 then return fb r i j
   let some t <- QbW true (<- elem' a (i - 1)) b 0 j (j - 1) | return dn r i j
   let k:=j - t
   q:=k
   if k > 0 then
    r:=r++(b.extract t j).reverse;j:=t
    if j == 1 then return fb r i j
    if j == 0 then return dn r i j
   i:=i - 1;r:=r.push (<- elem' a i)
   if i == 0 then return dn r i j
   if p<7&&q<7 then break
  mg:=mg+1
  Yv mg
 unsupported "internal:list.sort.merge-bound"):=rfl
section
variable{c:Keyed->Keyed->Bool}
theorem QrH{r ch x y:List Keyed}(h1:Pw c ((x++ch)++r))(h2:Pw c (y++r))(h:∀u∈y,∀v∈ch,le c u v):Pw c (x++(ch++r))/\Pw c (y++(ch++r)):=by
 have h1':Pw c (x++(ch++r)):=by rw[<- QR];exact h1
 refine⟨h1',?_⟩;have g:=Jx.mp h1';have g2:=Jx.mp h2;refine Jx.mpr ⟨g2.1,g.2.1,λu hu v hv=>?_⟩;rcases Ji.mp hv with z | z
 ·exact h u hu v z
 ·exact g2.2.2 u hu v z
theorem QjZ(xs:Array Keyed)(i:Nat):(xs.extract 0 i).toList=xs.toList.take i:=by
 rw[QaU,Y5,Nat.sub_zero,Z0]
theorem QaR(xs:Array Keyed)(t i:Nat):(xs.extract t i).toList=(xs.toList.take i).drop t:=by
 rw[QaU,Y5,List.take_drop];by_cases z:t<=i
 ·rw[show t+(i - t)=i by omega]
 ·rw[show i - t=0 by omega,QcT,Ym (by rw[Jl];omega),Ym (by rw[Jl];omega)]
theorem Y1{xs:Array Keyed}{t i:Nat}{p:Keyed}(h:p∈(xs.toList.take i).drop t):∃n,t<=n/\n<i/\n<xs.size/\p=kx xs n:=by
 obtain⟨n,hn⟩:=Jc.mp h;rw[Ys,Qea] at hn;split at hn
 ·rename_i z
  have hl:=(QQ.mp hn).1;rw[Qe] at hl;rw[QaO hl] at hn;exact⟨t+n,by omega,z,hl,(Qw hn).symm⟩
 ·cases hn
structure MH (c:Keyed->Keyed->Bool) (a b r:Array Keyed) (i j:Nat):Prop where
 ha:Pw c (a.toList.take i++r.toList.reverse)
 hb:Pw c (b.toList.take j++r.toList.reverse)
 pm:((a.toList.take i++b.toList.take j)++r.toList.reverse).Perm (a.toList++b.toList)
variable{a b r:Array Keyed}{i j t:Nat}
theorem Qdx(r x:Array Keyed):(r++x.reverse).toList.reverse=x.toList++r.toList.reverse:=by
 rw[Js,QcV,List.reverse_append,List.reverse_reverse]
theorem MH.chA(m:MH c a b r i j)(ht:t<=i)(h:∀n,t<=n->n<i->n<a.size->∀k,k<j->k<b.size->le c (kx b k) (kx a n)):MH c a b (r++(a.extract t i).reverse) t j:=by
 have e:a.toList.take i=a.toList.take t++(a.toList.take i).drop t:=by
  have:=(Jh t (a.toList.take i)).symm
  rwa [Qdq,Qbd ht] at this
 have h1:=m.ha;have pm:=m.pm;rw[e] at h1 pm;obtain⟨g1,g2⟩:=QrH h1 m.hb λu hu v hv=>by
  obtain⟨n,n1,n2,n3,rfl⟩:=Y1 hv;obtain⟨k,_,k2,k3,rfl⟩:=Y1 (t:=0) (by rw[Z0];exact hu);exact h n n1 n2 n3 k k2 k3
 refine⟨by rw[Qdx,QaR];exact g1,by rw[Qdx,QaR];exact g2,?_⟩;rw[Qdx,QaR];refine QaK ?_ pm
 rw[<- QR];refine Qaj _ ?_
 rw[QR,QR];exact Yl _ ZY
theorem MH.chB(m:MH c a b r i j)(ht:t<=j)(h:∀n,t<=n->n<j->n<b.size->∀k,k<i->k<a.size->le c (kx a k) (kx b n)):MH c a b (r++(b.extract t j).reverse) i t:=by
 have e:b.toList.take j=b.toList.take t++(b.toList.take j).drop t:=by
  have:=(Jh t (b.toList.take j)).symm
  rwa [Qdq,Qbd ht] at this
 have h1:=m.hb;have pm:=m.pm;rw[e] at h1 pm;obtain⟨g1,g2⟩:=QrH h1 m.ha λu hu v hv=>by
  obtain⟨n,n1,n2,n3,rfl⟩:=Y1 hv;obtain⟨k,_,k2,k3,rfl⟩:=Y1 (t:=0) (by rw[Z0];exact hu);exact h n n1 n2 n3 k k2 k3
 refine⟨by rw[Qdx,QaR];exact g2,by rw[Qdx,QaR];exact g1,?_⟩;rw[Qdx,QaR];refine QaK ?_ pm
 rw[<- QR,QR (a.toList.take i)]
theorem Qjz{xs:Array Keyed}{i:Nat}(h1:1<=i)(h:i<=xs.size):r.push (kx xs (i - 1))=r++(xs.extract (i - 1) i).reverse:=by
 apply Qb7.mp
 have e:=Qek xs (i - 1) 1;rw[show i - 1+1=i by omega] at e;rw[QbF,Js,QcV,e,Qm6 (by omega)];rfl
theorem MH.puA(m:MH c a b r i j)(h1:1<=i)(hi:i<=a.size)(h:∀k,k<j->k<b.size->le c (kx b k) (kx a (i - 1))):MH c a b (r.push (kx a (i - 1))) (i - 1) j:=by
 rw[Qjz h1 hi];refine m.chA (by omega) λn n1 n2 _=>?_
 rw[show n=i - 1 by omega];exact h
theorem MH.puB(m:MH c a b r i j)(h1:1<=j)(hj:j<=b.size)(h:∀k,k<i->k<a.size->le c (kx a k) (kx b (j - 1))):MH c a b (r.push (kx b (j - 1))) i (j - 1):=by
 rw[Qjz h1 hj];refine m.chB (by omega) λn n1 n2 _=>?_
 rw[show n=j - 1 by omega];exact h
theorem Qcb(x y r:Array Keyed)(i j:Nat):(x.extract 0 i++y.extract 0 j++r.reverse).toList=(x.toList.take i++y.toList.take j)++r.toList.reverse:=by
 rw[Js,Js,QjZ,QjZ,QcV]
theorem MH.dnA(m:MH c a b r i j)(hi:i=0):Out c a b (a.extract 0 i++b.extract 0 j++r.reverse):=by
 have pm:=m.pm;subst hi;refine⟨?_,by rw[Qcb];exact pm⟩;rw[Qcb,Quf,QcI];exact m.hb
theorem MH.dnB(m:MH c a b r i j)(hj:j=0):Out c a b (a.extract 0 i++b.extract 0 j++r.reverse):=by
 have pm:=m.pm;subst hj;refine⟨?_,by rw[Qcb];exact pm⟩;rw[Qcb,Quf,JA];exact m.ha
theorem MH.fb(m:MH c a b r i j)(hj:j=1)(p1:∀k,k<a.size->le c (kx b 0) (kx a k)):Out c a b (b.extract 0 j++a.extract 0 i++r.reverse):=by
 refine⟨?_,?_⟩
 ·rw[Qcb];have g:=Jx.mp m.hb;rw[QR];refine Jx.mpr ⟨g.1,m.ha,λu hu v hv=>?_⟩;rcases Ji.mp hv with z | z
  ·obtain⟨k,_,k2,k3,rfl⟩:=Y1 (t:=0) (by rw[Z0];exact hu);obtain⟨n,_,n2,n3,rfl⟩:=Y1 (t:=0) (by rw[Z0];exact z);rw[show k=0 by omega];exact p1 n n3
  ·exact g.2.2 u hu v z
 ·rw[Qcb];exact QaK (Qaj _ ZY) m.pm
end
section
variable{prog:QB}{w:Q8}{A:Q2}{E:Value->Shared->Prop}{s:Shared}{a₀:Array Keyed}{κ:Z2}{c:Keyed->Keyed->Bool}
theorem Qjy{xs:Array Keyed}(sg:Sg c xs 0 xs.size):Pw c xs.toList:=Jq.mpr λx y hx hy hxy=>by
 rw[Qe] at hx hy;have e1:=QaO hx;have e2:=QaO hy;rw[Qd (by rw[Qe];exact hx)] at e1;rw[Qd (by rw[Qe];exact hy)] at e2;rw[Qw e1,Qw e2];exact sg x y (Qq _) (by omega) hy
theorem Qiq{st:JP}{a b:Array Keyed}{Q:Array Keyed->JP->Prop}(hA:Asks prog w A s κ a₀ c)(hk:kindOf st=κ)(ma:∀p∈a.toList,p∈a₀.toList)(mb:∀p∈b.toList,p∈a₀.toList)(na:1<=a.size)(nb:1<=b.size)
  (sa:Sg c a 0 a.size)(sb:Sg c b 0 b.size)(p1:∀k,k<a.size->le c (kx b 0) (kx a k))(p2:∀k,k<b.size->le c (kx b k) (kx a (a.size - 1)))(h:∀z st',Sm st st'->Out c a b z->Q z st'):wpS (model prog w) A E s (Qgj a b) Q st:=by
 rw[Qi0]
 dsimp only
 refine Qh (Qd7 (wpAny_rule ⟨rfl,?_⟩));refine Qh (Q0 (by omega) ?_);have tk:∀xs:Array Keyed,xs.toList.take xs.size=xs.toList:=λxs=>Qco (by rw[Qe];exact Qg _)
 have m0:MH c a b #[] a.size b.size:=⟨by rw[tk];show Pw c (a.toList++[]);rw[JA];exact Qjy sa,by rw[tk];show Pw c (b.toList++[]);rw[JA];exact Qjy sb,by rw[tk,tk];show((a.toList++b.toList)++[]).Perm _;rw[JA]⟩;have m1:MH c a b #[kx a (a.size - 1)] (a.size - 1) b.size:=MH.puA m0 na (Qg _) λk _ hk=>p2 k hk
 by_cases z1:a.size - 1=0
 ·rw[if_pos (beq_iff_eq.mpr z1)];exact Qi (h _ _ (Sm.refl st) (m1.dnA z1))
 ·rw[if_neg (JI z1)];by_cases z2:b.size=1
  ·rw[if_pos (beq_iff_eq.mpr z2)];exact Qi (h _ _ (Sm.refl st) (m1.fb z2 p1))
  ·rw[if_neg (JI z2)];refine Qh (Qcj ?_);refine Qh (Yo (JS (I:=λx z st'=>∃r i j mg,z=(none,i,j,r,mg)/\MH c a b r i j/\1<=i/\i<=a.size/\2<=j/\j<=b.size/\x+1+i+j<=a.size+b.size/\Sm st st')
    (Q:=λz st'=>∃o y,z=(some o,y)/\Out c a b o/\Sm st st') ?step ?fin ⟨_,_,_,_,rfl,m1,by omega,by omega,by omega,by omega,by omega,Sm.refl st⟩) ?post)
   case post=>
    rintro z st' ⟨o,y,rfl,ho,sm⟩;exact Qi (h o st' sm ho)
   case fin=>
    rintro z st' ⟨r,i,j,mg,rfl,m,i1,i2,j1,j2,x1,sm⟩;exfalso
    omega
   case step=>
    rintro x z st' _ hx ⟨r,i,j,mg,rfl,m,i1,i2,j1,j2,x1,sm⟩
    dsimp only
    refine Qh (Yo (JS (I:=λy z st2=>∃r i j p q,z=(none,i,j,r,p,q)/\MH c a b r i j/\1<=i/\i<=a.size/\2<=j/\j<=b.size/\x+1+y+i+j<=a.size+b.size/\Sm st st2)
     (Q:=λz st2=>(∃o y,z=(some o,y)/\Out c a b o/\Sm st st2)∨∃r i j p q,z=(none,i,j,r,p,q)/\MH c a b r i j/\1<=i/\i<=a.size/\2<=j/\j<=b.size/\x+2+i+j<=a.size+b.size/\Sm st st2) ?step1 ?fin1 ⟨r,i,j,0,0,rfl,m,i1,i2,j1,j2,by omega,sm⟩) ?post1)
    case fin1=>
     rintro z st2 ⟨r,i,j,p,q,rfl,m,i1,i2,j1,j2,x1,sm⟩;exact .inr ⟨r,i,j,p,q,rfl,m,i1,i2,j1,j2,by omega,sm⟩
    case step1=>
     rintro y z st2 _ hy ⟨r,i,j,p,q,rfl,m,i1,i2,j1,j2,x1,sm⟩
     dsimp only
     refine Qh (Q0 (by omega) ?_);refine Qh (Q0 (by omega) ?_);refine Qh (Qg5 hA (sm.kind.trans hk) (mb _ (QeI (by omega))) (ma _ (QeI (by omega))) ?_);cases e:c (kx b (j - 1)) (kx a (i - 1)) with
     |true=>
      dsimp only
      rw[if_pos rfl];refine Qh (Q0 (by omega) ?_);have m2:=MH.puA m i1 i2 λk k1 k2=>hA.ord.tr (sb k (j - 1) (Qq _) (by omega) (by omega)) (hA.ord.lt_le e)
      by_cases z3:i - 1=0
      ·rw[if_pos (beq_iff_eq.mpr z3)];exact Qi (.inl ⟨_,_,rfl,m2.dnA z3,sm⟩)
      ·rw[if_neg (JI z3)];split
       ·exact Qi (.inr ⟨_,_,_,_,_,rfl,m2,by omega,by omega,by omega,by omega,by omega,sm⟩)
       ·exact Qi ⟨_,_,_,_,_,rfl,m2,by omega,by omega,by omega,by omega,by omega,sm⟩
     |false=>
      dsimp only
      rw[if_neg (by decide)];refine Qh (Q0 (by omega) ?_);have m2:=MH.puB m (by omega) j2 λk k1 k2=>hA.ord.tr (sa k (i - 1) (Qq _) (by omega) (by omega)) e
      by_cases z3:j - 1=1
      ·rw[if_pos (beq_iff_eq.mpr z3)];exact Qi (.inl ⟨_,_,rfl,m2.fb z3 p1,sm⟩)
      ·rw[if_neg (JI z3)];split
       ·exact Qi (.inr ⟨_,_,_,_,_,rfl,m2,by omega,by omega,by omega,by omega,by omega,sm⟩)
       ·exact Qi ⟨_,_,_,_,_,rfl,m2,by omega,by omega,by omega,by omega,by omega,sm⟩
    case post1=>
     rintro z st2 (⟨o,y,rfl,ho,sm⟩ | ⟨r,i,j,p,q,rfl,m,i1,i2,j1,j2,x1,sm⟩)
     ·exact Qi ⟨o,_,rfl,ho,sm⟩
     ·dsimp only
      refine Qh (Qd7 (wpAny_rule ⟨rfl,?_⟩));refine Qh (Yo (JS (I:=λy z st3=>∃r i j mg p q,z=(none,i,j,r,mg,p,q)/\MH c a b r i j/\1<=i/\i<=a.size/\2<=j/\j<=b.size/\x+2+i+j<=a.size+b.size/\Sm st st3)
       (Q:=λz st3=>(∃o y,z=(some o,y)/\Out c a b o/\Sm st st3)∨∃r i j mg p q,z=(none,i,j,r,mg,p,q)/\MH c a b r i j/\1<=i/\i<=a.size/\2<=j/\j<=b.size/\x+2+i+j<=a.size+b.size/\Sm st st3) ?step2 ?fin2 ⟨r,i,j,_,p,q,rfl,m,i1,i2,j1,j2,by omega,sm⟩) ?post2)
      case fin2=>
       rintro z st3 ⟨r,i,j,mg,p,q,rfl,m,i1,i2,j1,j2,x1,sm⟩;exact .inr ⟨r,i,j,mg,p,q,rfl,m,i1,i2,j1,j2,by omega,sm⟩
      case post2=>
       rintro z st3 (⟨o,y,rfl,ho,sm⟩ | ⟨r,i,j,mg,p,q,rfl,m,i1,i2,j1,j2,x1,sm⟩)
       ·exact Qi ⟨o,_,rfl,ho,sm⟩
       ·dsimp only
        exact Qh (Qfi sm λst4 sm4=>Qi ⟨_,_,_,_,rfl,m,i1,i2,j1,j2,by omega,sm4⟩)
      case step2=>
       rintro y z st3 _ hy ⟨r,i,j,mg,p,q,rfl,m,i1,i2,j1,j2,x1,sm⟩
       dsimp only
       by_cases z0:mg > 1
       ·rw[if_pos z0];refine Qh (Qfi sm λst4 sm4=>?_);refine Qh (Q0 (by omega) ?_);refine Qh (Zr hA (sm4.kind.trans hk) (mb _ (QeI (by omega))) ma (by omega) (by omega) (λx y x1 xy y1=>sa x y (Qq _) xy (by omega)) λt tn b1 b2=>?_);have lowA:∀n,n<t->le c (kx a n) (kx b (j - 1)):=λn hn=>by
         have:(!c (kx b (j - 1)) (kx a (0+n)))=true:=b1 n hn;rw[JM] at this
         simpa using this
        have b2:∀n,t<=n->n<i->c (kx b (j - 1)) (kx a n)=true:=λn h1 h2=>by
         have:(!c (kx b (j - 1)) (kx a (0+n)))=false:=b2 n h1 h2;rw[JM] at this
         simpa using this
        dsimp only
        by_cases zk:i - t > 0
        ·rw[if_pos zk];have m2:=MH.chA (t:=t) m tn λn n1 n2 _ k k1 k2=>hA.ord.tr (sb k (j - 1) (Qq _) (by omega) (by omega)) (hA.ord.lt_le (b2 n n1 n2))
         by_cases z2:t=0
         ·rw[if_pos (beq_iff_eq.mpr z2)];exact Qi (.inl ⟨_,_,rfl,m2.dnA z2,sm4⟩)
         ·rw[if_neg (JI z2)];refine Qh (Q0 (by omega) ?_);have m5:=MH.puB m2 (by omega) (by omega) λk k1 k2=>lowA k k1
          by_cases z5:j - 1=1
          ·rw[if_pos (beq_iff_eq.mpr z5)];exact Qi (.inl ⟨_,_,rfl,m5.fb z5 p1,sm4⟩)
          ·rw[if_neg (JI z5)];refine Qh (Q0 (by omega) ?_);refine Qh (Zr hA (sm4.kind.trans hk) (ma _ (QeI (by omega))) mb (by omega) (by omega) (λx y x1 xy y1=>sb x y (Qq _) xy (by omega)) λt2 t2n b1 b2=>?_);have b1:∀n,n<t2->c (kx b n) (kx a (t - 1))=true:=λn hn=>by have:=b1 n hn;rwa [JM] at this
           have b2:∀n,t2<=n->n<j - 1->c (kx b n) (kx a (t - 1))=false:=λn h1 h2=>by have:=b2 n h1 h2;rwa [JM] at this
           dsimp only
           by_cases zk2:j - 1 - t2 > 0
           ·rw[if_pos zk2];have m6:=MH.chB (t:=t2) m5 t2n λn n1 n2 _ k k1 k2=>hA.ord.tr (sa k (t - 1) (Qq _) (by omega) (by omega)) (b2 n n1 n2)
            by_cases z6:t2=1
            ·rw[if_pos (beq_iff_eq.mpr z6)];exact Qi (.inl ⟨_,_,rfl,m6.fb z6 p1,sm4⟩)
            ·rw[if_neg (JI z6)];by_cases z7:t2=0
             ·rw[if_pos (beq_iff_eq.mpr z7)];exact Qi (.inl ⟨_,_,rfl,m6.dnB z7,sm4⟩)
             ·rw[if_neg (JI z7)];refine Qh (Q0 (by omega) ?_);have m9:=MH.puA m6 (by omega) (by omega) λk k1 k2=>hA.ord.lt_le (b1 k k1)
              by_cases z9:t - 1=0
              ·rw[if_pos (beq_iff_eq.mpr z9)];exact Qi (.inl ⟨_,_,rfl,m9.dnA z9,sm4⟩)
              ·rw[if_neg (JI z9)];split
               ·exact Qi (.inr ⟨_,_,_,_,_,_,rfl,m9,by omega,by omega,by omega,by omega,by omega,sm4⟩)
               ·exact Qi ⟨_,_,_,_,_,_,rfl,m9,by omega,by omega,by omega,by omega,by omega,sm4⟩
           ·rw[if_neg zk2];have zt:t2=j - 1:=by omega
            refine Qh (Q0 (by omega) ?_);have m9:=MH.puA m5 (by omega) (by omega) λk k1 k2=>hA.ord.lt_le (b1 k (by omega))
            by_cases z9:t - 1=0
            ·rw[if_pos (beq_iff_eq.mpr z9)];exact Qi (.inl ⟨_,_,rfl,m9.dnA z9,sm4⟩)
            ·rw[if_neg (JI z9)];split
             ·exact Qi (.inr ⟨_,_,_,_,_,_,rfl,m9,by omega,by omega,by omega,by omega,by omega,sm4⟩)
             ·exact Qi ⟨_,_,_,_,_,_,rfl,m9,by omega,by omega,by omega,by omega,by omega,sm4⟩
        ·rw[if_neg zk];have zt:t=i:=by omega
         subst zt;refine Qh (Q0 (by omega) ?_);have m5:=MH.puB m (by omega) (by omega) λk k1 k2=>lowA k k1
         by_cases z5:j - 1=1
         ·rw[if_pos (beq_iff_eq.mpr z5)];exact Qi (.inl ⟨_,_,rfl,m5.fb z5 p1,sm4⟩)
         ·rw[if_neg (JI z5)];refine Qh (Q0 (by omega) ?_);refine Qh (Zr hA (sm4.kind.trans hk) (ma _ (QeI (by omega))) mb (by omega) (by omega) (λx y x1 xy y1=>sb x y (Qq _) xy (by omega)) λt2 t2n b1 b2=>?_);have b1:∀n,n<t2->c (kx b n) (kx a (t - 1))=true:=λn hn=>by have:=b1 n hn;rwa [JM] at this
          have b2:∀n,t2<=n->n<j - 1->c (kx b n) (kx a (t - 1))=false:=λn h1 h2=>by have:=b2 n h1 h2;rwa [JM] at this
          dsimp only
          by_cases zk2:j - 1 - t2 > 0
          ·rw[if_pos zk2];have m6:=MH.chB (t:=t2) m5 t2n λn n1 n2 _ k k1 k2=>hA.ord.tr (sa k (t - 1) (Qq _) (by omega) (by omega)) (b2 n n1 n2)
           by_cases z6:t2=1
           ·rw[if_pos (beq_iff_eq.mpr z6)];exact Qi (.inl ⟨_,_,rfl,m6.fb z6 p1,sm4⟩)
           ·rw[if_neg (JI z6)];by_cases z7:t2=0
            ·rw[if_pos (beq_iff_eq.mpr z7)];exact Qi (.inl ⟨_,_,rfl,m6.dnB z7,sm4⟩)
            ·rw[if_neg (JI z7)];refine Qh (Q0 (by omega) ?_);have m9:=MH.puA m6 (by omega) (by omega) λk k1 k2=>hA.ord.lt_le (b1 k k1)
             by_cases z9:t - 1=0
             ·rw[if_pos (beq_iff_eq.mpr z9)];exact Qi (.inl ⟨_,_,rfl,m9.dnA z9,sm4⟩)
             ·rw[if_neg (JI z9)];split
              ·exact Qi (.inr ⟨_,_,_,_,_,_,rfl,m9,by omega,by omega,by omega,by omega,by omega,sm4⟩)
              ·exact Qi ⟨_,_,_,_,_,_,rfl,m9,by omega,by omega,by omega,by omega,by omega,sm4⟩
          ·rw[if_neg zk2];have zt:t2=j - 1:=by omega
           refine Qh (Q0 (by omega) ?_);have m9:=MH.puA m5 (by omega) (by omega) λk k1 k2=>hA.ord.lt_le (b1 k (by omega))
           by_cases z9:t - 1=0
           ·rw[if_pos (beq_iff_eq.mpr z9)];exact Qi (.inl ⟨_,_,rfl,m9.dnA z9,sm4⟩)
           ·rw[if_neg (JI z9)];split
            ·exact Qi (.inr ⟨_,_,_,_,_,_,rfl,m9,by omega,by omega,by omega,by omega,by omega,sm4⟩)
            ·exact Qi ⟨_,_,_,_,_,_,rfl,m9,by omega,by omega,by omega,by omega,by omega,sm4⟩
       ·rw[if_neg z0];refine Qh (Qfi sm λst4 sm4=>?_);refine Qh (Q0 (by omega) ?_);refine Qh (Zr hA (sm4.kind.trans hk) (mb _ (QeI (by omega))) ma (by omega) (by omega) (λx y x1 xy y1=>sa x y (Qq _) xy (by omega)) λt tn b1 b2=>?_);have lowA:∀n,n<t->le c (kx a n) (kx b (j - 1)):=λn hn=>by
         have:(!c (kx b (j - 1)) (kx a (0+n)))=true:=b1 n hn;rw[JM] at this
         simpa using this
        have b2:∀n,t<=n->n<i->c (kx b (j - 1)) (kx a n)=true:=λn h1 h2=>by
         have:(!c (kx b (j - 1)) (kx a (0+n)))=false:=b2 n h1 h2;rw[JM] at this
         simpa using this
        dsimp only
        by_cases zk:i - t > 0
        ·rw[if_pos zk];have m2:=MH.chA (t:=t) m tn λn n1 n2 _ k k1 k2=>hA.ord.tr (sb k (j - 1) (Qq _) (by omega) (by omega)) (hA.ord.lt_le (b2 n n1 n2))
         by_cases z2:t=0
         ·rw[if_pos (beq_iff_eq.mpr z2)];exact Qi (.inl ⟨_,_,rfl,m2.dnA z2,sm4⟩)
         ·rw[if_neg (JI z2)];refine Qh (Q0 (by omega) ?_);have m5:=MH.puB m2 (by omega) (by omega) λk k1 k2=>lowA k k1
          by_cases z5:j - 1=1
          ·rw[if_pos (beq_iff_eq.mpr z5)];exact Qi (.inl ⟨_,_,rfl,m5.fb z5 p1,sm4⟩)
          ·rw[if_neg (JI z5)];refine Qh (Q0 (by omega) ?_);refine Qh (Zr hA (sm4.kind.trans hk) (ma _ (QeI (by omega))) mb (by omega) (by omega) (λx y x1 xy y1=>sb x y (Qq _) xy (by omega)) λt2 t2n b1 b2=>?_);have b1:∀n,n<t2->c (kx b n) (kx a (t - 1))=true:=λn hn=>by have:=b1 n hn;rwa [JM] at this
           have b2:∀n,t2<=n->n<j - 1->c (kx b n) (kx a (t - 1))=false:=λn h1 h2=>by have:=b2 n h1 h2;rwa [JM] at this
           dsimp only
           by_cases zk2:j - 1 - t2 > 0
           ·rw[if_pos zk2];have m6:=MH.chB (t:=t2) m5 t2n λn n1 n2 _ k k1 k2=>hA.ord.tr (sa k (t - 1) (Qq _) (by omega) (by omega)) (b2 n n1 n2)
            by_cases z6:t2=1
            ·rw[if_pos (beq_iff_eq.mpr z6)];exact Qi (.inl ⟨_,_,rfl,m6.fb z6 p1,sm4⟩)
            ·rw[if_neg (JI z6)];by_cases z7:t2=0
             ·rw[if_pos (beq_iff_eq.mpr z7)];exact Qi (.inl ⟨_,_,rfl,m6.dnB z7,sm4⟩)
             ·rw[if_neg (JI z7)];refine Qh (Q0 (by omega) ?_);have m9:=MH.puA m6 (by omega) (by omega) λk k1 k2=>hA.ord.lt_le (b1 k k1)
              by_cases z9:t - 1=0
              ·rw[if_pos (beq_iff_eq.mpr z9)];exact Qi (.inl ⟨_,_,rfl,m9.dnA z9,sm4⟩)
              ·rw[if_neg (JI z9)];split
               ·exact Qi (.inr ⟨_,_,_,_,_,_,rfl,m9,by omega,by omega,by omega,by omega,by omega,sm4⟩)
               ·exact Qi ⟨_,_,_,_,_,_,rfl,m9,by omega,by omega,by omega,by omega,by omega,sm4⟩
           ·rw[if_neg zk2];have zt:t2=j - 1:=by omega
            refine Qh (Q0 (by omega) ?_);have m9:=MH.puA m5 (by omega) (by omega) λk k1 k2=>hA.ord.lt_le (b1 k (by omega))
            by_cases z9:t - 1=0
            ·rw[if_pos (beq_iff_eq.mpr z9)];exact Qi (.inl ⟨_,_,rfl,m9.dnA z9,sm4⟩)
            ·rw[if_neg (JI z9)];split
             ·exact Qi (.inr ⟨_,_,_,_,_,_,rfl,m9,by omega,by omega,by omega,by omega,by omega,sm4⟩)
             ·exact Qi ⟨_,_,_,_,_,_,rfl,m9,by omega,by omega,by omega,by omega,by omega,sm4⟩
        ·rw[if_neg zk];have zt:t=i:=by omega
         subst zt;refine Qh (Q0 (by omega) ?_);have m5:=MH.puB m (by omega) (by omega) λk k1 k2=>lowA k k1
         by_cases z5:j - 1=1
         ·rw[if_pos (beq_iff_eq.mpr z5)];exact Qi (.inl ⟨_,_,rfl,m5.fb z5 p1,sm4⟩)
         ·rw[if_neg (JI z5)];refine Qh (Q0 (by omega) ?_);refine Qh (Zr hA (sm4.kind.trans hk) (ma _ (QeI (by omega))) mb (by omega) (by omega) (λx y x1 xy y1=>sb x y (Qq _) xy (by omega)) λt2 t2n b1 b2=>?_);have b1:∀n,n<t2->c (kx b n) (kx a (t - 1))=true:=λn hn=>by have:=b1 n hn;rwa [JM] at this
          have b2:∀n,t2<=n->n<j - 1->c (kx b n) (kx a (t - 1))=false:=λn h1 h2=>by have:=b2 n h1 h2;rwa [JM] at this
          dsimp only
          by_cases zk2:j - 1 - t2 > 0
          ·rw[if_pos zk2];have m6:=MH.chB (t:=t2) m5 t2n λn n1 n2 _ k k1 k2=>hA.ord.tr (sa k (t - 1) (Qq _) (by omega) (by omega)) (b2 n n1 n2)
           by_cases z6:t2=1
           ·rw[if_pos (beq_iff_eq.mpr z6)];exact Qi (.inl ⟨_,_,rfl,m6.fb z6 p1,sm4⟩)
           ·rw[if_neg (JI z6)];by_cases z7:t2=0
            ·rw[if_pos (beq_iff_eq.mpr z7)];exact Qi (.inl ⟨_,_,rfl,m6.dnB z7,sm4⟩)
            ·rw[if_neg (JI z7)];refine Qh (Q0 (by omega) ?_);have m9:=MH.puA m6 (by omega) (by omega) λk k1 k2=>hA.ord.lt_le (b1 k k1)
             by_cases z9:t - 1=0
             ·rw[if_pos (beq_iff_eq.mpr z9)];exact Qi (.inl ⟨_,_,rfl,m9.dnA z9,sm4⟩)
             ·rw[if_neg (JI z9)];split
              ·exact Qi (.inr ⟨_,_,_,_,_,_,rfl,m9,by omega,by omega,by omega,by omega,by omega,sm4⟩)
              ·exact Qi ⟨_,_,_,_,_,_,rfl,m9,by omega,by omega,by omega,by omega,by omega,sm4⟩
          ·rw[if_neg zk2];have zt:t2=j - 1:=by omega
           refine Qh (Q0 (by omega) ?_);have m9:=MH.puA m5 (by omega) (by omega) λk k1 k2=>hA.ord.lt_le (b1 k (by omega))
           by_cases z9:t - 1=0
           ·rw[if_pos (beq_iff_eq.mpr z9)];exact Qi (.inl ⟨_,_,rfl,m9.dnA z9,sm4⟩)
           ·rw[if_neg (JI z9)];split
            ·exact Qi (.inr ⟨_,_,_,_,_,_,rfl,m9,by omega,by omega,by omega,by omega,by omega,sm4⟩)
            ·exact Qi ⟨_,_,_,_,_,_,rfl,m9,by omega,by omega,by omega,by omega,by omega,sm4⟩
end
theorem Qi1(i:Nat):mergeAt' i=(do
 let z <- get
 let (some (u,n,pw),some (v,m,_)):=((pendingOf z)[i]?,(pendingOf z)[i+1]?) | unsupported "internal:list.sort.pending"
 set (setPending z (((pendingOf z).setIfInBounds i (u,n+m,pw)).eraseIdxIfInBounds (i+1)))
 let some k <- QbW false (<- elem' (arrOf z) v) (arrOf z) u n 0 | return false
 let (u,n):=(u+k,n - k)
 if n == 0 then return true
 let some m <- QbW true (<- elem' (arrOf z) (u+n - 1)) (arrOf z) v m (m - 1) | return false
 if m == 0 then return true
 let x:=(arrOf z).extract u v
 let y:=(arrOf z).extract v (v+m)
 let mm <- if n<=m then Qgi x y else Qgj x y
 modify λz=>setArr z (mm.toList.zipIdx.foldl (λa (p,j)=>a.setIfInBounds (u+j) p) (arrOf z))
 return (failedOf (<- get)).isNone):=rfl
theorem Qr9{σ:Type}{M:Qxd}{A:Q2}{E:Value->Shared->Prop}{s:Shared}{Q:PUnit->σ->Prop}{st st':σ}(h:Q ⟨⟩ st'):wpS M A E s (set st':StateT σ Sem PUnit) Q st:=by
 unfold wpS;rw[StateT.run_set];exact wpAny_pure ⟨rfl,h⟩
theorem QjR(u:Nat):∀(z:List Keyed)(m:Nat)(xs:Array Keyed),u+m+z.length<=xs.size->((z.zipIdx m).foldl (λa (p:Keyed×Nat)=>a.setIfInBounds (u+p.2) p.1) xs).toList=xs.toList.take (u+m)++z++xs.toList.drop (u+m+z.length)
 |[],m,xs,_=>by
  show xs.toList=_;rw[JA,QcK,QcT,Jh]
 |p::z,m,xs,h=>by
  rw[Qr] at h;rw[Qfg,QcL];have ih:=QjR u z (m+1) (xs.setIfInBounds (u+m) p) (by rw[Qid];omega);rw[ih,QgS,List.set_eq_take_append_cons_drop,if_pos (by rw[Qe];omega)];have lt:(xs.toList.take (u+m)).length=u+m:=by rw[Jl,Qe];omega
  have e1:(xs.toList.take (u+m)++p::xs.toList.drop (u+m+1)).take (u+(m+1))=xs.toList.take (u+m)++[p]:=by
   rw[List.take_append,lt,Qco (by omega),show u+(m+1) - (u+m)=1 by omega];rfl
  have e2:(xs.toList.take (u+m)++p::xs.toList.drop (u+m+1)).drop (u+(m+1)+z.length)=xs.toList.drop (u+m+(p::z).length):=by
   rw[List.drop_append,lt,Ym (by omega),QcI,show u+(m+1)+z.length - (u+m)=z.length+1 by omega,List.drop_succ_cons,Qia,Qr]
   congr 1
   omega
  rw[e1,e2,QR,QR,QR];rfl
theorem QhG{xs ys:Array Keyed}{i j:Nat}(h:xs.toList[i]? = ys.toList[j]?):kx xs i=kx ys j:=by
 rw[QY,QY] at h;exact Qi3 h
theorem Qrq{xs:Array Keyed}{u v t:Nat}(h:u+t<v)(hv:v<=xs.size):kx (xs.extract u v) t=kx xs (u+t):=by
 refine Qi3 ?_
 rw[Array.getElem?_extract,if_pos (by omega)]
section
variable{c:Keyed->Keyed->Bool}
structure Laid (c:Keyed->Keyed->Bool) (xs ws z:Array Keyed) (lo hi:Nat):Prop where
 size:ws.size=xs.size
 perm:ws.Perm xs
 out:∀n,n<lo∨hi<=n->kx ws n=kx xs n
 mid:∀n,lo<=n->n<hi->kx ws n=kx z (n - lo)
 zs:z.size=hi - lo
 of_:∀n,lo<=n->n<hi->∃m,lo<=m/\m<hi/\kx ws n=kx xs m
theorem Qto{xs z:Array Keyed}{lo v hi:Nat}(h1:lo<=v)(h2:v<=hi)(h3:hi<=xs.size)(o:Out c (xs.extract lo v) (xs.extract v hi) z):Laid c xs (z.toList.zipIdx.foldl (λa (p:Keyed×Nat)=>a.setIfInBounds (lo+p.2) p.1) xs) z lo hi:=by
 have ln:z.toList.length=hi - lo:=by
  rw[o.2.length_eq,Qv,Qe,Qe,Qbk,Qbk];omega
 have zs:z.size=hi - lo:=by rw[<- ln,Qe]
 have lb:=QjR lo z.toList 0 xs (by omega);rw[QcT,ln,show lo+(hi - lo)=hi by omega] at lb;generalize hw:z.toList.zipIdx.foldl (λa (p:Keyed×Nat)=>a.setIfInBounds (lo+p.2) p.1) xs=ws;rw[show z.toList.zipIdx 0=z.toList.zipIdx from rfl,hw] at lb;have lt:(xs.toList.take lo).length=lo:=by rw[Jl,Qe];omega
 have mid0:xs.toList=xs.toList.take lo++((xs.extract lo v).toList++(xs.extract v hi).toList)++xs.toList.drop hi:=by
  rw[QaR,QaR];have e1:xs.toList.take hi=xs.toList.take v++(xs.toList.take hi).drop v:=by
   have:=(Jh v (xs.toList.take hi)).symm
   rwa [Qdq,Qbd h2] at this
  have e2:xs.toList.take v=xs.toList.take lo++(xs.toList.take v).drop lo:=by
   have:=(Jh lo (xs.toList.take v)).symm
   rwa [Qdq,Qbd h1] at this
  rw[<- QR,<- e2,<- e1,Jh]
 have szl:ws.toList.length=xs.toList.length:=by
  rw[lb,Qv,Qv,lt,ln,Qaa,Qe];omega
 have md:∀n,lo<=n->n<hi->kx ws n=kx z (n - lo):=λn n1 n2=>by
  refine QhG ?_
  rw[lb,Zp (by rw[Qv,lt,ln];omega),Jd (by rw[lt];exact n1),lt]
 refine⟨by rw[<- Qe,szl,Qe],?_,λn hn=>?_,md,zs,λn n1 n2=>?_⟩
 ·refine Zn.mpr ?_
  rw[lb]
  conv=>rhs;rw[mid0]
  exact Qaj _ (Yl _ o.2)
 ·refine QhG ?_
  rw[lb];rcases hn with hn | hn
  ·rw[QR,Zp (by rw[lt];exact hn),Qea,if_pos hn]
  ·rw[Jd (by rw[Qv,lt,ln];omega),Qv,lt,ln,Ys]
   congr 1
   omega
 ·have hz:n - lo<z.size:=by omega
  have hm:=o.2.mem_iff.mp (QeI hz);rw[md n n1 n2];rcases Ji.mp hm with q | q
  ·rw[QaR] at q;obtain⟨m,m1,m2,_,e⟩:=Y1 q;exact⟨m,m1,by omega,e⟩
  ·rw[QaR] at q;obtain⟨m,m1,m2,_,e⟩:=Y1 q;exact⟨m,by omega,m2,e⟩
end
section
variable{prog:QB}{w:Q8}{A:Q2}{E:Value->Shared->Prop}{s:Shared}{a₀:Array Keyed}{κ:Z2}{c:Keyed->Keyed->Bool}
structure Mg (κ:Z2) (a₀:Array Keyed) (c:Keyed->Keyed->Bool) (st st':JP) (i u v hi pn pw:Nat):Prop where
 sb:SB κ a₀ st'
 pend:pendingOf st'=((pendingOf st).setIfInBounds i (u,pn,pw)).eraseIdxIfInBounds (i+1)
 out:∀n,n<u∨hi<=n->kx (arrOf st') n=kx (arrOf st) n
 sg:Sg c (arrOf st') u hi
theorem Qir{st:JP}{i u n pw m pw2:Nat}{Q:Bool->JP->Prop}(hA:Asks prog w A s κ a₀ c)(hB:SB κ a₀ st)(e1:(pendingOf st)[i]? = some (u,n,pw))(e2:(pendingOf st)[i+1]? = some (u+n,m,pw2))(n1:1<=n)(m1:1<=m)(hz:u+n+m<=a₀.size)
  (s1:Sg c (arrOf st) u (u+n))(s2:Sg c (arrOf st) (u+n) (u+n+m))(h:∀st',Mg κ a₀ c st st' i u (u+n) (u+n+m) (n+m) pw->Q true st'):wpS (model prog w) A E s (mergeAt' i) Q st:=by
 have sz:=hB.size;have mem:∀p∈(arrOf st).toList,p∈a₀.toList:=λp hp=>hB.mem hp
 have memE:∀{x y:Nat}{p:Keyed},p∈((arrOf st).extract x y).toList->p∈a₀.toList:=λ{x y p} hp=>mem p (by rw[QaR] at hp;exact Qdj (QaW hp))
 rw[Qi1];refine Qh (Qcj ?_);rw[e1,e2]
 dsimp only
 refine Qh (Qr9 ?_);refine Qh (Q0 (by omega) ?_);refine Qh (Zr hA hB.kind (mem _ (QeI (by omega))) mem (by omega) (by omega) s1 λk kn b1 b2=>?_);have b1:∀t,t<k->le c (kx (arrOf st) (u+t)) (kx (arrOf st) (u+n)):=λt ht=>by
  have:(!c (kx (arrOf st) (u+n)) (kx (arrOf st) (u+t)))=true:=b1 t ht
  simpa using this
 have b2:∀t,k<=t->t<n->c (kx (arrOf st) (u+n)) (kx (arrOf st) (u+t))=true:=λt h1 h2=>by
  have:(!c (kx (arrOf st) (u+n)) (kx (arrOf st) (u+t)))=false:=b2 t h1 h2
  simpa using this
 dsimp only
 by_cases z1:n - k=0
 ·rw[if_pos (beq_iff_eq.mpr z1)];refine Qi (h _ ⟨⟨hB.perm,hB.kind,hB.failed⟩,rfl,λ_ _=>rfl,λx y x1 xy y1=>?_⟩);show le c (kx (arrOf st) x) (kx (arrOf st) y);by_cases zx:x<u+n
  ·by_cases zy:y<u+n
   ·exact s1 x y x1 xy zy
   ·have:=b1 (x - u) (by omega);rw[show u+(x - u)=x by omega] at this;exact hA.ord.tr this (s2 (u+n) y (Qg _) (by omega) y1)
  ·exact s2 x y (by omega) xy y1
 ·rw[if_neg (JI z1)];have hl:u+k+(n - k) - 1=u+n - 1:=by omega
  rw[hl];refine Qh (Q0 (by omega) ?_);refine Qh (Zr hA hB.kind (mem _ (QeI (by omega))) mem (by omega) (by omega) s2 λm2 mn d1 d2=>?_);have d1:∀t,t<m2->c (kx (arrOf st) (u+n+t)) (kx (arrOf st) (u+n - 1))=true:=λt ht=>d1 t ht
  have d2:∀t,m2<=t->t<m->le c (kx (arrOf st) (u+n - 1)) (kx (arrOf st) (u+n+t)):=λt h1 h2=>d2 t h1 h2
  dsimp only
  by_cases z2:m2=0
  ·rw[if_pos (beq_iff_eq.mpr z2)];refine Qi (h _ ⟨⟨hB.perm,hB.kind,hB.failed⟩,rfl,λ_ _=>rfl,λx y x1 xy y1=>?_⟩);show le c (kx (arrOf st) x) (kx (arrOf st) y);by_cases zx:x<u+n
   ·by_cases zy:y<u+n
    ·exact s1 x y x1 xy zy
    ·have:=d2 (y - (u+n)) (by omega) (by omega);rw[show u+n+(y - (u+n))=y by omega] at this;exact hA.ord.tr (s1 x (u+n - 1) x1 (by omega) (by omega)) this
   ·exact s2 x y (by omega) xy y1
  ·rw[if_neg (JI z2)];have ex:∀t,t<n - k->kx ((arrOf st).extract (u+k) (u+n)) t=kx (arrOf st) (u+k+t):=λt ht=>Qrq (by omega) (by omega)
   have ey:∀t,t<m2->kx ((arrOf st).extract (u+n) (u+n+m2)) t=kx (arrOf st) (u+n+t):=λt ht=>Qrq (by omega) (by omega)
   have sx:((arrOf st).extract (u+k) (u+n)).size=n - k:=by rw[Qbk];omega
   have sy:((arrOf st).extract (u+n) (u+n+m2)).size=m2:=by rw[Qbk];omega
   have fin:∀(z:Array Keyed)(st':JP),Sm (setPending st (((pendingOf st).setIfInBounds i (u,n+m,pw)).eraseIdxIfInBounds (i+1))) st'->Out c ((arrOf st).extract (u+k) (u+n)) ((arrOf st).extract (u+n) (u+n+m2)) z ->
     wpS (model prog w) A E s (do
      modify λx=>setArr x (z.toList.zipIdx.foldl (λa (p,j)=>a.setIfInBounds (u+k+j) p) (arrOf x))
      return (failedOf (<- get)).isNone) Q st':=λz st' sm o=>by
    refine Qh (Qau (Qh (Qcj ?_)));have fe:failedOf st'=none:=sm.failed.trans hB.failed;have ae:arrOf st'=arrOf st:=sm.arr;have L:=Qto (c:=c) (xs:=arrOf st) (z:=z) (lo:=u+k) (v:=u+n) (hi:=u+n+m2) (by omega) (by omega) (by omega) o;refine Qi ?_
    show Q ((failedOf st').isNone) _;rw[fe,ae];refine h _ ⟨⟨L.perm.trans hB.perm,sm.kind.trans hB.kind,fe⟩,sm.pend,λx hx=>L.out x (by omega),λx y x1 xy y1=>?_⟩;generalize z.toList.zipIdx.foldl (λa (p:Keyed×Nat)=>a.setIfInBounds (u+k+p.2) p.1) (arrOf st)=ws at L;show le c (kx ws x) (kx ws y);have a0:∀x,u<=x->x<u+k->le c (kx (arrOf st) x) (kx (arrOf st) (u+n)):=λx g1 g2=>by have:=b1 (x - u) (by omega);rwa [show u+(x - u)=x by omega] at this
    have b9:∀y,u+n+m2<=y->y<u+n+m->le c (kx (arrOf st) (u+n - 1)) (kx (arrOf st) y):=λy g1 g2=>by have:=d2 (y - (u+n)) (by omega) (by omega);rwa [show u+n+(y - (u+n))=y by omega] at this
    by_cases zx:x<u+k
    ·rw[L.out x (.inl zx)];by_cases zy:y<u+k
     ·rw[L.out y (.inl zy)];exact s1 x y x1 xy (by omega)
     ·by_cases zy2:y<u+n+m2
      ·obtain⟨q,q1,q2,qe⟩:=L.of_ y (by omega) zy2;rw[qe];by_cases zq:q<u+n
       ·exact s1 x q x1 (by omega) zq
       ·exact hA.ord.tr (a0 x x1 zx) (s2 (u+n) q (Qg _) (by omega) (by omega))
      ·rw[L.out y (.inr (by omega))];exact hA.ord.tr (a0 x x1 zx) (s2 (u+n) y (Qg _) (by omega) y1)
    ·by_cases zx2:x<u+n+m2
     ·by_cases zy2:y<u+n+m2
      ·rw[L.mid x (by omega) zx2,L.mid y (by omega) zy2];by_cases xe:x=y
       ·subst xe;exact hA.ord.irr _
       ·have g:=Jq.mp o.1 (x - (u+k)) (y - (u+k)) (by rw[Qe,L.zs];omega) (by rw[Qe,L.zs];omega) (by omega);have k1:=QaO (xs:=z) (i:=x - (u+k)) (by rw[L.zs];omega);have k2:=QaO (xs:=z) (i:=y - (u+k)) (by rw[L.zs];omega);rw[Qd (by rw[Qe,L.zs];omega)] at k1 k2;rw[Qw k1,Qw k2] at g;exact g
      ·rw[L.out y (.inr (by omega))];obtain⟨q,q1,q2,qe⟩:=L.of_ x (by omega) zx2;rw[qe];by_cases zq:q<u+n
       ·exact hA.ord.tr (s1 q (u+n - 1) (by omega) (by omega) (by omega)) (b9 y (by omega) y1)
       ·exact s2 q y (by omega) (by omega) y1
     ·rw[L.out x (.inr (by omega)),L.out y (.inr (by omega))];exact s2 x y (by omega) xy y1
   have hsx:Sg c ((arrOf st).extract (u+k) (u+n)) 0 ((arrOf st).extract (u+k) (u+n)).size:=λx y _ xy y1=>by
    rw[sx] at y1;rw[ex x (by omega),ex y y1];exact s1 _ _ (by omega) (by omega) (by omega)
   have hsy:Sg c ((arrOf st).extract (u+n) (u+n+m2)) 0 ((arrOf st).extract (u+n) (u+n+m2)).size:=λx y _ xy y1=>by
    rw[sy] at y1;rw[ey x (by omega),ey y y1];exact s2 _ _ (by omega) (by omega) (by omega)
   have hp1:∀t,t<((arrOf st).extract (u+k) (u+n)).size->le c (kx ((arrOf st).extract (u+n) (u+n+m2)) 0) (kx ((arrOf st).extract (u+k) (u+n)) t):=λt ht=>by
    rw[sx] at ht;rw[ey 0 (by omega),ex t ht,QcT];have:=b2 (k+t) (by omega) (by omega);rw[show u+(k+t)=u+k+t by omega] at this;exact hA.ord.lt_le this
   have hp2:∀t,t<((arrOf st).extract (u+n) (u+n+m2)).size->le c (kx ((arrOf st).extract (u+n) (u+n+m2)) t) (kx ((arrOf st).extract (u+k) (u+n)) (((arrOf st).extract (u+k) (u+n)).size - 1)):=λt ht=>by
    rw[sy] at ht;rw[sx,ey t ht,ex (n - k - 1) (by omega),show u+k+(n - k - 1)=u+n - 1 by omega];exact hA.ord.lt_le (d1 t ht)
   split
   ·exact Qh (Qip hA hB.kind (λp hp=>memE hp) (λp hp=>memE hp) (by rw[sx];omega) (by rw[sy];omega) hsx hsy hp1 hp2 λz st' sm o=>fin z st' sm o)
   ·exact Qh (Qiq hA hB.kind (λp hp=>memE hp) (λp hp=>memE hp) (by rw[sx];omega) (by rw[sy];omega) hsx hsy hp1 hp2 λz st' sm o=>fin z st' sm o)
end
def RunsOk:List (Nat×Nat)->Nat->Nat->Prop
 |[],s,e=>s=e
 |(s',n)::r,s,e=>s'=s/\1<=n/\RunsOk r (s+n) e
theorem RunsOk.app:∀{l1 l2:List (Nat×Nat)}{s e:Nat},RunsOk (l1++l2) s e↔∃m,RunsOk l1 s m/\RunsOk l2 m e
 |[],l2,s,e=>⟨λh=>⟨s,rfl,h⟩,λ⟨m,h1,h2⟩=>by cases(show s=m from h1);exact h2⟩
 |(s',n)::l1,l2,s,e=>by
  constructor
  ·rintro⟨h1,h2,h3⟩;obtain⟨m,a,b⟩:=RunsOk.app.mp h3;exact⟨m,⟨h1,h2,a⟩,b⟩
  ·rintro⟨m,⟨h1,h2,a⟩,b⟩;exact⟨h1,h2,RunsOk.app.mpr ⟨m,a,b⟩⟩
theorem RunsOk.le:∀{l:List (Nat×Nat)}{s e:Nat},RunsOk l s e->s+l.length<=e
 |[],s,e,h=>by cases(show s=e from h);exact Qg _
 |(s',n)::l,s,e,⟨_,h2,h3⟩=>by
  have:=RunsOk.le h3;rw[Qr];omega
theorem RunsOk.mem:∀{l:List (Nat×Nat)}{s e:Nat},RunsOk l s e->∀p∈l,s<=p.1/\p.1+p.2<=e
 |(s',n)::l,s,e,⟨h1,h2,h3⟩,p,hp=>by
  have hl:=RunsOk.le h3;rcases Qs.mp hp with z | z
  ·subst z;show s<=s'/\s'+n<=e;omega
  ·have:=RunsOk.mem h3 p z;omega
def sn(p:Nat×Nat×Nat):Nat×Nat:=(p.1,p.2.1)
def YZ(st:JP):List (Nat×Nat):=(pendingOf st).toList.map sn
section
variable{prog:QB}{w:Q8}{A:Q2}{E:Value->Shared->Prop}{s:Shared}{a₀:Array Keyed}{κ:Z2}{c:Keyed->Keyed->Bool}
structure RI (κ:Z2) (a₀:Array Keyed) (c:Keyed->Keyed->Bool) (lo:Nat) (st:JP):Prop where
 sb:SB κ a₀ st
 runs:RunsOk (YZ st) 0 lo
 srt:∀p∈YZ st,Sg c (arrOf st) p.1 (p.1+p.2)
 le:lo<=a₀.size
theorem Sg.same{xs ys:Array Keyed}{u v:Nat}(h:Sg c xs u v)(k:∀n,u<=n->n<v->kx ys n=kx xs n):Sg c ys u v:=λi j hi hij hj=>by
 rw[k i hi (by omega),k j (by omega) hj];exact h i j hi hij hj
theorem Quq{l:List (Nat×Nat×Nat)}{i:Nat}(h:i+1<l.length):∃l1 x y l2,l=l1++x::y::l2/\l1.length=i:=by
 refine⟨l.take i,l[i],l[i+1],l.drop (i+2),?_,by rw[Jl];omega⟩;rw[<- Y6,<- Y6,Jh]
theorem Qds{st:JP}{lo i hi:Nat}{Q:Bool->JP->Prop}(hA:Asks prog w A s κ a₀ c)(ri:RI κ a₀ c lo st)(hi':i+1<(pendingOf st).size)
  (h:∀st',RI κ a₀ c lo st'->(pendingOf st').size+1=(pendingOf st).size->(∀n,lo<=n->kx (arrOf st') n=kx (arrOf st) n)->Q true st'):wpS (model prog w) A E s (mergeAt' i) Q st:=by
 obtain⟨l1,⟨u,n,pw⟩,⟨v,m,pw2⟩,l2,el,ll⟩:=Quq (l:=(pendingOf st).toList) (i:=i) (by rw[Qe];exact hi');have er:YZ st=l1.map sn++(u,n)::(v,m)::l2.map sn:=by unfold YZ;rw[el,Jj];rfl
 have r0:=ri.runs;rw[er] at r0;obtain⟨q,ra,rb⟩:=RunsOk.app.mp r0;obtain⟨g1,g2,g3,g4,g5⟩:=rb;subst g1;subst g3;have e1:(pendingOf st)[i]? = some (u,n,pw):=by
  rw[<- QY,el,Jd (by omega),ll,Qff];rfl
 have e2:(pendingOf st)[i+1]? = some (u+n,m,pw2):=by
  rw[<- QY,el,Jd (by omega),ll,show i+1 - i=1 by omega];rfl
 have le5:=RunsOk.le g5;have le1:=ri.le;refine Qir hA ri.sb e1 e2 g2 g4 (by omega) (ri.srt (u,n) (by rw[er];simp)) (ri.srt (u+n,m) (by rw[er];simp)) λst' mg=>?_
 have ep:(pendingOf st').toList=l1++(u,n+m,pw)::l2:=by
  rw[mg.pend,Array.toList_eraseIdxIfInBounds,QgS,el,List.set_append_right _ _ (by omega),ll,Qff,List.set_cons_zero,List.eraseIdx_append_of_length_le (by omega),ll,show i+1 - i=1 by omega];rfl
 have er':YZ st'=l1.map sn++(u,n+m)::l2.map sn:=by unfold YZ;rw[ep,Jj];rfl
 refine h st' ⟨mg.sb,?_,λp hp=>?_,ri.le⟩ ?_ λk hk=>mg.out k (.inr (by omega))
 ·rw[er'];exact RunsOk.app.mpr ⟨u,ra,rfl,by omega,by rw[show u+(n+m)=u+n+m by omega];exact g5⟩
 ·rw[er'] at hp;rcases Ji.mp hp with z | z
  ·have b:=RunsOk.mem ra p z;exact(ri.srt p (by rw[er];exact ZF _ z)).same λk k1 k2=>mg.out k (.inl (by omega))
  ·rcases Qs.mp z with z | z
   ·subst z;show Sg c (arrOf st') u (u+(n+m));rw[show u+(n+m)=u+n+m by omega];exact mg.sg
   ·have b:=RunsOk.mem g5 p z;exact(ri.srt p (by rw[er];exact QM _ (QK _ (QK _ z)))).same λk k1 k2=>mg.out k (.inr (by omega))
 ·rw[<- Qe,<- Qe,ep,el,Qv,Qv,Qr,Qr,Qr];omega
theorem RI.pow{st:JP}{lo:Nat}(r:RI κ a₀ c lo st)(i pw:Nat):RI κ a₀ c lo (setPending st ((pendingOf st).modify i λx=>(x.1,x.2.1,pw))):=by
 have er:YZ (setPending st ((pendingOf st).modify i λx=>(x.1,x.2.1,pw)))=YZ st:=by
  show((pendingOf st).modify i λx=>(x.1,x.2.1,pw)).toList.map sn=(pendingOf st).toList.map sn;rw[Array.toList_modify];apply YQ
  intro j;rw[Qy,Qy,List.getElem?_modify];cases(pendingOf st).toList[j]? with
  |none=>rfl
  |some p=>
   show some (sn (if i=j then _ else p))=some (sn p);split<;>rfl
 exact⟨⟨r.sb.perm,r.sb.kind,r.sb.failed⟩,by rw[er];exact r.runs,by rw[er];exact r.srt,r.le⟩
theorem Qio{st:JP}{Q:Unit->JP->Prop}(hA:Asks prog w A s κ a₀ c)(hB:SB κ a₀ st)(hp:pendingOf st=#[])
  (h:∀st',SB κ a₀ st'->Sg c (arrOf st') 0 a₀.size->Q () st'):wpS (model prog w) A E s sortRuns' Q st:=by
 rw[sortRuns'_eq];refine Qh (Qcj ?_)
 dsimp only
 rw[hB.size];have ri0:RI κ a₀ c 0 st:=⟨hB,by unfold YZ;rw[hp];rfl,λp h=>by unfold YZ at h;rw[hp] at h;simp at h,Qq _⟩;refine Qh (Yo (JS (I:=λx z st'=>∃lo,z=(none,lo)/\RI κ a₀ c lo st'/\(x<=lo∨lo=a₀.size)) (Q:=λz st'=>z=(none,a₀.size)/\RI κ a₀ c a₀.size st') ?step ?fin ⟨0,rfl,ri0,.inl (Qg _)⟩) ?post)
 case fin=>
  rintro z st' ⟨lo,rfl,ri,hx⟩;have:=ri.le;have e:lo=a₀.size:=by omega
  subst e;exact⟨rfl,ri⟩
 case step=>
  rintro x z st' _ hx ⟨lo,rfl,ri,hxl⟩
  dsimp only
  have hle:=ri.le;by_cases z0:lo≥a₀.size
  ·rw[if_pos z0];have e:lo=a₀.size:=by omega
   subst e;exact Qi ⟨rfl,ri⟩
  ·rw[if_neg z0];refine Qh (QfY hA (by omega) (by omega) ri.sb λm st1 f1 m1 m2 sg1=>?_)
   dsimp only
   have ri1:RI κ a₀ c lo st1:=⟨f1.sb,by unfold YZ;rw[f1.pend];exact ri.runs,λp hp=>by
    unfold YZ at hp;rw[f1.pend] at hp;have b:=RunsOk.mem ri.runs p hp;exact(ri.srt p hp).same λk k1 k2=>f1.low k (by omega),hle⟩
   have push:∀(n:Nat)(st2:JP),RI κ a₀ c lo st2->1<=n->lo+n<=a₀.size->Sg c (arrOf st2) lo (lo+n)->RI κ a₀ c (lo+n) (setPending st2 ((pendingOf st2).push (lo,n,0))):=λn st2 r2 n1 n2 sg=>by
    have er:YZ (setPending st2 ((pendingOf st2).push (lo,n,0)))=YZ st2++[(lo,n)]:=by
     show((pendingOf st2).push (lo,n,0)).toList.map sn=_;rw[QbF,Jj];rfl
    refine⟨⟨r2.sb.perm,r2.sb.kind,r2.sb.failed⟩,by rw[er];exact RunsOk.app.mpr ⟨lo,r2.runs,rfl,n1,rfl⟩,λp hp=>?_,n2⟩;rw[er] at hp;rcases Ji.mp hp with z | z
    ·exact r2.srt p z
    ·rw[Q3.mp z];exact sg
   by_cases zm:m<minRun' a₀.size a₀.size 0
   ·rw[if_pos zm];refine Qh (Qd7 (wpAny_rule ⟨rfl,?_⟩));refine Qh (Qeq hA (by omega) m1 (by omega) f1.sb sg1 λst2 f2 sg2=>?_);simp only[QwJ,ZB,if_false];have ri2:RI κ a₀ c lo st2:=⟨f2.sb,by unfold YZ;rw[f2.pend];exact ri1.runs,λp hp=>by
     unfold YZ at hp;rw[f2.pend] at hp;have b:=RunsOk.mem ri1.runs p hp;exact(ri1.srt p hp).same λk k1 k2=>f2.low k (by omega),hle⟩
    refine Qh (Qcj ?_);cases hb:(pendingOf st2).back? with
    |none=>
     dsimp only
     exact Qh (Qau (Qi ⟨_,rfl,push _ st2 ri2 (by omega) (by omega) sg2,by omega⟩))
    |some bb=>
     obtain⟨s1,s2,s3⟩:=bb
     dsimp only
     refine Qh (Yo (JS (I:=λ_ z st3=>z=(none,())/\RI κ a₀ c lo st3/\Sg c (arrOf st3) lo (lo+min (a₀.size - lo) (minRun' a₀.size a₀.size 0))) (Q:=λz st3=>z=(none,())/\RI κ a₀ c lo st3/\Sg c (arrOf st3) lo (lo+min (a₀.size - lo) (minRun' a₀.size a₀.size 0))) ?stepA (λ_ _ q=>q) ⟨rfl,ri2,sg2⟩) ?postA)
     case stepA=>
      rintro y z st3 _ hy ⟨rfl,r3,g3⟩;refine Qh (Qcj ?_);by_cases z5:(pendingOf st3).size > 1
      ·rw[if_pos z5,getElem?_pos (pendingOf st3) ((pendingOf st3).size - 2) (by omega)];generalize (pendingOf st3)[(pendingOf st3).size - 2]'(by omega)=pp;obtain⟨q1,q2,q3⟩:=pp
       dsimp only
       split
       ·exact Qi ⟨rfl,r3,g3⟩
       ·refine Qh (Qds (hi:=0) hA r3 (by omega) λst4 r4 sz k4=>?_);exact Qi ⟨rfl,r4,g3.same λk k1 _=>k4 k k1⟩
      ·rw[if_neg z5];exact Qi ⟨rfl,r3,g3⟩
     case postA=>
      rintro z st3 ⟨rfl,r3,g3⟩
      dsimp only
      refine Qh (Qau (Qh (Qau (Qi ⟨_,rfl,push _ _ (r3.pow _ _) (by omega) (by omega) g3,by omega⟩))))
   ·rw[if_neg zm];refine Qh (Qcj ?_);cases hb:(pendingOf st1).back? with
    |none=>
     dsimp only
     exact Qh (Qau (Qi ⟨_,rfl,push _ st1 ri1 m1 (by omega) sg1,by omega⟩))
    |some bb=>
     obtain⟨s1,s2,s3⟩:=bb
     dsimp only
     refine Qh (Yo (JS (I:=λ_ z st3=>z=(none,())/\RI κ a₀ c lo st3/\Sg c (arrOf st3) lo (lo+m)) (Q:=λz st3=>z=(none,())/\RI κ a₀ c lo st3/\Sg c (arrOf st3) lo (lo+m)) ?stepA (λ_ _ q=>q) ⟨rfl,ri1,sg1⟩) ?postA)
     case stepA=>
      rintro y z st3 _ hy ⟨rfl,r3,g3⟩;refine Qh (Qcj ?_);by_cases z5:(pendingOf st3).size > 1
      ·rw[if_pos z5,getElem?_pos (pendingOf st3) ((pendingOf st3).size - 2) (by omega)];generalize (pendingOf st3)[(pendingOf st3).size - 2]'(by omega)=pp;obtain⟨q1,q2,q3⟩:=pp
       dsimp only
       split
       ·exact Qi ⟨rfl,r3,g3⟩
       ·refine Qh (Qds (hi:=0) hA r3 (by omega) λst4 r4 sz k4=>?_);exact Qi ⟨rfl,r4,g3.same λk k1 _=>k4 k k1⟩
      ·rw[if_neg z5];exact Qi ⟨rfl,r3,g3⟩
     case postA=>
      rintro z st3 ⟨rfl,r3,g3⟩
      dsimp only
      refine Qh (Qau (Qh (Qau (Qi ⟨_,rfl,push _ _ (r3.pow _ _) m1 (by omega) g3,by omega⟩))))
 case post=>
  rintro z st' ⟨rfl,ri⟩
  dsimp only
  refine Qh (Yo (JS (I:=λx z st3=>z=(none,())/\RI κ a₀ c a₀.size st3/\((pendingOf st3).size+x<=a₀.size∨(pendingOf st3).size<=1)) (Q:=λz st3=>z=(none,())/\RI κ a₀ c a₀.size st3/\(pendingOf st3).size<=1) ?stepB ?finB ⟨rfl,ri,.inl ?initB⟩) ?postB)
  case initB=>
   have:=RunsOk.le ri.runs;unfold YZ at this;rw[Qf,Qe] at this;omega
  case finB=>
   rintro z st3 ⟨rfl,r3,hx⟩;exact⟨rfl,r3,by omega⟩
  case stepB=>
   rintro x z st3 _ hx ⟨rfl,r3,hs⟩;refine Qh (Qcj ?_);by_cases z5:(pendingOf st3).size<=1
   ·rw[if_pos z5];exact Qi ⟨rfl,r3,z5⟩
   ·rw[if_neg z5];have key:∀i,i+1<(pendingOf st3).size->wpS (model prog w) A E s (mergeAt' i) (λb st4=>b=true/\RI κ a₀ c a₀.size st4/\(pendingOf st4).size+1=(pendingOf st3).size) st3:=λi hi=>Qds (hi:=0) hA r3 hi λst4 r4 sz _=>⟨rfl,r4,sz⟩
    refine Qh (Yo (key _ ?_) ?_)
    ·have ii:∀{p:Prop}[Decidable p],(if p then(pendingOf st3).size - 2 - 1 else(pendingOf st3).size - 2)+1<(pendingOf st3).size:=by intro p _;split<;>omega
     exact ii
    ·rintro bb st4 ⟨rfl,r4,sz⟩;exact Qi ⟨rfl,r4,by omega⟩
  case postB=>
   rintro z st3 ⟨rfl,r3,hs⟩;refine Qi (h st3 r3.sb ?_);have rr:=r3.runs;have hl:(YZ st3).length<=1:=by unfold YZ;rw[Qf,Qe];exact hs
   have hsr:=r3.srt;cases er:YZ st3 with
   |nil=>
    rw[er] at rr;rw[<- (show 0=a₀.size from rr)];exact λi j hi hij hj=>by omega
   |cons p l=>
    rw[er] at rr hl hsr;cases l with
    |cons p' l'=>simp at hl
    |nil=>
     obtain⟨g1,g2,g3⟩:=rr;have:=hsr p (Q3.mpr rfl);rw[g1,(show 0+p.2=a₀.size from g3)] at this;exact this
end
end Rt
namespace L2
def blk(X:Cx)(M:List Str)(scope:Yk)(cl:List (Str×Addr))(ex:List Addr)(s3:Shared)(H3:Hp)(C:Addr):Cx where
 prog:=X.prog
 w:=X.w
 K:=X.K
 mg:=X.mg
 base:=X.base
 A:=X.A
 N:=M
 s₀:=s3
 H₀:=H3
 env:=compEnvC scope cl C X.env
 outer:=X.stack
 stack:=X.stack
 ex:=ex
 fn:=λ_=>false
 calm:=X.calm
 pn:=[]
 xe:=λ_ _=>False
def Qby(env:Env):List (Str×QaY)->List (Str×Addr)->List (Str×Addr)
 |[],acc=>acc
 |(n,k)::r,acc=>Qby env r (if k=.free then(n,(env.cells.lookup n).getD 0)::acc else acc)
theorem Qja{env:Env}:∀(l:List (Str×QaY))(acc:List (Str×Addr)),(∀x∈l,x.2=.free->∃c,env.cells.lookup x.1=some c) ->
  (forIn (m:=Sem) l acc λx cs=>(if(x.2 == Ja)=true then do let a <- cellOf env x.1;pure (JR ((x.1,a)::cs)) else pure (JR cs)))=pure (Qby env l acc)
 |[],acc,_=>rfl
 |(n,k)::r,acc,h=>by
  rw[QgP];by_cases hk:k=.free
  ·subst hk;obtain⟨c,hc⟩:=h (n,.free) Jz rfl;have e1:cellOf env n=pure c:=by unfold cellOf;rw[hc]
   have e2:Qby env ((n,.free)::r) acc=Qby env r ((n,c)::acc):=by
    show Qby env r (if Ja=.free then(n,(env.cells.lookup n).getD 0)::acc else acc)=_;rw[if_pos rfl,hc];rfl
   rw[e2];show((if(Ja == Ja)=true then do let a <- cellOf env n;pure (JR ((n,a)::acc)) else pure (JR acc)) >>= _)=_;rw[if_pos (show(Ja == Ja)=true by decide),e1];exact Qja r _ λx hx=>h x (QK _ hx)
  ·have hb:(k == Ja)=false:=by simpa using hk
   have e2:Qby env ((n,k)::r) acc=Qby env r acc:=by
    show Qby env r (if k=.free then(n,(env.cells.lookup n).getD 0)::acc else acc)=_;rw[if_neg hk]
   rw[e2];show((if(k == Ja)=true then _ else pure (JR acc)) >>= _)=_;rw[hb,if_neg Qx];exact Qja r _ λx hx=>h x (QK _ hx)
theorem QgC{scope:Yk}{env:Env}(h:∀x∈scope.names,x.2=.free->∃c,env.cells.lookup x.1=some c):closureFor scope env=pure (Qby env scope.names []):=by
 have e:=Qja (env:=env) scope.names [] h;unfold closureFor;show(forIn scope.names [] _ >>= _)=_;have e':(forIn (m:=Sem) scope.names ([]:List (Str×Addr)) λx cs=>match x with | (name,kind)=>(if(kind == Ja)=true then do let a <- cellOf env name;pure (JR ((name,a)::cs)) else pure (JR cs)))=pure (Qby env scope.names []):=e
 first
  |(rw[e'];rfl)
  |(refine Eq.trans (congrArg (λt=>t >>= _) e') ?_;rfl)
theorem Qjb{env:Env}:∀(l:List (Str×QaY))(acc:List (Str×Addr)),(∀x∈l,x.2=.free->∃c,env.cells.lookup x.1=some c)->(∀x c,acc.lookup x=some c->env.cells.lookup x=some c) ->
  (∀x c,(Qby env l acc).lookup x=some c->env.cells.lookup x=some c)/\(∀x c,acc.lookup x=some c->(Qby env l acc).lookup x=some c)/\∀x,(x,Ja)∈l->∃c,(Qby env l acc).lookup x=some c
 |[],acc,_,ha=>⟨ha,λ_ _ h=>h,λ_ h=>nomatch h⟩
 |(n,k)::r,acc,h,ha=>by
  have hr:∀x∈r,x.2=.free->∃c,env.cells.lookup x.1=some c:=λx hx=>h x (QK _ hx)
  by_cases hk:k=.free
  ·subst hk;obtain⟨c,hc⟩:=h (n,.free) Jz rfl;have e2:Qby env ((n,.free)::r) acc=Qby env r ((n,c)::acc):=by
    show Qby env r (if Ja=.free then(n,(env.cells.lookup n).getD 0)::acc else acc)=_;rw[if_pos rfl,hc];rfl
   rw[e2];have ha':∀x c',((n,c)::acc).lookup x=some c'->env.cells.lookup x=some c':=λx c' q=>by
    rw[Jk] at q;cases hx:x == n with
    |true=>
     rw[hx] at q;have z:c=c':=Qw q;have y:x=n:=by simpa using hx
     rw[y,<- z];exact hc
    |false=>rw[hx] at q;exact ha x c' q
   obtain⟨i1,i2,i3⟩:=Qjb r ((n,c)::acc) hr ha';refine⟨i1,λx c' q=>?_,λx hx=>?_⟩
   ·refine i2 x c' ?_
    rw[Jk];cases hx:x == n with
    |true=>
     have y:x=n:=by simpa using hx
     have:=ha x c' q;rw[y,hc] at this;exact this
    |false=>exact q
   ·rcases Qs.mp hx with z | z
    ·cases z;exact⟨c,i2 n c (by rw[Jk,beq_self_eq_true])⟩
    ·exact i3 x z
  ·have e2:Qby env ((n,k)::r) acc=Qby env r acc:=by
    show Qby env r (if k=.free then(n,(env.cells.lookup n).getD 0)::acc else acc)=_;rw[if_neg hk]
   rw[e2];obtain⟨i1,i2,i3⟩:=Qjb r acc hr ha;refine⟨i1,i2,λx hx=>?_⟩;rcases Qs.mp hx with z | z
   ·cases z;exact absurd rfl hk
   ·exact i3 x z
theorem Qcd{l:List (Str×QaY)}{x:Str}{k:QaY}(h:l.lookup x=some k):(x,k)∈l:=by
 induction l with
 |nil=>cases h
 |cons p r ih=>
  obtain⟨n,q⟩:=p;rw[Jk] at h;cases hx:x == n with
  |true=>
   rw[hx] at h;have y:x=n:=by simpa using hx
   have z:q=k:=Qw h;subst y z;exact Jz
  |false=>rw[hx] at h;exact QK _ (ih h)
theorem Qa6{env:Env}:∀{names:List (Str×QaY)}{x:Str}{k:QaY},(names.map λ(n,k)=>if(k == Ja&&env.scope.kind == .function&&env.kindOf n == some .cell) then(n,Yz) else(n,k)).lookup x=some k ->
  names.lookup x=some k∨(k=.cell/\names.lookup x=some .free)
 |[],x,k,h=>by cases h
 |(n,q)::r,x,k,h=>by
  have ih:=@Qa6 env r x k;rw[Q7] at h;have h':QgN x ((if(q == Ja&&env.scope.kind == .function&&env.kindOf n == some .cell)=true then(n,Yz) else(n,q))::_)=some k:=h;cases hx:x == n with
  |true=>
   by_cases hc:(q == Ja&&env.scope.kind == .function&&env.kindOf n == some .cell)=true
   ·rw[if_pos hc,Jk,hx] at h';have z:Yz=k:=Qw h';have y:q=.free:=by simp at hc;exact hc.1.1
    refine .inr ⟨z.symm,?_⟩;rw[Jk,hx,y]
   ·rw[if_neg hc,Jk,hx] at h';refine .inl ?_
    rw[Jk,hx];exact h'
  |false=>
   have h2:QgN x (r.map λ(n,k)=>if(k == Ja&&env.scope.kind == .function&&env.kindOf n == some .cell) then(n,Yz) else(n,k))=some k:=by
    by_cases hc:(q == Ja&&env.scope.kind == .function&&env.kindOf n == some .cell)=true
    ·rw[if_pos hc,Jk,hx] at h';exact h'
    ·rw[if_neg hc,Jk,hx] at h';exact h'
   rw[Jk,hx];exact ih h2
theorem relabel_free{env:Env}:∀{names:List (Str×QaY)}{x:Str},names.lookup x=some .free->(names.map λ(n,k)=>if(k == Ja&&env.scope.kind == .function&&env.kindOf n == some .cell) then(n,Yz) else(n,k)).lookup x=some .cell ∨
   (names.map λ(n,k)=>if(k == Ja&&env.scope.kind == .function&&env.kindOf n == some .cell) then(n,Yz) else(n,k)).lookup x=some .free
 |[],x,h=>by cases h
 |(n,q)::r,x,h=>by
  have ih:=@relabel_free env r x;rw[Q7];show QgN x ((if(q == Ja&&env.scope.kind == .function&&env.kindOf n == some .cell)=true then(n,Yz) else(n,q))::_)=some .cell∨QgN x ((if(q == Ja&&env.scope.kind == .function&&env.kindOf n == some .cell)=true then(n,Yz) else(n,q))::_)=some .free;cases hx:x == n with
  |true=>
   rw[Jk,hx] at h;have z:q=Ja:=Qw h;subst z;by_cases hc:(Ja == Ja&&env.scope.kind == .function&&env.kindOf n == some .cell)=true
   ·rw[if_pos hc,Jk,hx];exact .inl rfl
   ·rw[if_neg hc,Jk,hx];exact .inr rfl
  |false=>
   rw[Jk,hx] at h;by_cases hc:(q == Ja&&env.scope.kind == .function&&env.kindOf n == some .cell)=true
   ·rw[if_pos hc,Jk,hx];exact ih h
   ·rw[if_neg hc,Jk,hx];exact ih h
def Qfe(N:List Str)(sc:Yk)(M:List Str)(scope:Yk)(cap:List (Option Nat)):Bool:=
 cap.length == M.length&&(M.zip cap).all (λ(x,o)=>match o with
  |none=>scope.names.lookup x == some .local
  |some j=>N[j]? == some x&&(scope.names.lookup x == some .free&&(sc.names.lookup x == some .cell||sc.names.lookup x == some .free))) &&
 (scope.kind == .function&&scope.names.all λy=>y.2 != .cell&&((y.2 != .free||(sc.names.lookup y.1 == some .cell||sc.names.lookup y.1 == some .free))&&(y.2 != .local||scope.names.lookup y.1 == some .local)))
def Qdo(cap:List (Option Nat))(σ:St):St:=cap.map λo=>match o with
 |none=>none
 |some j=>(σ[j]?).getD none
structure CapOk (N:List Str) (sc:Yk) (M:List Str) (scope:Yk) (cap:List (Option Nat)):Prop where
 len:cap.length=M.length
 own:∀(i j:Nat)(x:Str),M[i]? = some x->cap[i]? = some (some j)->N[j]? = some x/\scope.names.lookup x=some .free/\(sc.names.lookup x=some .cell∨sc.names.lookup x=some .free)
 kind:scope.kind=.function
 cell:∀y∈scope.names,y.2≠.cell
 free:∀y∈scope.names,y.2=.free->sc.names.lookup y.1=some .cell∨sc.names.lookup y.1=some .free
 loc:∀y∈scope.names,y.2=.local->scope.names.lookup y.1=some .local
theorem CapOk.of{N:List Str}{sc:Yk}{M:List Str}{scope:Yk}{cap:List (Option Nat)}(h:Qfe N sc M scope cap=true):CapOk N sc M scope cap:=by
 unfold Qfe at h;simp only[JF,Jm,beq_iff_eq] at h;obtain⟨⟨h1,h2⟩,h3,h4⟩:=h;refine⟨h1,λi j x e1 e2=>?_,h3,λy hy z=>?_,λy hy z=>?_,λy hy z=>?_⟩
 ·have hm:(x,some j)∈M.zip cap:=by
   have:(M.zip cap)[i]? = some (x,some j):=by rw[Qh8];exact⟨e1,e2⟩
   exact QD this
  have:=h2 _ hm;simp only[JF,beq_iff_eq,QgR] at this;exact this
 ·have:=(h4 y hy).1;simp[z] at this
 ·have:=(h4 y hy).2.1
  simpa [z] using this
 ·have:=(h4 y hy).2.2
  simpa [z] using this
section
variable{X:Cx}{pins:List (Addr×Obj)}{σ:St}{H H3:Hp}{s3:Shared}{M:List Str}{scope:Yk}{cap:List (Option Nat)}{fp:List Addr}{h4:Heap}{t4:Nat}
theorem Cx.Ok.cells(ok:X.Ok){N:List Str}(c:CapOk N X.env.scope M scope cap):∀y∈scope.names,y.2=.free->∃d,X.env.cells.lookup y.1=some d:=λy hy z=>ok.has y.1 (c.free y hy z)
theorem Qdd(I:Inv X pins σ H3 s3)(c:CapOk X.N X.env.scope M scope cap)(hf:∀b∈fp,FpOk X pins H3 b)(hb:∀b∈fp,b<s3.heap.objs.size)
  (hn:h4.Ns s3.heap.objs.size λ_=>none)(hk:∀b o,s3.heap.get? b=some o->h4.get? b=some o) :
  Inv (blk X M scope (Qby X.env scope.names []) fp s3 H3 s3.heap.objs.size) [] (Qdo cap σ) H3 { s3 with heap:=h4,toks:=t4 }:=by
 obtain⟨c1,c2,c3⟩:=Qjb scope.names [] (I.ok.cells c) (λx d q=>by cases q);refine⟨⟨I.ok.mod,c.kind,I.ok.glob,I.ok.blt,Qg _,λx y d e1 e2=>I.ok.inj x y d (c1 x d e1) (c1 y d e2),λx hx=>?_,(λx d z=>nomatch z),I.ok.hd,I.ok.frames,.inl rfl,λb hb'=>?_,I.bs,
  Q4 I.ok.bsz I.sz,λb o e z=>?_,λb hb' z=>?_,I.stack,I.stkFree⟩,rfl,I.bare,Un.kept hk,⟨_,hn,λi x v e1 e2 e3=>?_⟩,λx d e=>?_,I.hok.fresh (Qg _),λx d e=>I.freeC x d (c1 x d e),λp hp=>(nomatch hp),I.hok.kept hk,?_⟩
 ·have hx':(relabel scope X.env).names.lookup x=some .cell∨(relabel scope X.env).names.lookup x=some .free:=hx;rcases hx' with q | q
  ·rcases Qa6 q with z | ⟨_,z⟩
   ·exact absurd rfl (c.cell _ (Qcd z))
   ·exact c3 x (Qcd z)
  ·rcases Qa6 q with z | ⟨z,_⟩
   ·exact c3 x (Qcd z)
   ·cases z
 ·obtain⟨f0,f1,f2,f3,f4,f5⟩:=hf b hb';exact⟨QC (hb b hb'),λx d e=>f4 x d (c1 x d e)⟩
 ·obtain⟨f0,f1,f2,f3,f4,f5⟩:=hf b z;rcases f3 with q | q
  ·exact I.ok.noex b o e q
  ·exact absurd (QN (Qo e) (Q4 I.ok.bsz q)) (YW _)
 ·obtain⟨f0,f1,f2,f3,f4,f5⟩:=hf b hb';rcases Qs.mp (I.stkSub b z) with q | q
  ·exact f1 q
  ·exact f2 q
 ·have e2':(cap.map λo=>match o with | none=>none | some j=>(σ[j]?).getD none)[i]? = some (some v):=e2;rw[Qy] at e2';cases q:cap[i]? with
  |none=>rw[q] at e2';cases e2'
  |some o=>
   rw[q] at e2';cases o with
   |none=>cases e2'
   |some j=>
    have e4:(σ[j]?).getD none=some v:=Qw e2';have e5:σ[j]? = some (some v):=by
     cases r:σ[j]? with
     |none=>rw[r] at e4;cases e4
     |some o=>rw[r] at e4;exact congrArg some e4
    obtain⟨n1,n2,n3⟩:=c.own i j x e1 q;obtain⟨m,hm,hl⟩:=I.loc;obtain⟨u,ru,lk⟩:=hl j x v n1 e5 (n3.elim (λz=>.inr (.inl z)) λz=>.inr (.inr z));refine⟨u,ru,.inr ?_⟩;rcases lk with⟨k1,_⟩ | ⟨_,d,k2,k3⟩
    ·have k1':X.env.scope.names.lookup x=some .local:=k1;rcases n3 with z | z<;>(rw[z] at k1';cases k1')
    ·obtain⟨d',hd'⟩:=c3 x (Qcd n2);have ed:d'=d:=by
      have:=c1 x d' hd';rw[k2] at this;exact(Qw this).symm
     subst ed;exact⟨(relabel_free n2:(relabel scope X.env).names.lookup x=some .cell∨(relabel scope X.env).names.lookup x=some .free),d',hd',k3.keeps hk⟩
 ·obtain⟨v,q⟩:=I.cell x d (c1 x d e);exact⟨v,q.keeps hk⟩
 ·show(cap.map _).length=M.length;rw[Qf];exact c.len
theorem Qnv{σ':St}{s':Shared}{h':Heap}(I:Inv X pins σ H3 s3)(hf:∀b∈fp,FpOk X pins H3 b)(J:Inv (blk X M scope (Qby X.env scope.names []) fp s3 H3 s3.heap.objs.size) [] σ' H s')(hs:Qag s3.heap.objs.size s'.heap h') :
  Inv X pins σ H { s' with heap:=h' }:=by
 have u:Un (frs X.stack) fp H3 H s3.heap s'.heap:=J.base;have ne:∀b o,s3.heap.get? b=some o->b≠s3.heap.objs.size:=λb o e=>QC (Qo e)
 have hC:H s3.heap.objs.size=none:=J.free;refine I.call' (ch:=fp) (s':={ s' with heap:=h' }) J.os ⟨λb o e n hb hx=>(hs.2 b (ne b o e)).trans (u.keep b o e n hb hx),λb o e n hb hx=>?_,u.free,λb o e hx=>?_,u.tups,u.frzs,u.tbls⟩ (λb o e=>?_) J.bare λb hb=>?_
 ·obtain⟨sl,q⟩:=u.slot b o e n hb hx;exact⟨sl,(hs.2 b (ne b o e)).trans q⟩
 ·obtain⟨o',q⟩:=u.there b o e hx;exact⟨o',(hs.2 b (ne b o e)).trans q⟩
 ·refine(J.hok b o e).stay (λc v hc q=>(hs.2 c ?_).trans q) (λ_ q=>q) λ_ _ q=>q
  rintro rfl;rcases hc with z | z
  ·rw[<- z,hC] at e;cases e
  ·rw[hC] at z;cases z
 ·obtain⟨f0,f1,f2,f3,f4,f5⟩:=hf b hb;exact⟨f3,f1,f4,f5⟩
end
def Wk:St->St->Prop
 |[],[]=>True
 |none::a,_::b=>Wk a b
 |some v::a,some u::b=>v=u/\Wk a b
 |_,_=>False
theorem Wk.len:∀{a b:St},Wk a b->a.length=b.length
 |[],[],_=>rfl
 |none::a,_::b,h=>congrArg (·+1) (Wk.len (a:=a) (b:=b) h)
 |some v::a,some u::b,h=>congrArg (·+1) (Wk.len (a:=a) (b:=b) h.2)
 |[],_::_,h=>h.elim
 |some _::_,[],h=>h.elim
 |none::_,[],h=>h.elim
 |some _::_,none::_,h=>h.elim
theorem Wk.get:∀{a b:St},Wk a b->∀(i:Nat) v,a[i]? = some (some v)->b[i]? = some (some v)
 |[],[],_,i,v,h=>by simp at h
 |none::a,x::b,h,0,v,e=>by simp at e
 |none::a,x::b,h,i+1,v,e=>by
  simp only[Ye] at e ⊢;exact Wk.get (a:=a) (b:=b) h i v e
 |some q::a,some u::b,h,0,v,e=>by
  simp only[Qjo] at e ⊢;rw[<- h.1];exact e
 |some q::a,some u::b,h,i+1,v,e=>by
  simp only[Ye] at e ⊢;exact Wk.get (a:=a) (b:=b) h.2 i v e
 |[],_::_,h,_,_,_=>h.elim
 |some _::_,[],h,_,_,_=>h.elim
 |none::_,[],h,_,_,_=>h.elim
 |some _::_,none::_,h,_,_,_=>h.elim
theorem Inv.wk{X:Cx}{pins:List (Addr×Obj)}{σ σ':St}{H:Hp}{s:Shared}(I:Inv X pins σ H s)(h:Wk σ' σ):Inv X pins σ' H s:=I.weak h.len h.get
def QfZ(J:It)(body:V->Hp->(Hp->Prop)->Prop)(Qn:Hp->Prop)(H:Hp):Prop:=
 ∃W:Nat->Nat->Hp->Prop,(∃m,W 0 m H)/\∀i m H2,W i m H2->(J.stop i H2/\Qn H2)∨(J.go i H2/\∀x H3,J.yld i H2 x H3->body x H3 λH6=>∃m',m'<m/\W (i+1) m' H6)
abbrev Act:=(Shared->Prop)->Shared->Prop
def BodyOk(Y:Cx)(σ:St)(act:Act)(b:Hp->(Hp->Prop)->Prop):Prop:=
 ∀(pins:List (Addr×Obj))(s:Shared)(H:Hp)(k:Hp->Prop)(Q:Shared->Prop),Inv Y pins σ H s->b H k->(∀s' H',Inv Y pins σ H' s'->k H'->Q s')->act Q s
theorem Qc8{Y:Cx}{σ:St}{tg:QZ}{elt:QZ}{gens:List QcU}{scope:Yk}{cpos:Pos}{d:Nat}{it D:Addr}{fp:List Addr}{tn:Nat->Heap->Prop}{J:It}{pins:List (Addr×Obj)}{s:Shared}{H:Hp}{body:V->Hp->(Hp->Prop)->Prop}{Qn:Hp->Prop}{R:QrW->Shared->Prop}{act:Value->Act}
  (hc:Y.calm=true)(T:Turn Y.prog Y.w Y.K tg J fp it tn)(st:tn 0 s.heap)(hf:∀b∈fp,FpOk Y pins H b)
  (hturn:∀(Q:PySem.Fin->Shared->Prop)(E:Value->Shared->Prop)(s:Shared),wpAny (model Y.prog Y.w) Y.A (pyNext (.ref it)) (λr s1=>match r with
   |none=>Q (.done .next) s1
   |some v=>wpAny (model Y.prog Y.w) Y.A (letOwnedTupleGo tg (.ref it) v) (λ_ s2=>act v (λs3=>Q (.again (.compLoop (.ListComp elt gens scope cpos) d (.ref it) (.ref D) Y.env)) s3) s2) E s1) E s ->
   wpAny (model Y.prog Y.w) Y.A (compTurn (.ListComp elt gens scope cpos) d (.ref it) (.ref D) Y.env) Q E s)
  (hact:∀(x:V)(u:Value),RelV x u->BodyOk Y σ (act u) (body x))
  (I:Inv Y pins σ H s)(h:QfZ J body Qn H)(hR:∀s' H',Inv Y pins σ H' s'->Qn H'->R (.ok .next) s') :
  codeAny (model Y.prog Y.w) Y.A (.compLoop (.ListComp elt gens scope cpos) d (.ref it) (.ref D) Y.env) R s:=by
 obtain⟨W,⟨m0,w0⟩,turn⟩:=h;have stat:∀{H':Hp},(∀b∈fp,H' b=none)->∀b∈fp,FpOk Y pins H' b:=λhn b hb=>⟨hn b hb,(hf b hb).2⟩
 refine codeAny_loop rfl (λn s'=>∃i H',Inv Y pins σ H' s'/\tn i s'.heap/\(∀b∈fp,H' b=none)/\W i n H') (λn s3 hI=>?_) m0 ⟨0,H,I,st,λb hb=>(hf b hb).1,w0⟩;show wpAny _ Y.A ((compTurn (.ListComp elt gens scope cpos) d (.ref it) (.ref D) Y.env).onRaise (λx=>do noteFrame x Y.env;theTreesLotGoes x)) _ _ s3;refine wpAny_noted (hturn _ _ _ ?_);obtain⟨i,H3,I3,st3,fr3,w3⟩:=hI;rcases turn i n H3 w3 with⟨stop,qn⟩ | ⟨go,step⟩
 ·refine thn (T.done Y rfl rfl rfl hc i pins s3 σ H3 _ I3 (stat fr3) st3 stop) λr s4 ⟨hr,I4⟩=>?_
  subst hr;exact hR s4 H3 I4 qn
 ·refine thn (T.item Y rfl rfl rfl hc i pins s3 σ H3 _ I3 (stat fr3) st3 go) λr s4 ⟨u,hr,h4⟩=>?_
  subst hr;refine thn h4 λ_ s5 ⟨x,H5,I5,r5,y5,st5,fr5⟩=>?_
  have I5':=I5.pinned (stat fr5) (T.obj _ _ st5);refine hact x u r5 _ s5 H5 _ _ I5' (step x H5 y5) λs7 H7 I7 ⟨m',hm,w7⟩=>?_
  refine⟨rfl,m',hm,i+1,H7,I7.unpinned,T.keep _ _ _ st5 λb hb o e=>(I7.pin (b,o) (QM _ (QM _ (QaI hb e)))).1,λb hb=>?_,w7⟩;obtain⟨o,e,dd⟩:=T.obj _ _ st5 b hb;exact(I7.pin (b,o) (QM _ (QM _ (QaI hb e)))).2.1
abbrev Qiu (ifs:List QZ) (env:Env):Sem Bool:=forIn ifs true λc r=>if r=true then do let ok <- isTrue c env (eval c env);pure (JR ok) else pure (JR r)
def PTs(Y:Cx)(ifs:List QZ)(t:TT):Prop:=
 ∀(pins:List (Addr×Obj))(s:Shared)(σ:St)(H:Hp)(Q:Bool->Hp->Prop),Inv Y pins σ H s->t σ H Q->wpAny (model Y.prog Y.w) Y.A (Qiu ifs Y.env) (TP Y pins σ Q) Y.xe s
def Qet:TT:=λ_ H Q=>Q true H
theorem QiM{Y:Cx}:PTs Y [] Qet:=λpins s σ H Q I h=>wpAny_tests_nil ⟨H,I,h⟩
theorem QiL{Y:Cx}{c:QZ}{t:TT}(h:PT Y c t):PTs Y [c] t:=λpins s σ H Q I q=>wpAny_tests_one (h pins s σ H Q I q)
def QnD(Y:Cx)(tg:QZ)(ifs:List QZ)(inner:Act):Value->Act:=λu Q s=>
 wpAny (model Y.prog Y.w) Y.A (assign tg Y.env u) (λ_ s4=>wpAny (model Y.prog Y.w) Y.A (Qiu ifs Y.env) (λok s5=>if ok=true then inner Q s5 else Q s5) (λ_ _=>False) s4) (λ_ _=>False) s
def bOf(σ:St)(g:TG)(tc:TT)(inner:St->Hp->(Hp->Prop)->Prop):V->Hp->(Hp->Prop)->Prop:=λx H k=>g x σ H λσ4 H4=>Wk σ σ4/\tc σ4 H4 λb H5=>
 if b=true then inner σ4 H5 k else k H5
theorem QeY{Y:Cx}{σ:St}{tg:QZ}{ifs:List QZ}{g:TG}{tc:TT}{inner:Act}{ri:St->Hp->(Hp->Prop)->Prop}(hx:Y.xe=λ_ _=>False)(hg:PG Y tg g)(ht:PTs Y ifs tc)(he:∀σ4,BodyOk Y σ4 inner (ri σ4))(x:V)(u:Value)(r:RelV x u) :
  BodyOk Y σ (QnD Y tg ifs inner u) (bOf σ g tc ri x):=by
 intro pins s H k Q I h hQ;have hx':∀(v:Value)(s':Shared),Y.xe v s'->False:=λv s' z=>by rw[hx] at z;exact z
 refine wpAny_mono (hg pins s σ H x u _ I r h) (λ_ s4 ⟨σ4,H4,I4,wk,q4⟩=>?_) hx';refine wpAny_mono (ht pins s4 σ4 H4 _ I4 q4) (λb s5 ⟨H5,I5,q5⟩=>?_) hx';cases b with
 |false=>
  rw[if_neg Qx] at q5;rw[if_neg Qx];exact hQ s5 H5 (I5.wk wk) q5
 |true=>
  rw[if_pos rfl] at q5;rw[if_pos rfl];exact he σ4 pins s5 H5 k Q I5 q5 λs' H' I' k'=>hQ s' H' (I'.wk wk) k'
def QnG(Y:Cx)(elt:QZ)(D:Addr):Act:=λQ s=>wpAny (model Y.prog Y.w) Y.A (eval elt Y.env) (λv s6=>wpAny (model Y.prog Y.w) Y.A (call (.builtin "list.append") [.ref D,v]) (λ_ s7=>Q s7) (λ_ _=>False) s6) (λ_ _=>False) s
def QtU(p:Addr)(te:TE):St->Hp->(Hp->Prop)->Prop:=λσ H k=>te σ H λv H6=>∃ys,H6 p=some (.lst ys)/\ys.length<sizeLine/\k (upd H6 p (.lst (ys++[v])))
theorem QgH{Y:Cx}{σ:St}{elt:QZ}{te:TE}{D:Addr}(hx:Y.xe=λ_ _=>False)(he:PE Y elt te):BodyOk Y σ (QnG Y elt D) (QtU D te σ):=by
 intro pins s H k Q I h hQ;have hx':∀(v:Value)(s':Shared),Y.xe v s'->False:=λv s' z=>by rw[hx] at z;exact z
 refine wpAny_mono (he pins s σ H _ I h) (λv s6 ⟨y,H6,I6,r6,ys,e,hz,q⟩=>?_) hx';exact wpAny_mono (QhB (X:=Y) pins s6 σ H6 (.ref D) [y] (.ref D) [v] (λ_ H'=>k H') I6 rfl (.cons r6 .nil) ⟨D,ys,y,rfl,rfl,e,hz,q⟩) (λ_ s7 ⟨_,H7,I7,_,q7⟩=>hQ s7 H7 I7 q7) hx'
theorem Qjs{Y:Cx}{elt tg iter:QZ}{ifs:List QZ}{scope:Yk}{cpos:Pos}{it D:Addr}(Q:PySem.Fin->Shared->Prop)(E:Value->Shared->Prop)(s:Shared)
  (h:wpAny (model Y.prog Y.w) Y.A (pyNext (.ref it)) (λr s1=>match r with
   |none=>Q (.done .next) s1
   |some v=>wpAny (model Y.prog Y.w) Y.A (letOwnedTupleGo tg (.ref it) v) (λ_ s2=>QnD Y tg ifs (QnG Y elt D) v (λs3=>Q (.again (.compLoop (.ListComp elt [⟨tg,iter,ifs,0⟩] scope cpos) 0 (.ref it) (.ref D) Y.env)) s3) s2) E s1) E s) :
  wpAny (model Y.prog Y.w) Y.A (compTurn (.ListComp elt [⟨tg,iter,ifs,0⟩] scope cpos) 0 (.ref it) (.ref D) Y.env) Q E s:=by
 rw[compTurn_list];refine wpAny_bind (wpAny_standAt (wpAny_bind (thn h λr s1 h1=>?_)));cases r with
 |none=>exact wpAny_pure h1
 |some v=>
  refine wpAny_bind (thn h1 λ_ s2 h2=>?_);refine wpAny_bind (wpAny_mono h2 (λ_ s4 h4=>wpAny_bind (wpAny_mono h4 (λok s5 h5=>?_) λ_ _ f=>f.elim)) λ_ _ f=>f.elim);cases ok with
  |false=>exact wpAny_pure h5
  |true=>exact wpAny_bind (wpAny_bind (wpAny_mono h5 (λx s6 h6=>wpAny_bind (wpAny_mono h6 (λ_ s7 h7=>wpAny_pure (wpAny_pure h7)) λ_ _ f=>f.elim)) λ_ _ f=>f.elim))
def tComp(cap:List (Option Nat))(wi:TI)(g:TG)(tc:TT)(te:TE):TE:=λσ H Q=>wi σ H λJ H1=>∀p,H1 p=none->QfZ J (bOf (Qdo cap σ) g tc (QtU p te)) (Q (.ref p)) (upd H1 p (.lst []))
theorem FpOk.upd{X:Cx}{pins:List (Addr×Obj)}{H:Hp}{b a:Addr}{o:HO}(h:FpOk X pins H b)(hne:b≠a):FpOk X pins (upd H a o) b:=⟨by rw[JK hne];exact h.1,h.2⟩
theorem Qeh{X:Cx}{M:List Str}{cap:List (Option Nat)}{elt tg iter:QZ}{ifs:List QZ}{scope:Yk}{pos:Pos}{wi:TI}{g:TG}{tc:TT}{te:TE}(hc:X.calm=true)(ok:Qfe X.N X.env.scope M scope cap=true)
  (hi:PI X tg iter wi)(hb:∀cl ex s3 H3 C,PG (blk X M scope cl ex s3 H3 C) tg g/\PTs (blk X M scope cl ex s3 H3 C) ifs tc/\PE (blk X M scope cl ex s3 H3 C) elt te)
  (hs:∀x,foldedSetIterable iter X.env x=pure x:=by intro _;rfl):PE X (.ListComp elt [⟨tg,iter,ifs,0⟩] scope pos) (tComp cap wi g tc te):=by
 intro pins s σ H Q I h;have c:=CapOk.of ok;rw[eval_ListComp];refine Qav (use:=none) rfl hs (QgC (I.ok.cells c)) c.kind c.loc ?_
 refine thn (hi pins s σ H _ I h) λv s1 h1=>thn h1 λitv s2 h2=>?_
 obtain⟨it,fp,tn,J,H2,e,I2,T,st2,f2,hW⟩:=h2;subst e;refine JJ (Qbh c.cell (by intro y hy;simp at hy) (λh₁ hns₁ hsb₁=>?_) c.kind);have I3:Inv X pins σ (upd H2 s2.heap.objs.size (.lst [])) { s2 with heap:=s2.heap.push { cls:=.type "list",data:=.seq ([]:List Value).toArray } }:=I2.lnew (t':=s2.toks) (ys:=[]) .nil (Qq _);have lt2:∀b∈fp,b<s2.heap.objs.size:=λb hb=>by obtain⟨o,e,_⟩:=T.obj _ _ st2 b hb;exact Qo e
 have f3:∀b∈fp,FpOk X pins (upd H2 s2.heap.objs.size (.lst [])) b:=λb hb=>(f2 b hb).upd (QC (lt2 b hb))
 generalize hs3:({ s2 with heap:=s2.heap.push { cls:=.type "list",data:=.seq ([]:List Value).toArray } }:Shared)=s3 at I3;have e3:s3.heap=s2.heap.push { cls:=.type "list",data:=.seq ([]:List Value).toArray }:=by rw[<- hs3]
 have z3:s3.heap.objs.size=s2.heap.objs.size+1:=by rw[e3,JH]
 have hk:∀b o,s3.heap.get? b=some o->h₁.get? b=some o:=λb o e=>hsb₁.extBut b o (by
  have:=Qo e;rw[e3] at this;exact QC this) (Qc _ (e3 ▸ e))
 have hn₁:h₁.Ns s3.heap.objs.size λ_=>none:=by rw[e3];exact hns₁
 have B:=Qdd (t4:=s3.toks+([]:List (Str×Value)).length) (fp:=fp) I3 c f3 (λb hb=>by rw[z3];exact ZM (lt2 b hb)) hn₁ hk;have st4:tn 0 h₁:=T.keep _ _ _ st2 λb hb o e=>hk b o (by rw[e3];exact Qc _ e)
 have fp4:∀b∈fp,FpOk (blk X M scope (Qby X.env scope.names []) fp s3 (upd H2 s2.heap.objs.size (.lst [])) s3.heap.objs.size) [] (upd H2 s2.heap.objs.size (.lst [])) b:=λb hb=>by
  refine⟨(f3 b hb).1,(B.ok.exf b hb).1,B.ok.exfs b hb,.inl hb,(B.ok.exf b hb).2,λp hp=>(nomatch hp)⟩
 obtain⟨hg,ht,he⟩:=hb (Qby X.env scope.names []) fp s3 (upd H2 s2.heap.objs.size (.lst [])) s3.heap.objs.size;have loop:codeAny (model X.prog X.w) X.A (.compLoop (.ListComp elt [⟨tg,iter,ifs,0⟩] scope pos) 0 (.ref it) (.ref s2.heap.objs.size) (compEnvC scope (Qby X.env scope.names []) s3.heap.objs.size X.env))
   (compPost (model X.prog X.w) X.A X.xe none (EP X pins σ Q) (.ref s2.heap.objs.size) s3.heap.objs.size) { s3 with heap:=h₁,toks:=s3.toks+([]:List (Str×Value)).length }:=by
  refine Qc8 (Y:=blk X M scope (Qby X.env scope.names []) fp s3 (upd H2 s2.heap.objs.size (.lst [])) s3.heap.objs.size) (gens:=[⟨tg,iter,ifs,0⟩]) (d:=0) hc T st4 fp4
   (λQ E s h=>Qjs Q E s h) (λx u r=>QeY rfl hg ht (λσ4=>QgH rfl he) x u r) B (hW _ (I2.hok.fresh (Qg _))) λs' H' I' q=>?_
  obtain⟨m,hn,_⟩:=I'.loc;exact⟨m,hn,λh' hs'=>⟨.ref s2.heap.objs.size,H',Qnv I3 f3 I' hs',rfl,q⟩⟩
 exact Qdp loop (T.self _ 0 _ _ _ st4 loop)
section
variable{X:Cx}
theorem Zv:CallR X (.builtin "isinstance") (λxs H Q=>∃x t T b,xs=[x,.ty T]/\TyOf X.K H x t/\PySem.W.kitOne X.K t (.type T)=some b/\Q (.bl b) H):=by
 intro pins s σ H xs us Q I r h;obtain⟨x,t,T,b,rfl,ty,e,q⟩:=h;obtain⟨u,v,rfl,ru,rv⟩:=vals2 r;cases(show v=ZV T from rv);exact QmE I ru ty e λtk=>⟨.bl b,H,I.tok tk,rfl,q⟩
theorem Qpz{bs:List Bool}:∀{us:List Value},Vals (bs.map V.bl) us->LSm.BoolsAre us bs:=by
 induction bs with
 |nil=>intro us r;cases r;exact .nil
 |cons b bs ih=>
  intro us r;cases r with
  |cons r t=>
   cases(show _=QbB b from r);exact .cons b (ih t)
theorem Qda:CallR X (.builtin "all") (λxs H Q=>∃(p:Addr)(bs:List Bool),xs=[.ref p]/\SqL X.K H p (bs.map V.bl)/\X.calm=true/\Q (.bl (bs.all id)) H):=by
 intro pins s σ H xs us Q I r h;obtain⟨p,bs,rfl,hp,hc,q⟩:=h;obtain⟨u,rfl,ru⟩:=vals1 r;cases ru;obtain⟨its,rv,pl,hz⟩:=I.list hp;have hl:=pl.isList;have hb:=Qpz rv;have hlt:p<s.heap.objs.size:=by obtain⟨_,e,_⟩:=hl;exact Qo e
 refine call_all_walk (QgT hl ?_);refine⟨s.heap.objs.size,[s.heap.objs.size,p],[s.heap.objs.size],its.toArray.size,_,_,λi=>(bs[i]?).getD true,rfl,Walks.list (A:=X.A.in1) (I.ok.hd hc) _ p (QC hlt) its.toArray,
  ⟨⟨_,Qu _ rfl,rfl,rfl⟩,hl.push _⟩,λi v s' Q' E' hP hQ=>?_,λh' tk hk=>?_⟩
 ·obtain⟨b,e,rfl⟩:=hb.get i v (by simpa using hP);simp only[e,Option.getD_some] at hQ;exact J5 hQ
 ·have e:((Qm its.toArray.size).all λi=>(bs[i]?).getD true)=bs.all id:=by
   rw[Qp,hb.length];exact LSm.range_all bs
  rw[e];exact⟨.bl _,H,I.kept (LSm.kept_iter hk),rfl,q⟩
def Qyq:V->Option Int->Option Int->Hp->VK->Prop:=λx lo hi H Q=>∃a xs,x=.ref a/\H a=some (.tup xs)/\∀p H',Same H H'->H' p=some (.tup (Qk5 xs lo hi))->Q (.ref p) H'
theorem Jy{H:Hp}{p:Addr}{o:HO}(h:H p=none):Same H (upd H p o):=λb u e=>by rw[JK (JY e h)];exact e
theorem Qcz{prog:QB}{w:Q8}{A:Q2}{E:Value->Shared->Prop}{s:Shared}{t sl:Addr}{items:Array Value}{vl vu:Value}{lo hi:Option Int}{Q:Value->Shared->Prop}(ht:IsTup s.heap t items)(hs:s.heap.IsSliceOf sl vl vu .none)(pl:Qib vl lo)(pu:Qib vu hi)
  (h1:HT.sIx items.size 0 lo=0)(h2:HT.sIx items.size items.size hi=items.size)(h:Q (.ref t) s):wpAny (model prog w) A (getItem (.ref t) (.ref sl)) Q E s:=by
 obtain⟨os,hos,hcs,hds⟩:=id hs;have hTs:s.TypeIs (.ref sl) "slice" := ⟨os,hos,hcs⟩;unfold getItem
 try with_reducible refine JV ?_
 first | refine wpAny_bind (wpAny_pure ?_) | skip
 refine wpAny_bind (QwW ht.typeIs (by decide) ?_);refine wpAny_bind (J6 (name:=Qah "__getitem__") ht.typeIs JT
  (JO JT ht.typeIs Qub ?_ (QwA _ _)))
 show wpAny _ _ (QdM (.ref t) >>= _) _ _ s;refine wpAny_bind (tupleItemsOf_ ht ?_);refine wpAny_bind (Qb1 hTs ?_);rw[if_pos (by decide)];refine wpAny_bind (HT.Qbw hs pl pu ?_);show wpAny _ _ (if(((HT.sIx items.size 0 lo:Nat):Int) == 0&&(1:Int) == 1&&(HT.sIx items.size items.size hi - HT.sIx items.size 0 lo) == items.size)=true then _ else _) _ _ s;rw[if_pos (by rw[h1,h2];simp)];refine wpAny_bind (m:=Qxj _) (wpAny_bind (Qb1 ht.typeIs (wpAny_pure ?_)));rw[if_pos (by decide)];exact wpAny_bind (wpAny_rule (wpAny_pure ⟨_,rfl,wpAny_pure h⟩))
theorem QuB:SlR X Qyq:=by
 intro pins s σ H x v vl vu lo hi sl Q I rx hs pl pu h;obtain⟨a,xs,rfl,hx,q⟩:=h;by_cases hw:HT.sIx xs.length 0 lo=0/\HT.sIx xs.length xs.length hi=xs.length
 ·cases rx;obtain⟨its,r,ht,hz⟩:=I.tuple (SqT.of hx);have hlen:its.toArray.size=xs.length:=by rw[Qp];exact r.length.symm
  refine⟨"tuple",_,JT.lookup,ht.typeIs,?_⟩;refine Qcz ht hs pl pu (by rw[hlen];exact hw.1) (by rw[hlen];exact hw.2) ?_
  refine⟨.ref a,H,I,rfl,q a H (Same.refl H) ?_⟩;have e:Qk5 xs lo hi=xs:=by
   unfold Qk5;rw[hw.1,hw.2];simp
  rw[e];exact hx
 ·exact QuA pins s σ H (.ref a) v vl vu lo hi sl Q I rx hs pl pu ⟨a,xs,rfl,SqT.of hx,hw,λp hp=>q p _ (Jy hp) Jp⟩
def Qst:R2:=λx y H Q=>∃a b xs ys,x=.ref a/\y=.ref b/\H a=some (.tup xs)/\H b=some (.tup ys)/\xs.length+ys.length<=sizeLine/\∀p H',Same H H'->H' p=some (.tup (xs++ys))->Q (.ref p) H'
theorem Qmb:OpR X (binaryOp .Add) Qst:=by
 intro pins s σ H x y v u Q I rx ry h;obtain⟨a,b,xs,ys,rfl,rfl,ha,hb,hz,q⟩:=h;by_cases hx:xs=[]
 ·subst hx;cases rx;cases ry;obtain⟨its,r1,p1,_⟩:=I.tuple (SqT.of ha);obtain⟨its2,r2,p2,_⟩:=I.tuple (SqT.of hb);cases r1;obtain⟨⟨cls,dd,data,sl⟩,ho,hc,n,hd⟩:=id p1;obtain⟨⟨cls2,dd2,data2,sl2⟩,ho2,hc2,n2,hd2⟩:=id p2;simp only at hc hd hc2 hd2;subst hc hd hc2 hd2;exact QrT ⟨_,ho,rfl⟩ ⟨_,ho2,rfl⟩ Qig QnV PySem.F.slot_tuple_add PySem.F.entry_tuple_add (PySem.F.args_tuple_add_2 _ _)
   (tuple_addW0 a b #[] its2.toArray n n2 dd dd2 sl sl2 rfl) ⟨ho,ho2,⟨.ref b,H,I,rfl,q b H (Same.refl H) hb⟩⟩
 ·exact Qs2 pins s σ H _ _ v u Q I rx ry ⟨a,b,xs,ys,rfl,rfl,SqT.of ha,SqT.of hb,hx,hz,λe=>q a H (Same.refl H) (by rw[e,JA];exact ha),λ_ p hp=>q p _ (Jy hp) Jp⟩
end
end L2
namespace Rz
open Sem (wp)
section
variable{prog:QB}{w:Q8}{A:Q2}{E:Value->Shared->Prop}{s:Shared}
theorem Qei{it t:Addr}{i:Nat}{items:Array Value}{x:Value}{Q:Value->Shared->Prop}(hit:s.heap.IsTupleIter it t i)(ht:s.heap.IsTuple t items)(hx:items[i]? = some x)
  (hQ:∀h',h'.IsTupleIter it t (i+1)->Qag it s.heap h'->Q x { s with heap:=h' }):wpAny (model prog w) A (JG (.ref it)) Q E s:=by
 obtain⟨o,ho,hc,hd⟩:=id hit;obtain⟨ol,hol,_,nl,hdl⟩:=ht;unfold JG;refine wpAny_bind (J6 (name:=Qah "__next__") hit.typeIs Y7
  (JO Y7 hit.typeIs Qim ?_ (Qic _)))
 show wpAny _ _ (field (.ref it) 0 >>= _) _ _ s;refine wpAny_bind (Zy ho hd (x:=.ref t) rfl ?_);show wpAny _ _ (if(QL t == JD)=true then _ else _) _ _ s;rw[if_neg (show ¬((QL t == JD)=true) from Qx)];show wpAny _ _ (field (.ref it) 1 >>= _) _ _ s;refine wpAny_bind (Zy ho hd (x:=.int i 0) rfl ?_);show wpAny _ _ (seqItems? (.ref t) >>= _) _ _ s;refine wpAny_bind (ZS hol hdl ?_);simp only[Yb,hx];refine wpAny_bind (Qck ho hd (by simp) (wpAny_pure ⟨x,rfl,wpAny_pure (hQ _ ?_ (Zj ..))⟩));exact⟨_,Zx _ ho (QcQ (Yy hd _)),(Qe6 ..).trans hc,by
  rw[Yy hd];simp[rawInt]⟩
theorem QiW{it t:Addr}{i:Nat}{items:Array Value}{Q:Value->Shared->Prop}(hh:A.handled=none)(hit:s.heap.IsTupleIter it t i)(ht:s.heap.IsTuple t items)(hx:items[i]? = none)
  (hE:∀h' e,Heap.ExtBut it s.heap h'->(∃o,h'.get? e=some o/\o.cls=.type "StopIteration")->E (.ref e) { s with heap:=h' }):wpAny (model prog w) A (JG (.ref it)) Q E s:=by
 obtain⟨o,ho,hc,hd⟩:=id hit;obtain⟨ol,hol,_,nl,hdl⟩:=ht;unfold JG;refine wpAny_bind (J6 (name:=Qah "__next__") hit.typeIs Y7
  (JO Y7 hit.typeIs Qim ?_ (Qic _)))
 show wpAny _ _ (field (.ref it) 0 >>= _) _ _ s;refine wpAny_bind (Zy ho hd (x:=.ref t) rfl ?_);show wpAny _ _ (if(QL t == JD)=true then _ else _) _ _ s;rw[if_neg (show ¬((QL t == JD)=true) from Qx)];show wpAny _ _ (field (.ref it) 1 >>= _) _ _ s;refine wpAny_bind (Zy ho hd (x:=.int i 0) rfl ?_);show wpAny _ _ (seqItems? (.ref t) >>= _) _ _ s;refine wpAny_bind (ZS hol hdl ?_);simp only[Yb,hx];refine wpAny_bind (wpAny_rule (wpAny_bind (Qck ho hd (by simp) ?_)));show wpAny _ _ (newExc (.type "StopIteration") [] >>= _) _ _ _;refine wpAny_bind ?_
 simp only[newExc,newTuple];refine wpAny_bind (JJ ?_ (by size_fits));refine wpAny_bind (m:=firstArgMember _ _) (Qt7 (a:=JD) (by first | rfl | (simp only[firstArgMember];rfl)) ?_);refine JJ ?_ (by size_fits)
 simp only[raiseNew];refine wpAny_bind (wpAny_handled ?_)
 first | rw[show A.in1.handled=none from hh] | rw[hh]
 refine wpAny_bind (wpAny_pure (wpAny_throw ?_));exact hE _ _ (((Zj ..).extBut.push _).push _) ⟨_,Qu _ rfl,rfl⟩
structure Apart (z TI TO i1 i2 t1 t2:Addr):Prop where
 a1:TI≠z
 a2:TO≠z
 a3:i1≠z
 a4:i2≠z
 a5:TI≠TO
 a6:TI≠i1
 a7:TI≠i2
 a8:TO≠i1
 a9:TO≠i2
 b1:i1≠i2
 b2:t1≠z/\t1≠TO/\t1≠i1/\t1≠i2
 b3:t2≠z/\t2≠TO/\t2≠i1/\t2≠i2
structure QnH (h:Heap) (z TI TO i1 i2 t1 t2:Addr) (f:Value) (k:Nat):Prop where
 zp:Qr3 h z TI TO f
 ti:IsPair h TI (.ref i1) (.ref i2)
 to:∃a b,IsPair h TO a b
 i1:h.IsTupleIter i1 t1 k
 i2:h.IsTupleIter i2 t2 k
theorem Qml{z TI TO i1 i2 t1 t2:Addr}{k:Nat}{xs ys:Array Value}{x y:Value}{Q:Option Value->Shared->Prop}(D:Apart z TI TO i1 i2 t1 t2)(Z:QnH s.heap z TI TO i1 i2 t1 t2 .none k)
  (hl1:s.heap.IsTuple t1 xs)(hl2:s.heap.IsTuple t2 ys)(hx:xs[k]? = some x)(hy:ys[k]? = some y)
  (hQ:∀h',QnH h' z TI TO i1 i2 t1 t2 (rawInt s.heap.objs.size) (k+1)->IsPair h' s.heap.objs.size x y->(∀c o,c≠z->c≠TO->c≠i1->c≠i2->s.heap.get? c=some o->h'.get? c=some o)->Q (some (.ref s.heap.objs.size)) { s with heap:=h' }) :
  wpAny (model prog w) A (pyNext (.ref z)) Q E s:=by
 obtain⟨hz,hTI,⟨a,b,hTO⟩,h1,h2⟩:=Z;have hT:s.TypeIs (.ref z) "zip" := ⟨_,hz,rfl⟩;unfold pyNext;refine wpAny_bind (QcM (J6 (name:=Qah "__next__") hT Qdr (JO Qdr hT QwI ?_ (Quk _))));show wpAny _ _ (field (.ref z) 2 >>= _) _ _ _;refine wpAny_bind (Zy hz rfl (x:=.bool false) rfl ?_);show wpAny _ _ (field (.ref z) 3 >>= _) _ _ _;refine wpAny_bind (Zy hz rfl (x:=.ref TI) rfl (wpAny_bind (ZS hTI rfl ?_)));show wpAny _ _ (Zq (.ref z) >>= _) _ _ _;refine wpAny_bind ?_
 unfold Zq;refine wpAny_bind (Zy hz rfl (x:=.none) rfl (wpAny_pure ?_));simp only[if_true];refine wpAny_bind (wpAny_rule (wpAny_bind (Zy hz rfl (x:=.ref TO) rfl (wpAny_bind (YK hz (by simp) λg1 z1 s1=>?_)))))
 replace z1:Qr3 g1 z TI TO .ellipsis:=z1
 refine wpAny_bind ?_
 simp only[Qfg,Qt1,QgP,Qug];refine wpAny_bind (wpAny_bind (QfN ?_));show wpAny _ _ (JG (.ref i1) >>= _) _ _ _;refine wpAny_bind (Qei (h1.extBut s1.extBut D.a3) (hl1.extBut s1.extBut D.b2.1) hx λg2 p2 s2=>wpAny_pure ?_);have o2:IsPair g2 TO a b:=s2.extBut _ _ D.a8 (s1.extBut _ _ D.a2 hTO);refine wpAny_bind (ZS o2 rfl (wpAny_bind (Qen o2 λg3 o3 s3=>wpAny_bind (Qt8 (wpAny_pure ?_)))))
 replace o3:IsPair g3 TO x b:=o3
 refine wpAny_bind (wpAny_bind (QfN ?_));show wpAny _ _ (JG (.ref i2) >>= _) _ _ _;refine wpAny_bind (Qei (((h2.extBut s1.extBut D.a4).extBut s2.extBut D.b1.symm).extBut s3.extBut D.a9.symm)
  (((hl2.extBut s1.extBut D.b3.1).extBut s2.extBut D.b3.2.2.1).extBut s3.extBut D.b3.2.1) hy λg4 p4 s4=>wpAny_pure ?_)
 have o4:IsPair g4 TO x b:=s4.extBut _ _ D.a9 o3;refine wpAny_bind (ZS o4 rfl (wpAny_bind (Qen o4 λg5 o5 s5=>wpAny_bind (Qt8 (wpAny_pure (wpAny_pure ?_))))))
 replace o5:IsPair g5 TO x y:=o5
 refine wpAny_bind (ZS o5 rfl (wpAny_bind (Qk7 ?_)));have sz:g5.objs.size=s.heap.objs.size:=by rw[s5.1,s4.1,s3.1,s2.1,s1.1]
 have kp:∀c o,c≠z->c≠TO->c≠i1->c≠i2->s.heap.get? c=some o->g5.get? c=some o:=λc o c1 c2 c3 c4 e=>
  s5.extBut _ _ c2 (s4.extBut _ _ c4 (s3.extBut _ _ c2 (s2.extBut _ _ c3 (s1.extBut _ _ c1 e))))
 have z5:Qr3 g5 z TI TO .ellipsis:=s5.extBut _ _ D.a2.symm (s4.extBut _ _ D.a4.symm (s3.extBut _ _ D.a2.symm (s2.extBut _ _ D.a3.symm z1)));have q1:g5.IsTupleIter i1 t1 (k+1):=((p2.extBut s3.extBut D.a8.symm).extBut s4.extBut D.b1).extBut s5.extBut D.a8.symm;have q2:g5.IsTupleIter i2 t2 (k+1):=p4.extBut s5.extBut D.a9.symm;show wpAny _ _ (Qbe (.ref z) (.ref g5.objs.size) >>= _) _ _ _;refine wpAny_bind ?_
 unfold Qbe;have z6:Qr3 (g5.push { cls:=.type "tuple",data:=.seq #[x,y] }) z TI TO .ellipsis:=Qc _ z5;refine wpAny_bind (YK z6 (by simp) λg7 z7 s7=>?_)
 replace z7:Qr3 g7 z TI TO (rawInt g5.objs.size):=z7
 refine YK z7 (by simp) λg8 z8 s8=>?_
 replace z8:Qr3 g8 z TI TO (rawInt g5.objs.size):=z8
 have up:∀c o,c≠z->g5.get? c=some o->g8.get? c=some o:=λc o c1 e=>s8.extBut _ _ c1 (s7.extBut _ _ c1 (Qc _ e))
 have ne:g5.objs.size≠z:=Qai (Qo z5);have t8:IsPair g8 g5.objs.size x y:=s8.extBut _ _ ne (s7.extBut _ _ ne (Qu _ rfl));rw[sz] at z8 t8;refine wpAny_pure ⟨_,rfl,wpAny_pure ?_⟩;show Q (some (.ref g5.objs.size)) _;rw[sz];exact hQ g8 ⟨z8,up _ _ D.a1 (kp _ _ D.a1 D.a5 D.a6 D.a7 hTI),⟨x,y,up _ _ D.a2 o5⟩,q1.at λo e=>up _ o D.a3 e,q2.at λo e=>up _ o D.a4 e⟩ t8 λc o c1 c2 c3 c4 e=>up c o c1 (kp c o c1 c2 c3 c4 e)
theorem Qpa{z TI TO i1 i2 t1 t2:Addr}{k:Nat}{xs ys:Array Value}{Q:Option Value->Shared->Prop}(hh:A.handled=none)(D:Apart z TI TO i1 i2 t1 t2)(Z:QnH s.heap z TI TO i1 i2 t1 t2 .none k)
  (hl1:s.heap.IsTuple t1 xs)(hl2:s.heap.IsTuple t2 ys)(hend:xs[k]? = none∨ys[k]? = none)
  (hQ:∀h',(∀c o,c≠z->c≠TO->c≠i1->c≠i2->s.heap.get? c=some o->h'.get? c=some o)->Q none { s with heap:=h' }):wpAny (model prog w) A (pyNext (.ref z)) Q E s:=by
 obtain⟨hz,hTI,⟨a,b,hTO⟩,h1,h2⟩:=Z;have hT:s.TypeIs (.ref z) "zip" := ⟨_,hz,rfl⟩;have fin:∀(h':Heap)(e:Addr),(∀c o,c≠z->c≠TO->c≠i1->c≠i2->s.heap.get? c=some o->h'.get? c=some o)->(∃o,h'.get? e=some o/\o.cls=.type "StopIteration") ->
   wpAny (model prog w) A (isInstance (.ref e) (.type "StopIteration") >>= λx=>if x=true then pure none else throw (.ref e)) Q E { s with heap:=h' }:=λh' e hk he=>by
  obtain⟨o,ho,hc⟩:=he;refine wpAny_bind (Qif (T := "StopIteration") (b:=true) ⟨o,ho,hc⟩ isSubtype_stop ?_);exact wpAny_pure (hQ _ hk)
 unfold pyNext;refine wpAny_bind (QcM (J6 (name:=Qah "__next__") hT Qdr (JO Qdr hT QwI ?_ (Quk _))));show wpAny _ _ (field (.ref z) 2 >>= _) _ _ _;refine wpAny_bind (Zy hz rfl (x:=.bool false) rfl ?_);show wpAny _ _ (field (.ref z) 3 >>= _) _ _ _;refine wpAny_bind (Zy hz rfl (x:=.ref TI) rfl (wpAny_bind (ZS hTI rfl ?_)));show wpAny _ _ (Zq (.ref z) >>= _) _ _ _;refine wpAny_bind ?_
 unfold Zq;refine wpAny_bind (Zy hz rfl (x:=.none) rfl (wpAny_pure ?_));simp only[if_true];refine wpAny_bind (wpAny_rule (wpAny_bind (Zy hz rfl (x:=.ref TO) rfl (wpAny_bind (YK hz (by simp) λg1 z1 s1=>?_)))))
 replace z1:Qr3 g1 z TI TO .ellipsis:=z1
 refine wpAny_bind ?_
 simp only[Qfg,Qt1,QgP,Qug];refine wpAny_bind (wpAny_bind (QfN ?_));show wpAny _ _ (JG (.ref i1) >>= _) _ _ _;cases hx:xs[k]? with
 |none=>
  refine wpAny_bind (QiW hh (h1.extBut s1.extBut D.a3) (hl1.extBut s1.extBut D.b2.1) hx λg2 e s2 he=>?_);obtain⟨oe,hoe,hce⟩:=he;have z2:Qr3 g2 z TI TO .ellipsis:=s2 _ _ D.a3.symm z1;have hez:e≠z:=λq=>by subst q;rw[z2] at hoe;cases hoe;simp at hce
  refine YK z2 (by simp) λg3 _ s3=>?_
  exact fin g3 e (λc o c1 _ c3 _ q=>s3.extBut _ _ c1 (s2 _ _ c3 (s1.extBut _ _ c1 q))) ⟨oe,s3.extBut _ _ hez hoe,hce⟩
 |some x=>
  have hy:ys[k]? = none:=by
   rcases hend with q | q
   ·rw[hx] at q;cases q
   ·exact q
  refine wpAny_bind (Qei (h1.extBut s1.extBut D.a3) (hl1.extBut s1.extBut D.b2.1) hx λg2 p2 s2=>wpAny_pure ?_);have o2:IsPair g2 TO a b:=s2.extBut _ _ D.a8 (s1.extBut _ _ D.a2 hTO);refine wpAny_bind (ZS o2 rfl (wpAny_bind (Qen o2 λg3 o3 s3=>wpAny_bind (Qt8 (wpAny_pure ?_)))));refine wpAny_bind (wpAny_bind (QfN ?_));show wpAny _ _ (JG (.ref i2) >>= _) _ _ _;refine wpAny_bind (QiW hh (((h2.extBut s1.extBut D.a4).extBut s2.extBut D.b1.symm).extBut s3.extBut D.a9.symm)
   (((hl2.extBut s1.extBut D.b3.1).extBut s2.extBut D.b3.2.2.1).extBut s3.extBut D.b3.2.1) hy λg4 e s4 he=>?_)
  obtain⟨oe,hoe,hce⟩:=he;have z4:Qr3 g4 z TI TO .ellipsis:=s4 _ _ D.a4.symm (s3.extBut _ _ D.a2.symm (s2.extBut _ _ D.a3.symm z1));have hez:e≠z:=λq=>by subst q;rw[z4] at hoe;cases hoe;simp at hce
  refine YK z4 (by simp) λg5 _ s5=>?_
  exact fin g5 e (λc o c1 c2 c3 c4 q=>s5.extBut _ _ c1 (s4 _ _ c4 (s3.extBut _ _ c2 (s2.extBut _ _ c3 (s1.extBut _ _ c1 q))))) ⟨oe,s5.extBut _ _ hez hoe,hce⟩
end
abbrev zh1 (h:Heap) (t1:Addr):Heap:=h.push { cls:=.type "tuple_iterator",data:=.fields #[.ref t1,.int 0 0] }
abbrev zh2 (h:Heap) (t1 t2:Addr):Heap:=(zh1 h t1).push { cls:=.type "tuple_iterator",data:=.fields #[.ref t2,.int 0 0] }
abbrev zh3 (h:Heap) (t1 t2:Addr):Heap:=(zh2 h t1 t2).push { cls:=.type "tuple",data:=.seq #[.ref h.objs.size,.ref (zh1 h t1).objs.size] }
abbrev zh4 (h:Heap) (t1 t2:Addr):Heap:=(zh3 h t1 t2).push { cls:=.type "tuple",data:=.seq #[.none,.none] }
abbrev zh5 (h:Heap) (t1 t2:Addr):Heap:=(zh4 h t1 t2).push { cls:=.type "zip",data:=.fields #[.none,.bool false,.bool false,.ref (zh2 h t1 t2).objs.size,.ref (zh3 h t1 t2).objs.size] }
theorem made(t1 t2:Addr)(xs ys:Array Value) :
  Meets (Y4.«zip.__new__» ⟨[.type "zip",.ref t1,.ref t2],[]⟩) (λ_ R s=>s.heap.IsTuple t1 xs/\s.heap.IsTuple t2 ys/\R (.ok (.ret (.ref (zh4 s.heap t1 t2).objs.size))) { s with heap:=zh5 s.heap t1 t2 }):=
 .of_wp λprog w A R s h=>by
  obtain⟨hp,g,d,tk,os⟩:=s;obtain⟨hl1,hl2,h⟩:=h;have hsub:=sub_zip;have k1:Qk3 (QkY ⟨hp,g,d,tk,os⟩) t1 xs:=hl1;have k2:Qk3 (QkY ⟨hp.push { cls:=.type "tuple_iterator",data:=.fields #[.ref t1,.int 0 0] },g,d,tk,os⟩) t2 ys:=hl2.at λo e=>Qc _ e
  wp_walk using YL k1,YL k2
  exact⟨_,rfl,h⟩
section
variable{prog:QB}{w:Q8}{A:Q2}{E:Value->Shared->Prop}{s:Shared}
theorem Qpy{t1 t2:Addr}{xs ys:Array Value}{Q:Value->Shared->Prop}(hl1:s.heap.IsTuple t1 xs)(hl2:s.heap.IsTuple t2 ys)
  (h:∀h',QnH h' (s.heap.objs.size+4) (s.heap.objs.size+2) (s.heap.objs.size+3) s.heap.objs.size (s.heap.objs.size+1) t1 t2 .none 0->(∀c o,s.heap.get? c=some o->h'.get? c=some o)->Q (.ref (s.heap.objs.size+4)) { s with heap:=h' }) :
  wpAny (model prog w) A (call (.type "zip") [.ref t1,.ref t2]) Q E s:=by
 refine callType_new F.called_zip (by decide) (F.typeCall_zip_2 _ _) (F.newCall_zip_2 _ _) (λobj=>F.args_object_init_3 obj _ _) F.entry_zip_new (made t1 t2 xs ys) ⟨hl1,hl2,?_⟩;have z1:(zh1 s.heap t1).objs.size=s.heap.objs.size+1:=JH ..;have z2:(zh2 s.heap t1 t2).objs.size=s.heap.objs.size+2:=by rw[JH,z1]
 have z3:(zh3 s.heap t1 t2).objs.size=s.heap.objs.size+3:=by rw[JH,z2]
 have z4:(zh4 s.heap t1 t2).objs.size=s.heap.objs.size+4:=by rw[JH,z3]
 have g5:(zh5 s.heap t1 t2).get? (zh4 s.heap t1 t2).objs.size=some _:=Qu _ rfl;have g4:(zh5 s.heap t1 t2).get? (zh3 s.heap t1 t2).objs.size=some _:=Qc _ (Qu _ rfl);have g3:(zh5 s.heap t1 t2).get? (zh2 s.heap t1 t2).objs.size=some _:=Qc _ (Qc _ (Qu _ rfl));have g2:(zh5 s.heap t1 t2).get? (zh1 s.heap t1).objs.size=some _:=Qc _ (Qc _ (Qc _ (Qu _ rfl)));have g1:(zh5 s.heap t1 t2).get? s.heap.objs.size=some _:=Qc _ (Qc _ (Qc _ (Qc _ (Qu _ rfl))));show _/\_;rw[z2,z3,z4] at g5;rw[z1,z2] at g3;rw[z3] at g4;rw[z1] at g2;rw[z4];exact⟨⟨_,g5,rfl⟩,h _ ⟨g5,g3,⟨_,_,g4⟩,⟨_,g1,rfl,rfl⟩,⟨_,g2,rfl,rfl⟩⟩ λc o x=>Qc _ (Qc _ (Qc _ (Qc _ (Qc _ x))))⟩
end
end Rz
namespace L2
section
variable{X:Cx}{pins:List (Addr×Obj)}{σ:St}{H:Hp}{s:Shared}{h':Heap}
theorem Inv.turnedNew{t':Nat}{ch:List Addr}{a:Addr}{o:HO}(I:Inv X pins σ H s)(hch:∀b∈ch,FpOk X pins H b)(k:∀b u,b∉ch->s.heap.get? b=some u->h'.get? b=some u)(hp:s.heap.objs.size<=a)
  (new:ObjOk X.prog X.w (upd H a o) h' a o):Inv X pins σ (upd H a o) { s with heap:=h',toks:=t' }:=by
 have hn:H a=none:=I.hok.fresh hp;have nch:∀b u,H b=some u->b∉ch:=λb u e z=>by rw[(hch b z).1] at e;cases e
 refine I.step (g':=s.gens) (d':=s.drawn) (ch:=ch) (λb hb=>?_) (λb u _ _ hc e _=>k b u hc e) (λb u _ _ hc e _=>⟨u.slots,k b u hc e⟩) (λb u hc e n=>?_) (λb u hc e=>⟨u,k b u hc e⟩)
  (λb xs e=>by rw[JK (JY e hn)];exact e) (λb u v e=>by rw[JK (JY e hn)];exact e) (λb ps e=>⟨#[],by rw[JK (JY e hn),e];simp⟩) (λm hm=>?_) (λb u e=>?_) I.bare
 ·obtain⟨f0,f1,f2,f3,f4,f5⟩:=hch b hb;exact⟨f3,f1,f4,f5⟩
 ·rw[JK (QC (QN (Qo e) hp))];exact n
 ·obtain⟨u,es,ep,ho,r⟩:=hm;exact⟨u,es,ep,k _ u (λz=>(hch _ z).2.1 rfl) ho,r⟩
 ·by_cases hb:b=a
  ·subst hb;rw[Jp] at e;cases e;exact new
  ·rw[JK hb] at e;refine(I.hok b u e).stay (λc v hc q=>k c v ?_ q) (λc q=>by rw[JK (JY q hn)];exact q) λc xs q=>by rw[JK (JY q hn)];exact q
   rcases hc with z | z
   ·rw[z];exact nch b u e
   ·exact nch c _ z
theorem Inv.turnedAll{t':Nat}{ch:List Addr}(I:Inv X pins σ H s)(hch:∀b∈ch,FpOk X pins H b)(k:∀b u,b∉ch->s.heap.get? b=some u->h'.get? b=some u):Inv X pins σ H { s with heap:=h',toks:=t' }:=by
 have nch:∀b u,H b=some u->b∉ch:=λb u e z=>by rw[(hch b z).1] at e;cases e
 refine I.step (g':=s.gens) (d':=s.drawn) (ch:=ch) (λb hb=>?_) (λb u _ _ hc e _=>k b u hc e) (λb u _ _ hc e _=>⟨u.slots,k b u hc e⟩) (λb u hc e n=>n) (λb u hc e=>⟨u,k b u hc e⟩)
  (λb xs e=>e) (λb u v e=>e) (λb ps e=>⟨#[],by rw[e];simp⟩) (λm hm=>?_) (λb u e=>?_) I.bare
 ·obtain⟨f0,f1,f2,f3,f4,f5⟩:=hch b hb;exact⟨f3,f1,f4,f5⟩
 ·obtain⟨u,es,ep,ho,r⟩:=hm;exact⟨u,es,ep,k _ u (λz=>(hch _ z).2.1 rfl) ho,r⟩
 ·refine(I.hok b u e).stay (λc v hc q=>k c v ?_ q) (λc q=>q) λc xs q=>q
  rcases hc with z | z
  ·rw[z];exact nch b u e
  ·exact nch c _ z
end
def Itz(t1 t2:Addr):It:=
 ⟨λi H=>∃xs ys x y,H t1=some (.tup xs)/\H t2=some (.tup ys)/\xs[i]? = some x/\ys[i]? = some y,
  λi H v H'=>∃p x y,H p=none/\(∀xs,H t1=some (.tup xs)->xs[i]? = some x)/\(∀ys,H t2=some (.tup ys)->ys[i]? = some y)/\v=.ref p/\H'=upd H p (.tup [x,y]),
  λi H=>∃xs ys,H t1=some (.tup xs)/\H t2=some (.tup ys)/\(xs.length<=i∨ys.length<=i)⟩
theorem Qn7{P:QB}{w:Q8}{K:PySem.W.Frag}{elts:List QZ}{x1}{tpos:Pos}{z TI TO i1 i2 t1 t2:Addr}(D:Rz.Apart z TI TO i1 i2 t1 t2) :
  Turn P w K (.Tuple elts x1 tpos) (Itz t1 t2) [z,TI,TO,i1,i2] z (λi h=>Rz.QnH h z TI TO i1 i2 t1 t2 .none i) where
 mem:=by simp
 obj:=λi h st b hb=>by
  obtain⟨a1,a2,⟨_,_,a3⟩,⟨o4,a4,_,d4⟩,⟨o5,a5,_,d5⟩⟩:=st;simp only[Qs,Jb,or_false] at hb;rcases hb with rfl | rfl | rfl | rfl | rfl
  ·exact⟨_,a1,λv q=>nomatch q⟩
  ·exact⟨_,a2,λv q=>nomatch q⟩
  ·exact⟨_,a3,λv q=>nomatch q⟩
  ·exact⟨_,a4,λv q=>by rw[d4] at q;cases q⟩
  ·exact⟨_,a5,λv q=>by rw[d5] at q;cases q⟩
 keep:=λi h h' st k=>by
  obtain⟨a1,a2,⟨a,b,a3⟩,a4,a5⟩:=st;exact⟨k z (by simp) _ a1,k TI (by simp) _ a2,⟨a,b,k TO (by simp) _ a3⟩,a4.at λo e=>k i1 (by simp) o e,a5.at λo e=>k i2 (by simp) o e⟩
 item:=by
  intro X hP hw hK hc i pins s σ H E I hf st hg;subst hP hw hK;obtain⟨xs,ys,x,y,h1,h2,hx,hy⟩:=hg;obtain⟨its1,r1,p1,_⟩:=I.tuple (SqT.of h1);obtain⟨its2,r2,p2,_⟩:=I.tuple (SqT.of h2);obtain⟨u1,hu1,ru1⟩:=r1.get hx;obtain⟨u2,hu2,ru2⟩:=r2.get hy;refine Rz.Qml D st (show s.heap.IsTuple t1 its1.toArray from p1) (show s.heap.IsTuple t2 its2.toArray from p2) (by simpa using hu1) (by simpa using hu2) λh' st' tp kp=>?_
  have hlt:∀b∈[z,TI,TO,i1,i2],b≠s.heap.objs.size:=λb hb=>by
   obtain⟨a1,a2,⟨_,_,a3⟩,⟨o4,a4,_,d4⟩,⟨o5,a5,_,d5⟩⟩:=st;simp only[Qs,Jb,or_false] at hb;rcases hb with rfl | rfl | rfl | rfl | rfl
   ·exact QC (Qo a1)
   ·exact QC (Qo a2)
   ·exact QC (Qo a3)
   ·exact QC (Qo a4)
   ·exact QC (Qo a5)
  have fr:H s.heap.objs.size=none:=I.hok.fresh (Qg _);refine⟨_,rfl,Qk8 st'.zp λh2' z2 s2=>?_⟩;have I1:Inv X pins σ (upd H s.heap.objs.size (.tup [x,y])) { s with heap:=h2',toks:=s.toks }:=by
   refine I.turnedNew (ch:=[z,TI,TO,i1,i2]) hf (λb u hb e=>?_) (Qg _) ⟨by show 2<=sizeLine;decide,[u1,u2],.cons ru1 (.cons ru2 .nil),?_⟩
   ·simp only[Qs,Jb,or_false,not_or] at hb;exact s2.extBut _ _ hb.1 (kp b u hb.1 hb.2.2.1 hb.2.2.2.1 hb.2.2.2.2 e)
   ·exact⟨_,s2.extBut _ _ (hlt z (by simp)).symm tp,rfl,0,rfl⟩
  refine⟨.ref s.heap.objs.size,_,I1,rfl,⟨_,x,y,fr,λxs' e=>?_,λys' e=>?_,rfl,rfl⟩,?_,λb hb=>?_⟩
  ·rw[h1] at e;cases e;exact hx
  ·rw[h2] at e;cases e;exact hy
  ·obtain⟨a1,a2,⟨a,b,a3⟩,a4,a5⟩:=st';exact⟨z2,s2.extBut _ _ D.a1 a2,⟨a,b,s2.extBut _ _ D.a2 a3⟩,a4.extBut s2.extBut D.a3,a5.extBut s2.extBut D.a4⟩
  ·rw[JK (hlt b hb)];exact(hf b hb).1
 done:=by
  intro X hP hw hK hc i pins s σ H E I hf st hg;subst hP hw hK;obtain⟨xs,ys,h1,h2,he⟩:=hg;obtain⟨its1,r1,p1,_⟩:=I.tuple (SqT.of h1);obtain⟨its2,r2,p2,_⟩:=I.tuple (SqT.of h2);have l1:=r1.length;have l2:=r2.length;refine Rz.Qpa (I.ok.hd hc) D st (show s.heap.IsTuple t1 its1.toArray from p1) (show s.heap.IsTuple t2 its2.toArray from p2) ?_ λh' kp=>⟨rfl,I.turnedAll (t':=s.toks) (ch:=[z,TI,TO,i1,i2]) hf λb u hb e=>?_⟩
  ·rcases he with q | q
   ·exact .inl (by simp;omega)
   ·exact .inr (by simp;omega)
  ·simp only[Qs,Jb,or_false,not_or] at hb;exact kp b u hb.1 hb.2.2.1 hb.2.2.2.1 hb.2.2.2.2 e
 self:=λ_ _ _ _ _ st h=>Qdf st.zp h
section
variable{X:Cx}
theorem apart_new(n t1 t2:Nat)(h1:t1<n)(h2:t2<n):Rz.Apart (n+4) (n+2) (n+3) n (n+1) t1 t2 where
 a1:=by show ¬(n+2=n+4);omega
 a2:=by show ¬(n+3=n+4);omega
 a3:=by show ¬(n=n+4);omega
 a4:=by show ¬(n+1=n+4);omega
 a5:=by show ¬(n+2=n+3);omega
 a6:=by show ¬(n+2=n);omega
 a7:=by show ¬(n+2=n+1);omega
 a8:=by show ¬(n+3=n);omega
 a9:=by show ¬(n+3=n+1);omega
 b1:=by show ¬(n=n+1);omega
 b2:=⟨by show ¬(t1=n+4);omega,by show ¬(t1=n+3);omega,by show ¬(t1=n);omega,by show ¬(t1=n+1);omega⟩
 b3:=⟨by show ¬(t2=n+4);omega,by show ¬(t2=n+3);omega,by show ¬(t2=n);omega,by show ¬(t2=n+1);omega⟩
def Qzo(ta:TA):TI:=λσ H R=>ta σ H λvs H1=>∃t1 t2 xs ys,vs=[.ref t1,.ref t2]/\H1 t1=some (.tup xs)/\H1 t2=some (.tup ys)/\R (Itz t1 t2) H1
theorem Qnq:bootBuiltins "zip" = some (.type "zip"):=by decide +kernel
theorem Qre{a b:QZ}{elts:List QZ}{x1}{tpos:Pos}{ta:TA}{p pos:Pos}(hg:Gl X "zip")(hm:X.mg "zip" = none)(ha:PA X [a,b] ta)(hs:starEach [a,b] X.env=[(false,eval a X.env),(false,eval b X.env)]:=by rfl)(hs2:starEach [b] X.env=[(false,eval b X.env)]:=by rfl) :
  PI X (.Tuple elts x1 tpos) (.Call (.Name "zip" p) [a,b] [] pos) (Qzo ta):=by
 intro pins s σ H R I h;refine Call_ (QeJ I hg hm Qnq (ZC (thn (ha pos pins s σ H _ I h) λus s1 ⟨vs,H1,I1,r1,q1⟩=>?_) (by rw[hs,hs2]) (by rw[hs2];rfl)));obtain⟨t1,t2,xs,ys,e,h1,h2,q⟩:=q1;subst e;obtain⟨u,v,rfl,ru,rv⟩:=vals2 r1;cases(show u=QL t1 from ru);cases(show v=QL t2 from rv);obtain⟨its1,w1,p1,_⟩:=I1.tuple (SqT.of h1);obtain⟨its2,w2,p2,_⟩:=I1.tuple (SqT.of h2);have n1:t1<s1.heap.objs.size:=I1.hok.lt h1;have n2:t2<s1.heap.objs.size:=I1.hok.lt h2;refine Rz.Qpy (show s1.heap.IsTuple t1 its1.toArray from p1) (show s1.heap.IsTuple t2 its2.toArray from p2) λh' st kp=>?_
 refine Qdf (s:={ s1 with heap:=h' }) st.zp ?_
 have D:=apart_new s1.heap.objs.size t1 t2 n1 n2;refine⟨s1.heap.objs.size+4,_,_,_,H1,rfl,I1.kept (t':=s1.toks) kp,Qn7 D,st,λb hb=>?_,q⟩;have hb':s1.heap.objs.size<=b:=by
  simp only[Qs,Jb,or_false] at hb;rcases hb with rfl | rfl | rfl | rfl | rfl<;>omega
 exact I1.fpOk hb' (I1.hok.fresh hb')
end
end L2
namespace Rk
open L2
def Qxo:Option HO->Option (List V)
 |some (.tup xs)=>some xs
 |_=>none
def QcX(H:Hp):V->Option (List V)
 |.ref a=>Qxo (H a)
 |_=>none
theorem tupOf_at(H:Hp)(a:Addr):QcX H (.ref a)=Qxo (H a):=rfl
def isT(H:Hp)(x:V):Bool:=(QcX H x).isSome
def isI:V->Bool
 |.int _=>true
 |_=>false
def isB:V->Bool
 |.bl _=>true
 |_=>false
def Kn(p:Addr)(H:Hp):V->Prop
 |.non=>True
 |.bl _=>True
 |.int _=>True
 |.str _=>True
 |.ref a=>a≠p/\((∃xs,H a=some (.tup xs))∨(∃xs,H a=some (.lst xs))∨∃kvs,H a=some (.dK kvs))
 |_=>False
def KnD(p:Addr):Nat->Hp->V->Prop
 |0,H,x=>Kn p H x
 |n+1,H,x=>Kn p H x/\∀xs,QcX H x=some xs->∀y∈xs,KnD p n H y
def KX(p:Addr)(H H':Hp):Prop:=∀b o,b≠p->H b=some o->H' b=some o
theorem KX.refl(p:Addr)(H:Hp):KX p H H:=λ_ _ _ e=>e
theorem KX.trans{p:Addr}{H H1 H2:Hp}(a:KX p H H1)(b:KX p H1 H2):KX p H H2:=λc o h e=>b c o h (a c o h e)
theorem KX.of{p:Addr}{H H':Hp}(h:Same H H'):KX p H H':=λb o _ e=>h b o e
theorem KX.upd{p:Addr}{H:Hp}{o:HO}:KX p H (upd H p o):=λb u n e=>by rw[JK n];exact e
theorem Kn.keep{p:Addr}{H H':Hp}(k:KX p H H'):∀{x:V},Kn p H x->Kn p H' x
 |.non,h=>h
 |.bl _,h=>h
 |.int _,h=>h
 |.str _,h=>h
 |.ref a,⟨n,h⟩=>⟨n,by
  rcases h with⟨xs,e⟩ | ⟨xs,e⟩ | ⟨xs,e⟩
  ·exact .inl ⟨xs,k a _ n e⟩
  ·exact .inr (.inl ⟨xs,k a _ n e⟩)
  ·exact .inr (.inr ⟨xs,k a _ n e⟩)⟩
 |.byt _,h=>h.elim
 |.flt _,h=>h.elim
 |.ty _,h=>h.elim
theorem Qb9{p:Addr}{H H':Hp}(k:KX p H H'):∀{x:V},Kn p H x->QcX H' x=QcX H x
 |.non,h=>rfl
 |.bl _,h=>rfl
 |.int _,h=>rfl
 |.str _,h=>rfl
 |.ref a,⟨n,h⟩=>by
  rcases h with⟨xs,e⟩ | ⟨xs,e⟩ | ⟨xs,e⟩<;>rw[tupOf_at,tupOf_at,e,k a _ n e]
 |.byt _,h=>h.elim
 |.flt _,h=>h.elim
 |.ty _,h=>h.elim
theorem KnD.kn{p:Addr}{H:Hp}{x:V}:∀{n:Nat},KnD p n H x->Kn p H x
 |0,h=>h
 |_+1,h=>h.1
theorem KnD.keep{p:Addr}{H H':Hp}(k:KX p H H'):∀{n:Nat}{x:V},KnD p n H x->KnD p n H' x
 |0,x,h=>Kn.keep k h
 |n+1,x,h=>⟨Kn.keep k h.1,λxs e y hy=>KnD.keep k (h.2 xs (by rw[<- Qb9 k h.1];exact e) y hy)⟩
theorem KnD.low{p:Addr}{H:Hp}:∀{n:Nat}{x:V},KnD p (n+1) H x->KnD p n H x
 |0,x,h=>h.1
 |n+1,x,h=>⟨h.1,λxs e y hy=>KnD.low (h.2 xs e y hy)⟩
theorem KnD.tup{p:Addr}{H:Hp}{n:Nat}{a:Addr}{xs:List V}(hp:a≠p)(e:H a=some (.tup xs))(h:∀y∈xs,KnD p n H y):KnD p (n+1) H (.ref a):=
 ⟨⟨hp,.inl ⟨xs,e⟩⟩,λys z y hy=>h y (by
  have z':some xs=some ys:=by rw[<- z,tupOf_at,e];rfl
  cases z';exact hy)⟩
theorem KnD.int{p:Addr}{H:Hp}(i:Int):∀(n:Nat),KnD p n H (.int i)
 |0=>trivial
 |n+1=>⟨trivial,λ_ e=>nomatch e⟩
theorem KnD.bl{p:Addr}{H:Hp}(i:Bool):∀(n:Nat),KnD p n H (.bl i)
 |0=>trivial
 |n+1=>⟨trivial,λ_ e=>nomatch e⟩
theorem KnD.str{p:Addr}{H:Hp}(i:Str):∀(n:Nat),KnD p n H (.str i)
 |0=>trivial
 |n+1=>⟨trivial,λ_ e=>nomatch e⟩
theorem KnD.non{p:Addr}{H:Hp}:∀(n:Nat),KnD p n H .non
 |0=>trivial
 |n+1=>⟨trivial,λ_ e=>nomatch e⟩
theorem KnD.lst{p:Addr}{H:Hp}{a:Addr}{xs:List V}(hp:a≠p)(e:H a=some (.lst xs)):∀(n:Nat),KnD p n H (.ref a)
 |0=>⟨hp,.inr (.inl ⟨xs,e⟩)⟩
 |n+1=>⟨⟨hp,.inr (.inl ⟨xs,e⟩)⟩,λys z=>by rw[tupOf_at,e] at z;cases z⟩
theorem KnD.dct{p:Addr}{H:Hp}{a:Addr}{kvs:List (Key×V)}(hp:a≠p)(e:H a=some (.dK kvs)):∀(n:Nat),KnD p n H (.ref a)
 |0=>⟨hp,.inr (.inr ⟨kvs,e⟩)⟩
 |n+1=>⟨⟨hp,.inr (.inr ⟨kvs,e⟩)⟩,λys z=>by rw[tupOf_at,e] at z;cases z⟩
theorem Qha{H:Hp}{a:Addr}{xs:List V}(e:H a=some (.tup xs)):QcX H (.ref a)=some xs:=by rw[tupOf_at,e];rfl
theorem QjW{K:PySem.W.Frag}{p:Addr}{H:Hp}:∀{x:V},Kn p H x->∃t,TyOf K H x t/\PySem.W.kitOne K t (.type "int")=some (isI x||isB x)
 |.non,h=>⟨_,.non,rfl⟩
 |.bl _,h=>⟨_,.bl _,rfl⟩
 |.int _,h=>⟨_,.int _,rfl⟩
 |.str _,h=>⟨_,.str _,rfl⟩
 |.ref a,⟨_,h⟩=>by
  rcases h with⟨xs,e⟩ | ⟨xs,e⟩ | ⟨xs,e⟩
  ·exact⟨_,.tup e,rfl⟩
  ·exact⟨_,.lst e,rfl⟩
  ·exact⟨_,.dK e,rfl⟩
 |.byt _,h=>h.elim
 |.flt _,h=>h.elim
 |.ty _,h=>h.elim
theorem QmG{K:PySem.W.Frag}{p:Addr}{H:Hp}:∀{x:V},Kn p H x->∃t,TyOf K H x t/\PySem.W.kitOne K t (.type "bool")=some (isB x)
 |.non,h=>⟨_,.non,rfl⟩
 |.bl _,h=>⟨_,.bl _,rfl⟩
 |.int _,h=>⟨_,.int _,rfl⟩
 |.str _,h=>⟨_,.str _,rfl⟩
 |.ref a,⟨_,h⟩=>by
  rcases h with⟨xs,e⟩ | ⟨xs,e⟩ | ⟨xs,e⟩
  ·exact⟨_,.tup e,rfl⟩
  ·exact⟨_,.lst e,rfl⟩
  ·exact⟨_,.dK e,rfl⟩
 |.byt _,h=>h.elim
 |.flt _,h=>h.elim
 |.ty _,h=>h.elim
def Qrt(H:Hp)(x:V):List Int:=((QcX H x).getD []).map λy=>match y with
 |.int i=>i
 |_=>0
def IntsT(H:Hp)(x:V)(ns:List Int):Prop:=∃a,x=.ref a/\H a=some (.tup (ns.map V.int))
theorem IntsT.eq{H:Hp}{x:V}{ns:List Int}(h:IntsT H x ns):Qrt H x=ns:=by
 obtain⟨a,rfl,e⟩:=h;unfold Qrt;rw[Qha e];show(ns.map V.int).map _=ns;rw[Je];exact Qba _
theorem IntsT.keep{H H':Hp}(s:Same H H'){x:V}{ns:List Int}(h:IntsT H x ns):IntsT H' x ns:=by
 obtain⟨a,e,q⟩:=h;exact⟨a,e,s a _ q⟩
theorem J9:bootBuiltins "isinstance" = some (.builtin "isinstance"):=by decide +kernel
theorem QhU:bootBuiltins "int" = some (.type "int"):=by decide +kernel
theorem QeX:bootBuiltins "bool" = some (.type "bool"):=by decide +kernel
theorem Qdb:bootBuiltins "tuple" = some (.type "tuple"):=by decide +kernel
theorem Qjf:bootBuiltins "list" = some (.type "list"):=by decide +kernel
theorem QrL:bootBuiltins "str" = some (.type "str"):=by decide +kernel
theorem QhV:bootBuiltins "all" = some (.builtin "all"):=by decide +kernel
theorem QbZ:bootBuiltins "len" = some (.builtin "len"):=by decide +kernel
theorem Qwp:bootBuiltins "max" = some (.builtin "max"):=by decide +kernel
theorem QrM:bootBuiltins "min" = some (.builtin "min"):=by decide +kernel
end Rk
namespace L2
theorem Qcx{J:It}{body:V->Hp->(Hp->Prop)->Prop}{Qn:Hp->Prop}{H:Hp}(n:Nat)(Pv:Nat->Hp->Prop)(h0:Pv 0 H)
  (hs:∀i H2,i<n->Pv i H2->J.go i H2/\∀x H3,J.yld i H2 x H3->∀k:Hp->Prop,(∀H6,Pv (i+1) H6->k H6)->body x H3 k)(hd:∀H2,Pv n H2->J.stop n H2/\Qn H2):QfZ J body Qn H:=by
 refine⟨λi m H=>m=n - i/\i<=n/\Pv i H,⟨n,by simp,Qq _,h0⟩,?_⟩;rintro i m H2 ⟨rfl,hi,p⟩;by_cases hlt:i<n
 ·obtain⟨go,st⟩:=hs i H2 hlt p;exact .inr ⟨go,λx H3 y=>st x H3 y _ λH6 p6=>⟨n - (i+1),by omega,rfl,hlt,p6⟩⟩
 ·have e:i=n:=by omega
  subst e;exact .inl (hd H2 p)
theorem QfK{J:It}{σ:St}{g:TG}{te:TE}{p:Addr}{H1:Hp}{Qn:Hp->Prop}(n:Nat)(hn:n<sizeLine)(F:Nat->Bool)(hp:H1 p=none)
  (hs:∀i H2,i<n->Same H1 H2->J.go i H2/\∀x H3,J.yld i H2 x H3->∀k:VK,(∀H6,Same H2 H6->k (.bl (F i)) H6)->g x σ H3 λσ4 H4=>Wk σ σ4/\te σ4 H4 k)
  (hst:∀H2,Same H1 H2->J.stop n H2)(hq:∀H2,Same H1 H2->H2 p=some (.lst (((Qm n).map F).map V.bl))->Qn H2) :
  QfZ J (bOf σ g Qet (QtU p te)) Qn (upd H1 p (.lst [])):=by
 refine Qcx n (λi H2=>Same H1 H2/\H2 p=some (.lst (((Qm i).map F).map V.bl))) ⟨Jy hp,Jp⟩ (λi H2 hi ⟨s2,e2⟩=>?_) λH2 ⟨s2,e2⟩=>⟨hst H2 s2,hq H2 s2 e2⟩
 obtain⟨go,st⟩:=hs i H2 hi s2;refine⟨go,λx H3 y k hk=>?_⟩;refine st x H3 y (λv H6=>∃ys,H6 p=some (.lst ys)/\ys.length<sizeLine/\k (upd H6 p (.lst (ys++[v])))) λH6 s6=>?_
 have e6:=s6 p _ e2;refine⟨_,e6,?_,hk _ ⟨λb o e=>?_,?_⟩⟩
 ·rw[Qf,Qf,QF];omega
 ·have hb:b≠p:=JY e hp;rw[JK hb];exact s6 b o (s2 b o e)
 ·rw[Jp,Z7,Jj,Jj];rfl
end L2
namespace Rk
open L2
theorem range_getD{α:Type}(L:List α)(d:α):(Qm L.length).map (λi=>L.getD i d)=L:=by
 refine YQ λi=>?_
 rw[Qy];by_cases hi:i<L.length
 ·rw[Zd hi];show some (L.getD i d)=L[i]?;rw[Ql,Qd hi];rfl
 ·have h1:(Qm L.length)[i]? = none:=Zf (by rw[QF];omega);have h2:L[i]? = none:=Zf (by omega);rw[h1,h2];rfl
def QcY(K:PySem.W.Frag):Sp:=λvs H Q _=>∃a ns k,vs=[.ref a,.int k]/\SqL K H a ((ns:List Int).map V.int)/\ns.length<2^20/\0<=k/\∀c,Q (.int c) H
def Qux:Sp:=λvs H Q _=>∃c,vs=[.int c]/\∀p n,H p=none->Q (.ref p) (upd H p (.lst [.int n]))
def Cs(p:Addr)(H:Hp):List V->List (Int×Int)->Prop:=Qam λx ij=>∃d,d≠p/\x=.ref d/\H d=some (.tup [.int ij.1,.int ij.2])
theorem Cs.keep{p:Addr}{H H':Hp}(k:∀d xs,d≠p->H d=some (.tup xs)->H' d=some (.tup xs)):∀{ps:List V}{L:List (Int×Int)},Cs p H ps L->Cs p H' ps L:=λh=>Qam.mapP h λx ij ⟨d,n,e,q⟩=>⟨d,n,e,k d _ n q⟩
theorem Cs.kx{p:Addr}{H H':Hp}(k:KX p H H'){ps:List V}{L:List (Int×Int)}(h:Cs p H ps L):Cs p H' ps L:=h.keep λd xs n e=>k d _ n e
theorem Cs.upd{p cl:Addr}{H:Hp}{xs:List V}{o:HO}(e:H cl=some (.lst xs)){ps:List V}{L:List (Int×Int)}(h:Cs p H ps L):Cs p (L2.upd H cl o) ps L:=h.keep λd ys n q=>by
 rw[JK]
 ·exact q
 ·intro z;rw[z,e] at q;cases q
theorem Cs.len{p:Addr}{H:Hp}{ps:List V}{L:List (Int×Int)}(h:Cs p H ps L):ps.length=L.length:=QtZ h
theorem Cs.mem{p:Addr}{H:Hp}:∀{ps:List V}{L:List (Int×Int)},Cs p H ps L->∀x∈ps,∃ij∈L,∃d,d≠p/\x=.ref d/\H d=some (.tup [.int ij.1,.int ij.2])
 |_,_,.nil,x,h=>nomatch h
 |_,_,.cons r t,x,h=>by
  rcases Qs.mp h with e | e
  ·subst e;exact⟨_,Jz,r⟩
  ·obtain⟨ij,m,q⟩:=Cs.mem t x e;exact⟨ij,QK _ m,q⟩
def Qwx(a b:Int×Int):Prop:=a.1<b.1∨(a.1=b.1/\a.2<b.2)
structure Good (h w:Int) (L:List (Int×Int)):Prop where
 asc:L.Pairwise Qwx
 ins:∀x∈L,0<=x.1/\x.1<h/\0<=x.2/\x.2<w
 len:L.length<=36
structure BoardAt (p:Addr) (H:Hp) (q:Addr) (h w:Int) (L:List (Int×Int)):Prop where
 ne:q≠p
 it:∃c ps,c≠p/\H q=some (.tup [.int h,.int w,.ref c])/\H c=some (.tup ps)/\Cs p H ps L
 h1:1<=h
 h6:h<=6
 w1:1<=w
 w6:w<=6
 good:Good h w L
theorem BoardAt.kx{p:Addr}{H H':Hp}{q:Addr}{h w:Int}{L:List (Int×Int)}(B:BoardAt p H q h w L)(k:KX p H H'):BoardAt p H' q h w L:=by
 obtain⟨ne,⟨c,ps,nc,e1,e2,cs⟩,h1,h6,w1,w6,g⟩:=B;exact⟨ne,⟨c,ps,nc,k q _ ne e1,k c _ nc e2,cs.kx k⟩,h1,h6,w1,w6,g⟩
theorem Qj1(x:Int){m:Int}(h:0<m):0<=x % m/\x % m<m:=⟨Qui _ (by omega),QpQ _ h⟩
def notStar:QZ->Bool
 |.Starred _ _=>false
 |_=>true
theorem YD{e:QZ}{es:List QZ}{env:Env}(h:notStar e=true):starEach (e::es) env=(false,eval e env)::starEach es env:=by
 cases e<;>first | rfl | cases h
section
variable{X:Cx}
theorem Qfc{e:QZ}{es:List QZ}{te:TE}{t:TA}(ha:PE X e te)(hr:PA X es t)(hs:notStar e=true:=by rfl):PA X (e::es) (Qd4 te t):=Jr ha hr (YD hs)
inductive PEs (X:Cx):List QZ->List TE->Prop
 |nil:PEs X [] []
 |cons {e es te ts}:PE X e te->notStar e=true->PEs X es ts->PEs X (e::es) (te::ts)
def Qyo:List TE->TA
 |[]=>QpX
 |t::ts=>Qd4 t (Qyo ts)
theorem PEs.pa{es:List QZ}{ts:List TE}(h:PEs X es ts):PA X es (Qyo ts):=by
 induction h with
 |nil=>exact JN
 |cons a s _ ih=>exact Qfc a ih s
end
theorem KnD.mono{p:Addr}{H:Hp}{x:V}{n m:Nat}(h:m<=n)(k:KnD p n H x):KnD p m H x:=by
 induction n with
 |zero=>
      have:m=0:=by omega
      subst this;exact k
 |succ n ih=>
  by_cases e:m=n+1
  ·subst e;exact k
  ·exact ih (by omega) k.low
def Sm(H:Hp)(x:V):Prop:=∀ps,QcX H x=some ps->ps.length<sizeLine
def Part(p:Addr)(H:Hp)(x:V):Prop:=KnD p 2 H x/\Sm H x
def Thing(p:Addr)(H:Hp)(x:V):Prop:=KnD p 3 H x/\Sm H x/\∀xs,QcX H x=some xs->∀y∈xs,Sm H y
theorem Sm.keep{p:Addr}{H H':Hp}(k:KX p H H'){x:V}(n:Kn p H x)(h:Sm H x):Sm H' x:=λps e=>h ps (by rw[<- Qb9 k n];exact e)
theorem Part.keep{p:Addr}{H H':Hp}(k:KX p H H'){x:V}(h:Part p H x):Part p H' x:=⟨h.1.keep k,h.2.keep k h.1.kn⟩
theorem Thing.keep{p:Addr}{H H':Hp}(k:KX p H H'){x:V}(h:Thing p H x):Thing p H' x:=
 ⟨h.1.keep k,h.2.1.keep k h.1.kn,λxs e y hy=>by
  have e':QcX H x=some xs:=by rw[<- Qb9 k h.1.kn];exact e
  exact Sm.keep k (h.1.2 xs e' y hy).kn (h.2.2 xs e' y hy)⟩
theorem Thing.int{p:Addr}{H:Hp}(i:Int):Thing p H (.int i):=⟨KnD.int i 3,(λ_ e=>nomatch e),(λ_ e=>nomatch e)⟩
theorem Thing.bl{p:Addr}{H:Hp}(i:Bool):Thing p H (.bl i):=⟨KnD.bl i 3,(λ_ e=>nomatch e),(λ_ e=>nomatch e)⟩
theorem Thing.str{p:Addr}{H:Hp}(i:Str):Thing p H (.str i):=⟨KnD.str i 3,(λ_ e=>nomatch e),(λ_ e=>nomatch e)⟩
theorem Thing.non{p:Addr}{H:Hp}:Thing p H .non:=⟨KnD.non 3,(λ_ e=>nomatch e),(λ_ e=>nomatch e)⟩
theorem QjK{H:Hp}{a:Addr}{o:HO}(e:H a=some o)(h:Qxo (some o)=none){xs:List V}(z:QcX H (.ref a)=some xs):False:=by
 rw[tupOf_at,e,h] at z;cases z
theorem Thing.lst{p:Addr}{H:Hp}{a:Addr}{xs:List V}(hp:a≠p)(e:H a=some (.lst xs)):Thing p H (.ref a):=⟨KnD.lst hp e 3,(λ_ z=>(QjK e rfl z).elim),(λ_ z=>(QjK e rfl z).elim)⟩
theorem Thing.dct{p:Addr}{H:Hp}{a:Addr}{xs:List (Key×V)}(hp:a≠p)(e:H a=some (.dK xs)):Thing p H (.ref a):=⟨KnD.dct hp e 3,(λ_ z=>(QjK e rfl z).elim),(λ_ z=>(QjK e rfl z).elim)⟩
theorem Qfk{H:Hp}{a:Addr}{xs ys:List V}(e:H a=some (.tup xs))(z:QcX H (.ref a)=some ys):ys=xs:=by
 rw[Qha e] at z;cases z;rfl
theorem Thing.tup{p:Addr}{H:Hp}{a:Addr}{xs:List V}(hp:a≠p)(e:H a=some (.tup xs))(hl:xs.length<sizeLine)(h:∀y∈xs,Part p H y):Thing p H (.ref a):=
 ⟨KnD.tup hp e λy hy=>(h y hy).1,(λps z=>by rw[Qfk e z];exact hl),λys z y hy=>by rw[Qfk e z] at hy;exact(h y hy).2⟩
theorem Part.tup{p:Addr}{H:Hp}{a:Addr}{xs:List V}(hp:a≠p)(e:H a=some (.tup xs))(hl:xs.length<sizeLine)(h:∀y∈xs,KnD p 1 H y):Part p H (.ref a):=
 ⟨KnD.tup hp e h,λps z=>by rw[Qfk e z];exact hl⟩
theorem Thing.part{p:Addr}{H:Hp}{x:V}(h:Thing p H x):Part p H x:=⟨h.1.low,h.2.1⟩
theorem Qv3{P:V->Prop}:∀y∈([]:List V),P y:=λ_ h=>nomatch h
theorem QmV{P:V->Prop}{a:V}{l:List V}(h:P a)(k:∀y∈l,P y):∀y∈a::l,P y:=λy hy=>by
 rcases Qs.mp hy with e | e
 ·subst e;exact h
 ·exact k y e
theorem Cs.kn{p:Addr}{H:Hp}{ps:List V}{L:List (Int×Int)}(h:Cs p H ps L):∀x∈ps,KnD p 1 H x:=λx hx=>by
 obtain⟨ij,_,d,n,rfl,e⟩:=h.mem x hx;exact KnD.tup n e (QmV (KnD.int _ 0) (QmV (KnD.int _ 0) Qv3))
theorem Cs.part{p:Addr}{H:Hp}{c:Addr}{ps:List V}{L:List (Int×Int)}(n:c≠p)(e:H c=some (.tup ps))(hl:ps.length<sizeLine)(h:Cs p H ps L):Part p H (.ref c):=Part.tup n e hl h.kn
theorem Qte{H:Hp}{p q:Addr}{o:HO}(e:H p=some o)(h:H q=none):q≠p:=λz=>by rw[z,e] at h;cases h
theorem QaN{n:Nat}(h:n<=1000):n<sizeLine:=Qaq h (by decide)
def Fine(p:Addr):Nat->Hp->V->Prop
 |0,H,x=>Kn p H x/\Sm H x
 |n+1,H,x=>Kn p H x/\Sm H x/\∀xs,QcX H x=some xs->∀y∈xs,Fine p n H y
theorem Fine.kn{p:Addr}{H:Hp}{x:V}:∀{n:Nat},Fine p n H x->Kn p H x
 |0,h=>h.1
 |_+1,h=>h.1
theorem Fine.sm{p:Addr}{H:Hp}{x:V}:∀{n:Nat},Fine p n H x->Sm H x
 |0,h=>h.2
 |_+1,h=>h.2.1
theorem Fine.knd{p:Addr}{H:Hp}:∀{n:Nat}{x:V},Fine p n H x->KnD p n H x
 |0,_,h=>h.1
 |_+1,_,h=>⟨h.1,λxs e y hy=>(h.2.2 xs e y hy).knd⟩
theorem Fine.keep{p:Addr}{H H':Hp}(k:KX p H H'):∀{n:Nat}{x:V},Fine p n H x->Fine p n H' x
 |0,x,h=>⟨h.1.keep k,h.2.keep k h.1⟩
 |n+1,x,h=>⟨h.1.keep k,h.2.1.keep k h.1,λxs e y hy=>(h.2.2 xs (by rw[<- Qb9 k h.1];exact e) y hy).keep k⟩
theorem Fine.thing{p:Addr}{H:Hp}{x:V}(h:∀n,Fine p n H x):Thing p H x:=⟨(h 3).knd,(h 0).2,λxs e y hy=>((h 1).2.2 xs e y hy).2⟩
theorem QdG{p:Addr}{H:Hp}{x:V}(k:Kn p H x)(t:QcX H x=none):∀n,Fine p n H x
 |0=>⟨k,λps e=>by rw[t] at e;cases e⟩
 |_+1=>⟨k,(λps e=>by rw[t] at e;cases e),λps e=>by rw[t] at e;cases e⟩
theorem Qpt{p a:Addr}{H:Hp}{xs:List V}(hp:a≠p)(e:H a=some (.tup xs))(hl:xs.length<sizeLine)(h:∀y∈xs,∀n,Fine p n H y):∀n,Fine p n H (.ref a)
 |0=>⟨⟨hp,.inl ⟨xs,e⟩⟩,λps z=>by rw[Qfk e z];exact hl⟩
 |n+1=>⟨⟨hp,.inl ⟨xs,e⟩⟩,(λps z=>by rw[Qfk e z];exact hl),λys z y hy=>h y (by rw[Qfk e z] at hy;exact hy) n⟩
theorem Qpu{p a:Addr}{H:Hp}{xs:List V}(hp:a≠p)(e:H a=some (.lst xs)):∀n,Fine p n H (.ref a):=QdG ⟨hp,.inr (.inl ⟨xs,e⟩)⟩ (by rw[tupOf_at,e];rfl)
section
variable{X:Cx}
end
def Quu(t:TA):TE:=λσ H Q=>t σ H λxs H1=>xs.length<=1000/\∀a H2,Same H1 H2->H1 a=none->H2 a=some (.tup xs)->Q (.ref a) H2
def Qxs(t:TA):TE:=λσ H Q=>t σ H λxs H1=>xs.length<=1000/\∀a H2,Same H1 H2->H1 a=none->H2 a=some (.lst xs)->Q (.ref a) H2
section
variable{X:Cx}
theorem QiO{es:List QZ}{t:TA}{x1}{pos:Pos}(h:PA X es t):PE X (.Tuple es x1 pos) (Quu t):=by
 intro pins s σ H Q I hq;refine wpAny_Tuple_spliced (thn (h pos pins s σ H _ I hq) λus s1 ⟨xs,H1,I1,r,z,q⟩=>⟨by rw[<- r.length];exact Zz (QaN z),?_⟩);have hf:H1 s1.heap.objs.size=none:=I1.hok.fresh (Qg _);refine⟨.ref s1.heap.objs.size,upd H1 s1.heap.objs.size (.tup xs),I1.laid (t':=s1.toks) (λb u e=>Qc _ e) (Qg _) ?_,rfl,q _ _ (Jy hf) hf Jp⟩;exact⟨Zz (QaN z),us,r,⟨_,Qu _ rfl,rfl,_,rfl⟩⟩
theorem QiP{es:List QZ}{t:TA}{pos:Pos}(h:PA X es t):PE X (.List es pos) (Qxs t):=by
 intro pins s σ H Q I hq;refine Qwz (thn (h pos pins s σ H _ I hq) λus s1 ⟨xs,H1,I1,r,z,q⟩=>⟨by rw[<- r.length];exact Zz (QaN z),?_⟩);have hf:H1 s1.heap.objs.size=none:=I1.hok.fresh (Qg _);refine⟨.ref s1.heap.objs.size,upd H1 s1.heap.objs.size (.lst xs),I1.laid (t':=s1.toks) (λb u e=>Qc _ e) (Qg _) ?_,rfl,q _ _ (Jy hf) hf Jp⟩;exact⟨Zz (QaN z),us,0,r,Qu _ rfl⟩
end
def FineA(p:Addr)(H:Hp)(x:V):Prop:=∀n,Fine p n H x
theorem FineA.keep{p:Addr}{H H':Hp}{x:V}(h:FineA p H x)(k:KX p H H'):FineA p H' x:=λn=>(h n).keep k
theorem FineA.int{p:Addr}{H:Hp}(i:Int):FineA p H (.int i):=QdG trivial rfl
theorem FineA.bl{p:Addr}{H:Hp}(i:Bool):FineA p H (.bl i):=QdG trivial rfl
theorem FineA.tup{p a:Addr}{H:Hp}{xs:List V}(hp:a≠p)(e:H a=some (.tup xs))(hl:xs.length<=1000)(h:∀y∈xs,FineA p H y):FineA p H (.ref a):=Qpt hp e (QaN hl) h
theorem FineA.lst{p a:Addr}{H:Hp}{xs:List V}(hp:a≠p)(e:H a=some (.lst xs)):FineA p H (.ref a):=Qpu hp e
theorem FineA.thing{p:Addr}{H:Hp}{x:V}(h:FineA p H x):Thing p H x:=Fine.thing h
theorem FineA.part{p:Addr}{H:Hp}{x:V}(h:FineA p H x):Part p H x:=(Fine.thing h).part
end Rk
namespace Rx
open PySem.Calls L2 PySem.W Builtin Builtin.ObjectAttr Builtin.Getset_descriptor
def ExAt(a C:Addr)(h:Heap):Prop:=∃o vs,h.get? a=some o/\o.cls=.ref C/\o.data=.fields vs
theorem ExAt.ty{M:Qxd}{h:Heap}{a C:Addr}(x:ExAt a C h):Looks M h (typeOf (.ref a)) (.ref C):=by
 obtain⟨o,vs,e,c,_⟩:=x;exact c ▸ (Looks.ld e).andThen .now
structure ExC (K:PySem.W.Frag) (C:Addr):Prop where
 ga:findIn K (.ref C) "__getattribute__" = some (some (.builtin "BaseException.__getattribute__"))
 hk:findIn K (.ref C) "__getattr__" = some none
 bas:mroIn K C (.type "BaseException")=some true
 cls:(clsIn K C).isSome=true
 att:findIn K (.ref C) "__class__" = some (some (.builtin "object.__class__"))
 spc:specialIn K (.builtin "object.__class__") "__get__" = some (some (.builtin "getset_descriptor.__get__"))
 tks:takesIn K (.builtin "object.__class__")=some true
 mro:mroIn K C (.type "object")=some true
section
variable{prog:QB}{w:Q8}{A:Q2}{E:Value->Shared->Prop}{s:Shared}{K:PySem.W.Frag}{a C:Addr}
end
end Rx
namespace Rx
open PySem.Calls L2
section
variable{X:Cx}{E:XK}{C:Addr}{x:Str}{e0:QZ}{te:TE}{np cpos pos:Pos}
end
def exO(a C:Addr):HO:=.ext (ExAt a C)
structure ByC (K:PySem.W.Frag) (C R:Addr):Prop where
 ty:PySem.W.typeIn K (.ref R)=some (.type "type")
 cls:(PySem.W.clsIn K R).isSome=true
 base:PySem.W.mroIn K R (.type "BaseException")=some true
 sub:PySem.W.mroIn K C (.ref R)=some true
section
variable{X:Cx}{pins:List (Addr×Obj)}{σ:L2.St}{H:Hp}{s:Shared}
end
def XP(X:Cx)(pins:List (Addr×Obj))(Ex:L2.St->Addr->Hp->Prop)(e:Value)(s1:Shared):Prop:=
 ∃(σ:L2.St)(C:Addr)(H':Hp)(a t:Addr)(B:Heap),e=.ref a/\Heap.FlyingW B X.stack a (.ref C) (.ref t) s1.heap/\H' a=none/\X.s₀.heap.get? a=none/\(∀p∈X.pn++pins,p.1≠a) /\
  (∀(h2:Heap)(tk:Nat),B.StaysIn h2->s1.heap.UpToSlots h2->Inv X pins σ H' { s1 with heap:=h2,toks:=tk })/\Ex σ C H'
abbrev TX:=L2.St->Hp->VK->(Addr->Hp->Prop)->Prop
def PEX(X:Cx)(e:QZ)(t:TX):Prop:=∀(pins:List (Addr×Obj))(s:Shared)(σ:L2.St)(H:Hp)(Q:VK)(Ex:Addr->Hp->Prop),Inv X pins σ H s->t σ H Q Ex ->
 wpAny (model X.prog X.w) X.A (eval e X.env) (EP X pins σ Q) (XP X pins λσ1 C H1=>σ1=σ/\Ex C H1) s
section
variable{X:Cx}{k:Nat}{f:Addr}{fd:Q1}{ps:List Str}{sp:Sp}{x:Str}{p pos:Pos}{e:QZ}{es:List QZ}{t:TA}
end
section
variable{X:Cx}{R:Addr}{i:Nat}{n r:Str}{call hx:QZ}{tc:TX}{th:TE}{rp np hp hpos pos:Pos}
end
structure RoomM (k:Nat) (A:Q2):Prop where
 dp:A.depth+3*k+5<recursionLimit
 un:A.units+16*k+200<cLine
theorem RoomM.mono{j k:Nat}{A:Q2}(r:RoomM k A)(h:j<=k):RoomM j A:=⟨by have:=r.dp;omega,by have:=r.un;omega⟩
section
variable{P:QB}{w:Q8}{K:PySem.W.Frag}{mg:Str->Option Value}{base:Heap}
end
section
variable{X:Cx}{k:Nat}{f:Addr}{fd:Q1}{ps:List Str}{sp:Sp}{x:Str}{p pos:Pos}{e:QZ}{es:List QZ}{t:TA}
end
section
variable{X:Cx}
theorem bools_eq{bs:List Bool}{us:List Value}(r:Vals (bs.map V.bl) us):us=bs.map QbB:=by
 induction bs generalizing us with
 |nil=>cases r;rfl
 |cons b bs ih=>
  cases r with
  |cons r t=>
   cases(show _=QbB b from r);rw[ih t];rfl
end
end Rx
namespace Rd
open L2
mutual
inductive Dat (H:Hp):V->Qa->Prop
 |non:Dat H .non .none
 |bl (b:Bool):Dat H (.bl b) (.bool b)
 |int (i:Int):Dat H (.int i) (.int i)
 |str (x:Str):QcP (.str x)=true->Dat H (.str x) (.str x)
 |tup {a:Addr} {xs:List V} {ds:List Qa}:H a=some (.tup xs)->Dats H xs ds->Dat H (.ref a) (.tuple ds)
 |lst {a:Addr} {xs:List V} {ds:List Qa}:H a=some (.lst xs)->Dats H xs ds->Dat H (.ref a) (.list ds)
inductive Dats (H:Hp):List V->List Qa->Prop
 |nil:Dats H [] []
 |cons {x:V} {xs:List V} {d:Qa} {ds:List Qa}:Dat H x d->Dats H xs ds->Dats H (x::xs) (d::ds)
end
mutual
theorem Qas{P:QB}{w:Q8}{H:Hp}{h:Heap}(ok:HOk P w H h):∀(d:Qa)(x:V)(v:Value),Dat H x d->RelV x v->(∃as,Qbc h v d as)/\d.canLay0=true
 |.none,_,v,.non,r=>by cases r;exact⟨⟨_,.none⟩,rfl⟩
 |.bool b,_,v,.bl _,r=>by cases r;exact⟨⟨_,.bool b⟩,rfl⟩
 |.int i,_,v,.int _,r=>by obtain⟨t,rfl⟩:=r;exact⟨⟨_,.int i t⟩,rfl⟩
 |.str z,_,v,.str _ c,r=>by obtain⟨t,rfl⟩:=r;exact⟨⟨_,.str z t⟩,c⟩
 |.tuple ds,_,v,.tup (a:=a) (xs:=xs) e q,r=>by
  cases r;obtain⟨_,its,rv,o,ho,hc,n,hd⟩:=ok a _ e;obtain⟨⟨as,ra⟩,cl⟩:=QaJ ok ds xs its q rv;exact⟨⟨as,.tuple ho hc hd ra⟩,cl⟩
 |.list ds,_,v,.lst (a:=a) (xs:=xs) e q,r=>by
  cases r;obtain⟨_,its,n,rv,ho⟩:=ok a _ e;obtain⟨⟨as,ra⟩,cl⟩:=QaJ ok ds xs its q rv;exact⟨⟨a::as,.list ho rfl rfl ra⟩,cl⟩
 |.dict _,_,_,q,_=>nomatch q
theorem QaJ{P:QB}{w:Q8}{H:Hp}{h:Heap}(ok:HOk P w H h):∀(ds:List Qa)(xs:List V)(vs:List Value),Dats H xs ds->Vals xs vs->(∃as,YN h vs ds as)/\Q6 ds=true
 |[],_,vs,.nil,r=>by cases r;exact⟨⟨_,.nil⟩,rfl⟩
 |d::ds,_,vs,.cons (x:=x) (xs:=xs) q qs,r=>by
  cases r with
  |cons r rs=>
   obtain⟨⟨a1,r1⟩,c1⟩:=Qas ok d x _ q r;obtain⟨⟨a2,r2⟩,c2⟩:=QaJ ok ds xs _ qs rs;exact⟨⟨_,.cons r1 r2⟩,by simp[Q6,c1,c2]⟩
end
mutual
theorem Qj4{H H':Hp}(s:Same H H'):∀(d:Qa)(x:V),Dat H x d->Dat H' x d
 |.none,_,.non=>.non
 |.bool _,_,.bl _=>.bl _
 |.int _,_,.int _=>.int _
 |.str _,_,.str _ c=>.str _ c
 |.tuple ds,_,.tup (xs:=xs) e q=>.tup (s _ _ e) (Qc7 s ds xs q)
 |.list ds,_,.lst (xs:=xs) e q=>.lst (s _ _ e) (Qc7 s ds xs q)
 |.dict _,_,q=>nomatch q
theorem Qc7{H H':Hp}(s:Same H H'):∀(ds:List Qa)(xs:List V),Dats H xs ds->Dats H' xs ds
 |[],_,.nil=>.nil
 |d::ds,_,.cons (x:=x) (xs:=xs) q qs=>.cons (Qj4 s d x q) (Qc7 s ds xs qs)
end
theorem Dat.same{H H':Hp}{x:V}{d:Qa}(q:Dat H x d)(s:Same H H'):Dat H' x d:=Qj4 s d x q
theorem Dats.same{H H':Hp}{xs:List V}{ds:List Qa}(q:Dats H xs ds)(s:Same H H'):Dats H' xs ds:=Qc7 s ds xs q
theorem Dats.length{H:Hp}:∀{xs:List V}{ds:List Qa},Dats H xs ds->xs.length=ds.length
 |_,_,.nil=>rfl
 |_,_,.cons _ q=>by rw[Qr,Qr,q.length]
theorem Dats.get{H:Hp}:∀{xs:List V}{ds:List Qa},Dats H xs ds->∀(i:Nat)(x:V),xs[i]? = some x->∃d,ds[i]? = some d/\Dat H x d
 |_,_,.nil,i,x,e=>by simp at e
 |_,_,.cons q qs,0,x,e=>by simp at e;subst e;exact⟨_,rfl,q⟩
 |_,_,.cons q qs,i+1,x,e=>qs.get i x (by simpa using e)
theorem Dats.app{H:Hp}:∀{xs ys:List V}{ds es:List Qa},Dats H xs ds->Dats H ys es->Dats H (xs++ys) (ds++es)
 |_,_,_,_,.nil,q=>q
 |_,_,_,_,.cons a b,q=>.cons a (b.app q)
section
variable{X:Cx}
def Qzc(X:Cx):R2:=λx y H Q=>∃dx dy,Dat H x dx/\Dat H y dy/\X.A.units+min dx.depth dy.depth<cLine/\Q (.bl (JB dx dy)) H
theorem Qvu:OpR X (compareOp .Eq) (Qzc X):=by
 intro pins s σ H x y v u Q I rx ry h;obtain⟨dx,dy,qx,qy,hu,q⟩:=h;obtain⟨⟨as,ra⟩,ca⟩:=Qas I.hok dx x v qx rx;obtain⟨⟨bs,rb⟩,cb⟩:=Qas I.hok dy y u qy ry;exact SeqAt.compareEq_reads ra rb ca cb hu ⟨.bl _,H,I,rfl,q⟩
open Classical in
noncomputable def eqH (h:Heap) (d:Qa) (y:Value):Bool:=decide (∃e as,Qbc h y e as/\e.canLay0=true/\JB e d=true)
open Classical in
theorem Qyb{h:Heap}{d:Qa}{y:Value}(q:∃e as,Qbc h y e as/\e.canLay0=true/\JB e d=true):eqH h d y=true:=by
 unfold eqH;exact decide_eq_true q
open Classical in
theorem Qyc{h:Heap}{d:Qa}{y:Value}(q:¬ ∃e as,Qbc h y e as/\e.canLay0=true/\JB e d=true):eqH h d y=false:=by
 unfold eqH;exact decide_eq_false q
theorem QrB{h:Heap}{d e:Qa}{y:Value}{as:List Addr}(r:Qbc h y e as)(c:e.canLay0=true):eqH h d y=JB e d:=by
 cases q:JB e d with
 |true=>exact Qyb ⟨e,as,r,c,q⟩
 |false=>
  refine Qyc λ⟨e',as',r',c',q'⟩=>?_
  rw[<- QaT e e' y as as' c r r',q] at q';cases q'
theorem Qji{h:Heap}{d:Qa}:∀{vs:List Value}{ds:List Qa}{as:List Addr},YN h vs ds as->Q6 ds=true->vs.any (eqH h d)=ds.any λe=>JB e d
 |_,_,_,.nil,_=>rfl
 |_,_,_,.cons r rs,c=>by
  simp only[Q6,JF] at c;rw[Qb5,Qb5,QrB r c.1,Qji rs c.2]
theorem Qi2{A:Q2}{s:Shared}{d:Qa}{v:Value}{bs:List Addr}(rv:Qbc s.heap v d bs)(cv:d.canLay0=true):∀{vs:List Value}{ds:List Qa}{as:List Addr},YN s.heap vs ds as->Q6 ds=true->A.units+d.depth<cLine ->
  ∀u∈vs,QnW A s u v (eqH s.heap d u)
 |_,_,_,.nil,_,_=>λu hu=>nomatch hu
 |_,_,_,.cons (d:=e) r rs,c,hu=>λu hm=>by
  simp only[Q6,JF] at c;rcases Qs.mp hm with z | z
  ·subst z;rw[QrB r c.1];exact Qe4 e d A s _ v _ bs r rv c.1 cv (Qaq (Nat.add_le_add_left (QfT _ _) _) hu)
  ·exact Qi2 rv cv rs c.2 hu u z
def Qzb(X:Cx)(neg:Bool):R2:=λx y H Q=>∃c ps ds d,y=.ref c/\H c=some (.tup ps)/\Dats H ps ds/\Dat H x d/\X.A.in1.units+d.depth<cLine/\Q (.bl (if neg then !(ds.any λe=>JB e d) else ds.any λe=>JB e d)) H
theorem Ql9:OpR X (compareOp .NotIn) (Qzb X true):=by
 intro pins s σ H x y v u Q I rx ry h;obtain⟨c,ps,ds,d,rfl,hc,qs,qx,hu,q⟩:=h;cases ry;obtain⟨⟨as,ra⟩,ca⟩:=Qas I.hok d x v qx rx;obtain⟨_,its,rv,tp⟩:=I.hok c _ hc;obtain⟨⟨bs,rb⟩,cb⟩:=QaJ I.hok ds ps its qs rv;refine Qk9 (eqH s.heap d) tp (λw hw=>Qi2 ra ca rb cb hu w (Qr0.mp hw)) ⟨.bl _,H,I,rfl,?_⟩;rw[show its.toArray.any (eqH s.heap d)=its.any (eqH s.heap d) by simp,Qji rb cb];exact q
end
section
variable{X:Cx}
end
end Rd
namespace L2
theorem Qnr:bootBuiltins "enumerate" = some (.type "enumerate"):=by decide +kernel
section
variable{X:Cx}
end
section
variable{prog:QB}{w:Q8}{A:Q2}{R:QrW->Shared->Prop}{s:Shared}
theorem Qhd{elt tg iter:QZ}{ifs:List QZ}{g0:QcU}{scope:Yk}{pos:Pos}{it acc:Value}{env:Env}
  (h0:codeAny (model prog w) A (.compLoop (.ListComp elt [g0,⟨tg,iter,ifs,0⟩] scope pos) 1 it acc env) R s)
  (h:wpAny (model prog w) A (pyIter it) (λit' s'=>codeAny (model prog w) A (.compLoop (.ListComp elt [g0,⟨tg,iter,ifs,0⟩] scope pos) 1 it' acc env) R s') (notedBy (model prog w) A env λx s'=>R (.error x) s') s) :
  codeAny (model prog w) A (.compStart (.ListComp elt [g0,⟨tg,iter,ifs,0⟩] scope pos) 1 it acc env) R s:=by
 refine Qd0 ?_
 show wpAny _ _ ((compStart (.ListComp elt [g0,⟨tg,iter,ifs,0⟩] scope pos) 1 it acc env).onRaise (λx=>do noteFrame x env;standAt theWindowsPlace)) _ _ s;refine wpAny_notedAt ?_
 unfold compStart;show wpAny _ _ (ask >>= _) _ _ s;refine wpAny_bind (ZK (wpAny_ite ?_));split
 ·first
   |exact wpAny_bind (wpAny_pure (wpAny_pure ⟨rfl,h0⟩))
   |exact wpAny_pure ⟨rfl,h0⟩
 ·first
   |exact wpAny_bind (wpAny_rule (wpAny_bind (wpAny_standAt (wpAny_bind (wpAny_mono h (λit' s' h'=>wpAny_pure ⟨rfl,h'⟩) λ_ _ x=>x)))))
   |exact wpAny_bind (wpAny_rule (wpAny_bind (wpAny_standAt (wpAny_bind (wpAny_mono h (λit' s' h'=>wpAny_pure (wpAny_pure ⟨rfl,h'⟩)) λ_ _ x=>x)))))
end
theorem Qll{Y:Cx}{elt tg iter:QZ}{ifs:List QZ}{g0:QcU}{scope:Yk}{cpos:Pos}{it D:Addr}(Q:PySem.Fin->Shared->Prop)(E:Value->Shared->Prop)(s:Shared)
  (h:wpAny (model Y.prog Y.w) Y.A (pyNext (.ref it)) (λr s1=>match r with
   |none=>Q (.done .next) s1
   |some v=>wpAny (model Y.prog Y.w) Y.A (letOwnedTupleGo tg (.ref it) v) (λ_ s2=>QnD Y tg ifs (QnG Y elt D) v (λs3=>Q (.again (.compLoop (.ListComp elt [g0,⟨tg,iter,ifs,0⟩] scope cpos) 1 (.ref it) (.ref D) Y.env)) s3) s2) E s1) E s) :
  wpAny (model Y.prog Y.w) Y.A (compTurn (.ListComp elt [g0,⟨tg,iter,ifs,0⟩] scope cpos) 1 (.ref it) (.ref D) Y.env) Q E s:=by
 have e:compTurn (.ListComp elt [g0,⟨tg,iter,ifs,0⟩] scope cpos) 1 (.ref it) (.ref D) Y.env=(do
   standAt iter.pos
   match <- pyNext (.ref it) with
   |none=>pure (.done .next)
   |some v=>
    letOwnedTupleGo tg (.ref it) v
    assign tg Y.env v
    let mut ok:=true
    for c in ifs do
     if ok then ok <- isTrue c Y.env (eval c Y.env)
    if ok then
     (do let _ <- call (.builtin "list.append") [.ref D,<- eval elt Y.env])
    again (.compLoop (.ListComp elt [g0,⟨tg,iter,ifs,0⟩] scope cpos) 1 (.ref it) (.ref D) Y.env)):=by rfl
 rw[e];refine wpAny_bind (wpAny_standAt (wpAny_bind (thn h λr s1 h1=>?_)));cases r with
 |none=>exact wpAny_pure h1
 |some v=>
  refine wpAny_bind (thn h1 λ_ s2 h2=>?_);refine wpAny_bind (wpAny_mono h2 (λ_ s4 h4=>wpAny_bind (wpAny_mono h4 (λok s5 h5=>?_) λ_ _ f=>f.elim)) λ_ _ f=>f.elim);cases ok with
  |false=>exact wpAny_pure h5
  |true=>exact wpAny_bind (wpAny_bind (wpAny_mono h5 (λx s6 h6=>wpAny_bind (wpAny_mono h6 (λ_ s7 h7=>wpAny_pure (wpAny_pure h7)) λ_ _ f=>f.elim)) λ_ _ f=>f.elim))
def QnE(Y:Cx)(e:QZ)(iter:QZ)(D:Addr):Act:=λQ s=>wpAny (model Y.prog Y.w) Y.A (eval iter Y.env) (λx s1=>wpAny (model Y.prog Y.w) Y.A (pyIter x)
 (λitv s2=>codeAny (model Y.prog Y.w) Y.A (.compStart e 1 itv (.ref D) Y.env) (λr s3=>match r with | .ok _=>Q s3 | .error _=>False) s2) (λ_ _=>False) s1) (λ_ _=>False) s
def Qwq(wi:TI)(g:TG)(tc:TT)(p:Addr)(te:TE):St->Hp->(Hp->Prop)->Prop:=λσ H k=>wi σ H λJ H1=>QfZ J (bOf σ g tc (QtU p te)) k H1
theorem Qnt{Y:Cx}{σ:St}{elt tg iter:QZ}{ifs:List QZ}{g0:QcU}{scope:Yk}{cpos:Pos}{D:Addr}{wi:TI}{g:TG}{tc:TT}{te:TE}(hx:Y.xe=λ_ _=>False)(hc:Y.calm=true)
  (hi:PI Y tg iter wi)(hg:PG Y tg g)(ht:PTs Y ifs tc)(he:PE Y elt te):BodyOk Y σ (QnE Y (.ListComp elt [g0,⟨tg,iter,ifs,0⟩] scope cpos) iter D) (Qwq wi g tc D te σ):=by
 intro pins s H k Q I h hQ;have hx':∀(v:Value)(s':Shared),Y.xe v s'->False:=λv s' z=>by rw[hx] at z;exact z
 refine wpAny_mono (hi pins s σ H _ I h) (λv s1 h1=>wpAny_mono h1 (λitv s2 h2=>?_) hx') hx';obtain⟨it,fp,tn,J,H2,e,I2,T,st2,f2,hW⟩:=h2;subst e;have loop:codeAny (model Y.prog Y.w) Y.A (.compLoop (.ListComp elt [g0,⟨tg,iter,ifs,0⟩] scope cpos) 1 (.ref it) (.ref D) Y.env) (λr s3=>match r with | .ok _=>Q s3 | .error _=>False) s2:=
  Qc8 (Y:=Y) (gens:=[g0,⟨tg,iter,ifs,0⟩]) (d:=1) hc T st2 f2 (λQ E s h=>Qll Q E s h) (λx u r=>QeY hx hg ht (λσ4=>QgH hx he) x u r) I2 hW λs' H' I' q=>hQ s' H' I' q
 exact Qhd loop (T.self _ 0 _ _ _ st2 loop)
theorem Qkq{Y:Cx}{elt tg iter tg2 iter2:QZ}{ifs ifs2:List QZ}{scope:Yk}{cpos:Pos}{it D:Addr}(hs:∀x,foldedSetIterable iter2 Y.env x=pure x)(Q:PySem.Fin->Shared->Prop)(E:Value->Shared->Prop)(s:Shared)
  (h:wpAny (model Y.prog Y.w) Y.A (pyNext (.ref it)) (λr s1=>match r with
   |none=>Q (.done .next) s1
   |some v=>wpAny (model Y.prog Y.w) Y.A (letOwnedTupleGo tg (.ref it) v) (λ_ s2=>QnD Y tg ifs (QnE Y (.ListComp elt [⟨tg,iter,ifs,0⟩,⟨tg2,iter2,ifs2,0⟩] scope cpos) iter2 D) v (λs3=>Q (.again (.compLoop (.ListComp elt [⟨tg,iter,ifs,0⟩,⟨tg2,iter2,ifs2,0⟩] scope cpos) 0 (.ref it) (.ref D) Y.env)) s3) s2) E s1) E s) :
  wpAny (model Y.prog Y.w) Y.A (compTurn (.ListComp elt [⟨tg,iter,ifs,0⟩,⟨tg2,iter2,ifs2,0⟩] scope cpos) 0 (.ref it) (.ref D) Y.env) Q E s:=by
 have e:compTurn (.ListComp elt [⟨tg,iter,ifs,0⟩,⟨tg2,iter2,ifs2,0⟩] scope cpos) 0 (.ref it) (.ref D) Y.env=(do
   standAt iter.pos
   match <- pyNext (.ref it) with
   |none=>pure (.done .next)
   |some v=>
    letOwnedTupleGo tg (.ref it) v
    assign tg Y.env v
    let mut ok:=true
    for c in ifs do
     if ok then ok <- isTrue c Y.env (eval c Y.env)
    if ok then
     let x <- eval iter2 Y.env
     standAt iter2.pos
     let x <- foldedSetIterable iter2 Y.env x
     let _ <- runOwn (.compStart (.ListComp elt [⟨tg,iter,ifs,0⟩,⟨tg2,iter2,ifs2,0⟩] scope cpos) 1 (<- holding [x] (pyIter x)) (.ref D) Y.env) Y.env
    again (.compLoop (.ListComp elt [⟨tg,iter,ifs,0⟩,⟨tg2,iter2,ifs2,0⟩] scope cpos) 0 (.ref it) (.ref D) Y.env)):=by rfl
 rw[e];refine wpAny_bind (wpAny_standAt (wpAny_bind (thn h λr s1 h1=>?_)));cases r with
 |none=>exact wpAny_pure h1
 |some v=>
  refine wpAny_bind (thn h1 λ_ s2 h2=>?_);refine wpAny_bind (wpAny_mono h2 (λ_ s4 h4=>wpAny_bind (wpAny_mono h4 (λok s5 h5=>?_) λ_ _ f=>f.elim)) λ_ _ f=>f.elim);cases ok with
  |false=>exact wpAny_pure h5
  |true=>
   refine wpAny_bind (wpAny_mono h5 (λx s6 h6=>wpAny_bind (wpAny_standAt ?_)) λ_ _ f=>f.elim);rw[hs x];refine wpAny_bind (wpAny_pure (wpAny_bind (JV (wpAny_mono h6 (λitv s7 h7=>?_) λ_ _ f=>f.elim))));refine wpAny_bind (wpAny_runOwn (h:=none) (Qa1 h7 λr s8 h8=>?_));cases r with
   |error z=>exact h8.elim
   |ok fl=>exact wpAny_pure h8
def QpY(cap:List (Option Nat))(wi:TI)(g:TG)(tc:TT)(wi2:TI)(g2:TG)(tc2:TT)(te:TE):TE:=λσ H Q=>wi σ H λJ H1=>∀p,H1 p=none->QfZ J (bOf (Qdo cap σ) g tc (Qwq wi2 g2 tc2 p te)) (Q (.ref p)) (upd H1 p (.lst []))
end L2
namespace Rk
open L2 Rd
def Qbq(k:Nat)(rs:List Int):List Int:=(Qm k).filterMap λ(i:Nat)=>if(i:Int)∈rs then none else some (i:Int)
theorem Qm0(rs:List Int):(rs.map V.int).all Qgu=true:=by
 rw[Jm];intro x hx;obtain⟨i,_,rfl⟩:=Qt.mp hx;rfl
theorem Qty(a b:Int):eqV (.int a) (.int b)=decide (a=b):=by
 unfold eqV
 first | rfl | simp[Qk4] | (rw[Qk4])
theorem Qtt(i:Int)(rs:List Int):inV (.int i) (rs.map V.int)=decide (i∈rs):=by
 unfold inV;rw[Qk2];induction rs with
 |nil=>simp
 |cons r rs ih=>
  rw[Qb5,ih];show(eqV (.int r) (.int i)||_)=_;rw[Qty];by_cases h:r=i
  ·simp[h]
  ·have h':¬i=r:=λz=>h z.symm
   simp[h,h']
end Rk
namespace Rr
section
variable{prog:QB}{w:Q8}{A:Q2}{E:Value->Shared->Prop}{s:Shared}
end
end Rr
namespace L2
section
variable{X:Cx}
end
end L2
namespace Rs
open PySem.W
def sp{α:Type}(n:Nat)(c:Nat->Nat->Bool):KasT α->(α->Prop)->Prop
 |.ret a,Q=>Q a
 |.ask i j f,Q=>i<n/\j<n/\sp n c (f (c i j)) Q
theorem QaM{α:Type}{n:Nat}{c:Nat->Nat->Bool}{Q Q':α->Prop}(h:∀a,Q a->Q' a):∀{t:KasT α},sp n c t Q->sp n c t Q'
 |.ret a,q=>h a q
 |.ask i j f,q=>⟨q.1,q.2.1,QaM h (t:=f (c i j)) q.2.2⟩
theorem Qdt{α β:Type}{n:Nat}{c:Nat->Nat->Bool}{f:α->KasT β}{Q:β->Prop}:∀{t:KasT α},sp n c t (λa=>sp n c (f a) Q)->sp n c (t.bind f) Q
 |.ret a,q=>q
 |.ask i j g,q=>⟨q.1,q.2.1,Qdt (t:=g (c i j)) q.2.2⟩
theorem Qjq{α:Type}{n:Nat}{c:Nat->Nat->Bool}{cmp:Nat->Nat->(Bool->Shared->Prop)->Shared->Prop}{s:Shared}{Q:α->Shared->Prop}(hc:∀i j (C:Bool->Shared->Prop),i<n->j<n->C (c i j) s->cmp i j C s) :
  ∀{t:KasT α},sp n c t (λa=>Q a s)->t.kasWp cmp Q s
 |.ret a,q=>q
 |.ask i j f,q=>hc i j _ q.1 q.2.1 (Qjq hc (t:=f (c i j)) q.2.2)
section
variable{n:Nat}{K:Nat->Int}
abbrev cK (K:Nat->Int) (i j:Nat):Bool:=decide (K i<K j)
structure Good (n:Nat) (p:Array Nat):Prop where
 perm:p.toList.Perm (Qm n)
theorem Good.size{p:Array Nat}(g:Good n p):p.size=n:=by
 have:=g.perm.length_eq;rw[QF,Qe] at this;exact this
def at_(p:Array Nat)(i:Nat):Nat:=p.getD i 0
theorem Qnx{p:Array Nat}{i:Nat}(h:i<p.size):p[i]? = some (at_ p i):=by
 unfold at_;rw[YC,Qbn h];rfl
theorem QpC{p q:Array Nat}{i j:Nat}(h:p[i]? = q[j]?):at_ p i=at_ q j:=by
 unfold at_;rw[YC,YC,h]
theorem Good.lt{p:Array Nat}(g:Good n p)(h0:0<n)(i:Nat):at_ p i<n:=by
 by_cases h:i<p.size
 ·have e:=Qnx h;have m:at_ p i∈p.toList:=by
   have:=YB e;exact ZE.mpr this
  exact QU.mp (g.perm.mem_iff.mp m)
 ·unfold at_;rw[YC,ZQ (by omega)];exact h0
theorem Good.inj{p:Array Nat}(g:Good n p){i j:Nat}(hi:i<n)(hj:j<n)(e:at_ p i=at_ p j):i=j:=by
 have nd:p.toList.Nodup:=g.perm.nodup_iff.mpr Qcm;have hs:=g.size;have hi':i<p.toList.length:=by rw[Qe];omega
 have hj':j<p.toList.length:=by rw[Qe];omega
 have ei:p.toList[i]=at_ p i:=by
  have:=Qnx (p:=p) (i:=i) (by omega);rw[Qbn (by omega)] at this;rw[J1];exact Qw this
 have ej:p.toList[j]=at_ p j:=by
  have:=Qnx (p:=p) (i:=j) (by omega);rw[Qbn (by omega)] at this;rw[J1];exact Qw this
 have pw:=Jq.mp nd;rcases YV i j with h | h | h
 ·exact absurd (ei.trans (e.trans ej.symm)) (pw i j hi' hj' h)
 ·exact h
 ·exact absurd (ej.trans (e.symm.trans ei.symm)) (pw j i hj' hi' h)
def kk(K:Nat->Int)(p:Array Nat)(i:Nat):Int:=K (at_ p i)
def Adj(K:Nat->Int)(p:Array Nat)(m:Nat):Prop:=∀i,i+1<m->kk K p i<=kk K p (i+1)
def Dsc(K:Nat->Int)(p:Array Nat)(m:Nat):Prop:=∀i,i+1<m->kk K p (i+1)<kk K p i
theorem Adj.le{p:Array Nat}{m:Nat}(h:Adj K p m){i:Nat}:∀{j:Nat},i<=j->j<m->kk K p i<=kk K p j
 |0,hij,_=>by cases Nat.le_zero.mp hij;exact Int.le_refl _
 |j+1,hij,hj=>by
  by_cases e:i=j+1
  ·rw[e];exact Int.le_refl _
  ·exact Qbv (h.le (i:=i) (j:=j) (by omega) (by omega)) (h j hj)
theorem Qot{p:Array Nat}(g:Good n p)(i j:Nat):Good n (kas_rev p i j):=⟨(Zn.mp (mirror_perm p i j _)).trans g.perm⟩
theorem Qp6{p:Array Nat}{m k:Nat}(hm:m<=p.size)(hk:k<m):at_ (kas_rev p 0 m) k=at_ p (m - 1 - k):=by
 refine QpC ?_
 have:=Qua (xs:=p) (i:=0) (j:=m) hm k;rw[if_pos ⟨Qq _,hk⟩,JM] at this;exact this
theorem Qsr{p:Array Nat}{m:Nat}(hm:m<=p.size)(d:Dsc K p m):Adj K (kas_rev p 0 m) m:=by
 intro i hi;unfold kk;rw[Qp6 hm (by omega),Qp6 hm hi];have:=d (m - 1 - (i+1)) (by omega);have e:m - 1 - (i+1)+1=m - 1 - i:=by omega
 rw[e] at this;exact Int.le_of_lt this
theorem Qlu{p:Array Nat}(g:Good n p)(h0:0<n):∀(f a:Nat),1<=a->Adj K p a ->
  sp n (cK K) (kas_asc p f a) (λm=>a<=m/\m<=a+f/\Adj K p m/\(m=a+f∨kk K p m<kk K p (m - 1)))
 |0,a,_,h=>⟨Qg _,Qg _,h,.inl rfl⟩
 |f+1,a,ha,h=>by
  refine⟨g.lt h0 a,g.lt h0 (a - 1),?_⟩;show sp n (cK K) (if decide (kk K p a<kk K p (a - 1))=true then .ret a else kas_asc p f (a+1)) _;by_cases e:kk K p a<kk K p (a - 1)
  ·rw[decide_eq_true e,if_pos rfl];exact⟨Qg _,Qt0 _ _,h,.inr e⟩
  ·rw[decide_eq_false e,if_neg (by simp)];refine QaM ?_ (Qlu g h0 f (a+1) (by omega) ?_)
   ·rintro m ⟨h1,h2,h3,h4⟩;exact⟨by omega,by omega,h3,h4.imp (λq=>by omega) id⟩
   ·intro i hi;by_cases q:i+1<a
    ·exact h i q
    ·have e1:i=a - 1:=by omega
     have e2:i+1=a:=by omega
     rw[e2,e1];exact Int.not_lt.mp e
theorem QvQ(inj:∀i j,i<n->j<n->K i=K j->i=j){p:Array Nat}(g:Good n p){i j:Nat}(hi:i<n)(hj:j<n)(h:i≠j):kk K p i≠kk K p j:=
 λe=>h (g.inj hi hj (inj _ _ (g.lt (by omega) i) (g.lt (by omega) j) e))
theorem Qlt(inj:∀i j,i<n->j<n->K i=K j->i=j){p:Array Nat}(g:Good n p)(h0:0<n):∀(f a:Nat),1<=a->a+f<=n->Dsc K p a ->
  sp n (cK K) (kas_desc f p a 0) (λr=>r.1=p/\r.2.2=0/\a<=r.2.1/\r.2.1<=a+f/\Dsc K p r.2.1)
 |0,a,_,_,h=>⟨rfl,rfl,Qg _,Qg _,h⟩
 |f+1,a,ha,haf,h=>by
  refine⟨g.lt h0 a,g.lt h0 (a - 1),?_⟩;show sp n (cK K) (if decide (kk K p a<kk K p (a - 1))=true then(if 0 > 0 then kas_desc f (kas_rev p (a - (0+1)) a) (a+1) 0 else kas_desc f p (a+1) 0) else _) _;by_cases e:kk K p a<kk K p (a - 1)
  ·rw[decide_eq_true e,if_pos rfl,if_neg (by omega)];refine QaM ?_ (Qlt inj g h0 f (a+1) (by omega) (by omega) ?_)
   ·rintro r ⟨h1,h2,h3,h4,h5⟩;exact⟨h1,h2,by omega,by omega,h5⟩
   ·intro i hi;by_cases q:i+1<a
    ·exact h i q
    ·have e1:i=a - 1:=by omega
     have e2:i+1=a:=by omega
     rw[e2,e1];exact e
  ·rw[decide_eq_false e,if_neg (by simp)];refine⟨g.lt h0 (a - 1),g.lt h0 a,?_⟩;show sp n (cK K) (if decide (kk K p (a - 1)<kk K p a)=true then .ret (p,a,0) else _) _;have ne:=QvQ (K:=K) inj g (i:=a - 1) (j:=a) (by omega) (by omega) (by omega);rw[decide_eq_true (by omega),if_pos rfl];exact⟨rfl,rfl,Qg _,Qt0 _ _,h⟩
def Run(K:Nat->Int)(n:Nat)(r:Nat×Array Nat):Prop:=Good n r.2/\1<=r.1/\r.1<=n/\Adj K r.2 r.1
theorem Qoe{p:Array Nat}(g:Good n p){m:Nat}(h1:1<=m)(hm:m<=n)(d:Dsc K p m):sp n (cK K) (kas_tail3 m n p) (Run K n):=by
 refine Qdt ?_
 have hs:=g.size;have g':=Qot g 0 m;refine QaM ?_ (Qlu g' (by omega) (n - m) m h1 (Qsr (by omega) d))
 rintro k ⟨a,b,c,_⟩;exact⟨g',by omega,by omega,c⟩
theorem Qix(inj:∀i j,i<n->j<n->K i=K j->i=j){p:Array Nat}(g:Good n p){m:Nat}(hm:m+1<=n)(d:Dsc K p (m+1)):sp n (cK K) (kas_descPart m n p) (Run K n):=by
 refine Qdt ?_
 refine QaM ?_ (Qlt inj g (by omega) (n - (m+1)) (m+1) (by omega) (by omega) d)
 rintro⟨p',k,q⟩ ⟨e1,e2,h3,h4,h5⟩;have e1:p'=p:=e1;have e2:q=0:=e2;subst e1 e2;show sp n (cK K) (if 0 > 0 then _ else kas_tail3 k n p') _;rw[if_neg (by omega)];have h3:m+1<=k:=h3;have h4:k<=m+1+(n - (m+1)):=h4;exact Qoe g (by omega) (by omega) h5
theorem Qof(inj:∀i j,i<n->j<n->K i=K j->i=j){p:Array Nat}(g:Good n p)(h0:0<n):sp n (cK K) (kas_count n p) (Run K n):=by
 refine Qdt ?_
 refine QaM ?_ (Qlu g h0 (n - 1) 1 (Qg _) (λi hi=>by omega))
 rintro m ⟨h1,h2,h3,h4⟩;show sp n (cK K) (if(m == n)=true then .ret (m,p) else if m > 1 then _ else kas_descPart m n p) _;by_cases e:m=n
 ·rw[if_pos (beq_iff_eq.mpr e)];exact⟨g,h1,by omega,h3⟩
 ·rw[if_neg (λq=>e (beq_iff_eq.mp q))];by_cases e2:m > 1
  ·rw[if_pos e2];refine⟨g.lt h0 0,g.lt h0 (m - 1),?_⟩;show sp n (cK K) (if decide (kk K p 0<kk K p (m - 1))=true then .ret (m,p) else _) _;have le:=h3.le (i:=0) (j:=m - 1) (by omega) (by omega);have ne:=QvQ (K:=K) inj g (i:=0) (j:=m - 1) (by omega) (by omega) (by omega);rw[decide_eq_true (by omega),if_pos rfl];exact⟨g,h1,by omega,h3⟩
  ·rw[if_neg e2];have em:m=1:=by omega
   subst em;refine Qix inj g (by omega) λi hi=>?_
   have ei:i=0:=by omega
   subst ei;rcases h4 with q | q
   ·omega
   ·exact q
theorem Qf2{p:Array Nat}(g:Good n p)(h0:0<n){k:Nat}(A:Adj K p k):∀(f l r:Nat),l<=r->r<=k->r - l<=f->(∀i,i<l->kk K p i<=kk K p k)->(∀i,r<=i->i<k->kk K p k<kk K p i) ->
  sp n (cK K) (kas_place p k f l r) (λm=>m<=k/\(∀i,i<m->kk K p i<=kk K p k)/\∀i,m<=i->i<k->kk K p k<kk K p i)
 |0,l,r,h1,h2,h3,a,b=>⟨by omega,a,λi hi hk=>b i (by omega) hk⟩
 |f+1,l,r,h1,h2,h3,a,b=>by
  show sp n (cK K) (if l≥r then .ret l else _) _;by_cases e:l≥r
  ·rw[if_pos e];exact⟨by omega,a,λi hi hk=>b i (by omega) hk⟩
  ·rw[if_neg e];refine⟨g.lt h0 k,g.lt h0 ((l+r) / 2),?_⟩;show sp n (cK K) (if decide (kk K p k<kk K p ((l+r) / 2))=true then kas_place p k f l ((l+r) / 2) else kas_place p k f ((l+r) / 2+1) r) _;by_cases q:kk K p k<kk K p ((l+r) / 2)
   ·rw[decide_eq_true q,if_pos rfl];refine Qf2 g h0 A f l ((l+r) / 2) (by omega) (by omega) (by omega) a λi hi hk=>?_
    exact Int.lt_of_lt_of_le q (A.le hi hk)
   ·rw[decide_eq_false q,if_neg (by simp)];refine Qf2 g h0 A f ((l+r) / 2+1) r (by omega) h2 (by omega) (λi hi=>?_) b;exact Qbv (A.le (i:=i) (j:=(l+r) / 2) (by omega) (by omega)) (Int.not_lt.mp q)
theorem Qp1(h0:0<n):∀(f k:Nat){p:Array Nat},Good n p->k+f<=n->Adj K p k->sp n (cK K) (kas_bin f p k) (λp'=>Good n p'/\Adj K p' (k+f))
 |0,k,p,g,_,A=>⟨g,A⟩
 |f+1,k,p,g,hk,A=>by
  refine Qdt ?_
  refine QaM ?_ (Qf2 g h0 A k 0 k (Qq _) (Qg _) (by omega) (λi hi=>by omega) (λi hi hk=>by omega))
  rintro l ⟨hl,lo,hi⟩;have hs:=g.size;have bb:∀j,at_ (bubble p k (k - l)) j=if j=l then at_ p k else if l<j/\j<=k then at_ p (j - 1) else at_ p j:=by
   intro j;have:=getElem?_bubble (xs:=p) (src:=k) (by omega) (k - l) (by omega) j
   have e:k - (k - l)=l:=by omega
   rw[e] at this;split
   ·rename_i q;rw[if_pos q] at this;exact QpC this
   ·rename_i q
    rw[if_neg q] at this;split
    ·rename_i q2;rw[if_pos q2] at this;exact QpC this
    ·rename_i q2;rw[if_neg q2] at this;exact QpC this
  refine QaM ?_ (Qp1 h0 f (k+1) (p:=bubble p k (k - l)) ⟨(Zn.mp (bubble_perm p k (k - l))).trans g.perm⟩ (by omega) ?_)
  ·rintro p' ⟨a,b⟩;exact⟨a,by rw[show k+(f+1)=k+1+f by omega];exact b⟩
  ·intro i hik;unfold kk;rw[bb,bb];by_cases c1:i+1<l
   ·rw[if_neg (by omega),if_neg (by omega),if_neg (by omega),if_neg (by omega)];exact A i (by omega)
   ·by_cases c2:i+1=l
    ·rw[if_neg (by omega),if_neg (by omega),if_pos c2];exact lo i (by omega)
    ·by_cases c3:i=l
     ·rw[if_pos c3,if_neg (by omega),if_pos ⟨by omega,by omega⟩];exact Int.le_of_lt (hi (i+1 - 1) (by omega) (by omega))
     ·rw[if_neg c3,if_pos ⟨by omega,by omega⟩,if_neg (by omega),if_pos ⟨by omega,by omega⟩];have:=A (i - 1) (by omega);rw[show i - 1+1=i+1 - 1 by omega] at this;exact this
theorem Qsg(inj:∀i j,i<n->j<n->K i=K j->i=j)(h0:0<n):sp n (cK K) (kas_sort n) (λp=>Good n p/\Adj K p n):=by
 have g:Good n (ZX (Qm n)):=⟨ZT _⟩;refine Qdt ?_
 refine QaM ?_ (Qof inj g h0)
 rintro⟨m,p⟩ ⟨g',h1,h2,A⟩;show sp n (cK K) (if m<n then kas_bin (n - max m 1) p (max m 1) else .ret p) _;have e:max m 1=m:=by have:1<=m:=h1;omega
 rw[e];by_cases q:m<n
 ·rw[if_pos q];refine QaM ?_ (Qp1 h0 (n - m) m g' (by omega) A)
  rintro p' ⟨a,b⟩;exact⟨a,by rw[show m+(n - m)=n by omega] at b;exact b⟩
 ·rw[if_neg q];have h2:m<=n:=h2;have e2:m=n:=by omega
  subst e2;exact⟨g',A⟩
end
end Rs
namespace Rs
open PySem.W PySem.Calls
section
variable{prog:QB}{w:Q8}{A:Q2}{E:Value->Shared->Prop}{s:Shared}
def Kept(a:Addr)(h h':Heap):Prop:=∀b x,b≠a->h.get? b=some x->h'.get? b=some x
theorem Qb8{h:Heap}{a:Addr}(f:Obj->Obj):Kept a h (h.update a f):=λb x hb e=>(Heap.get?_update_ne _ _ _ _ hb).trans e
theorem Qc2{h:Heap}{a:Addr}(o:Obj):Kept a h (h.push o):=λb x _ e=>Qc _ e
theorem Kept.trans{a:Addr}{h h1 h2:Heap}(k:Kept a h h1)(k':Kept a h1 h2):Kept a h h2:=λb x hb e=>k' b x hb (k b x hb e)
theorem QlK(vs:List Value):(Qm vs.length).map (λi=>vs.getD i JD)=vs:=by
 apply YQ
 intro i;rw[Qy];by_cases h:i<vs.length
 ·rw[Zd h,Qd h];show some (vs.getD i JD)=_;rw[Ql,Qd h];rfl
 ·rw[Zf (by simpa using h),Zf (by omega)];rfl
theorem QnT{a:Addr}{vs:List Value}{n:Nat}{P:PySem.Fin->Shared->Prop}(ho:s.heap.get? a=some (seqObj "list" vs.toArray n))(h64:vs.length<64)(K:Nat->Int)(κ:Z2)
  (inj:∀i j,i<vs.length->j<vs.length->K i=K j->i=j)
  (hkind:2<=vs.length->∀h':Heap,Kept a s.heap h'->∀(Q':Z2->Shared->Prop)(E':Value->Shared->Prop),Q' κ { s with heap:=h' }->wpAny (model prog w) A (keyKind' vs.toArray) Q' E' { s with heap:=h' })
  (hcmp:∀h':Heap,Kept a s.heap h'->∀(i j:Nat)(C:Bool->Shared->Prop),i<vs.length->j<vs.length->C (decide (K i<K j)) { s with heap:=h' }->wpAny (model prog w) A (keyLt' κ (vs.getD i JD) (vs.getD j JD)) C (λ_ _=>False) { s with heap:=h' })
  (h:∀p:Array Nat,Good vs.length p->Adj K p vs.length->∀(h':Heap)(e:Nat),Kept a s.heap h'->h'.get? a=some (seqObj "list" (ZX (p.toList.map λi=>vs.getD i JD)) e)->P (.done (.ret .none)) { s with heap:=h' }) :
  wpAny (model prog w) A (Y4.«list.sort» ⟨[.ref a],[]⟩) P E s:=by
 have ha:a<s.heap.objs.size:=Qo ho;obtain⟨e1,ho1⟩:∃e1,(s.heap.update a (JU λ_=>(#[]:Array Value))).get? a=some (seqObj "list" #[] e1):=⟨_,QbA ho λ_=>#[]⟩
 have K3:Kept a s.heap (((s.heap.update a (JU λ_=>(#[]:Array Value))).push (seqObj "tuple" vs.toArray 0)).push (seqObj "list" #[] 0)):=(Qb8 _).trans ((Qc2 _).trans (Qc2 _));have ho6:(((s.heap.update a (JU λ_=>(#[]:Array Value))).push (seqObj "tuple" vs.toArray 0)).push (seqObj "list" #[] 0)).get? a=some (seqObj "list" #[] e1):=Qc _ (Qc _ ho1);rw[list_sort_plain];refine wpAny_bind (QrS ho rfl ?_);refine wpAny_bind (Qbl ho rfl ?_ (by rw[Qp,Ya];omega) (Qq _));refine wpAny_bind (QcN ho1 rfl ?_);refine wpAny_bind (Qk7 ?_ (by show vs.length<=_;rw[Ya];omega));refine wpAny_bind (QfO ?_ (Qq _));refine JV ?_
 show wpAny (model prog w) A _ P E { s with heap:=((s.heap.update a (JU λ_=>(#[]:Array Value))).push (seqObj "tuple" vs.toArray 0)).push (seqObj "list" #[] 0) }
 dsimp only
 generalize (((s.heap.update a (JU λ_=>(#[]:Array Value))).push (seqObj "tuple" vs.toArray 0)).push (seqObj "list" #[] 0))=h3 at K3 ho6 ⊢;have fin:∀p:Array Nat,Good vs.length p->Adj K p vs.length->∀st':JP,(arrOf st').map (·.2)=ZX (p.toList.map λi=>vs.getD i JD)->failedOf st'=none ->
   ∃e2,(h3.update a (JU λ_=>ZX (p.toList.map λi=>vs.getD i JD))).get? a=some (seqObj "list" (ZX (p.toList.map λi=>vs.getD i JD)) e2):=λp _ _ _ _ _=>⟨_,QbA ho6 λ_=>_⟩
 by_cases h2:vs.toArray.size<2
 ·rw[if_pos h2,if_pos h2];refine wpAny_bind (wpAny_pure ?_);rw[QpI];refine wpAny_bind (wpAny_pure ?_)
  dsimp only
  have gg:Good vs.length (ZX (Qm vs.length)):=⟨ZT _⟩;have aa:Adj K (ZX (Qm vs.length)) vs.length:=λi hi=>by rw[Qp] at h2;omega
  have out:(arrOf (QnJ general' (vs.toArray.zip vs.toArray) #[] 7 none)).map (·.2)=ZX ((ZX (Qm vs.length)).toList.map λi=>vs.getD i JD):=by
   show(vs.toArray.zip vs.toArray).map (·.2)=_;rw[ZN,QlK];apply Qb7.mp
   rw[QpS,QpR];show(vs.zip vs).map (·.2)=vs;exact Qr1 (Qg _)
  obtain⟨e2,he2⟩:=fin _ gg aa _ out rfl;rw[out];refine wpAny_bind (QcN ho6 rfl ?_);refine wpAny_bind (Qbl ho6 rfl ?_ (Qq _) (by rw[Qp,Qf,ZN,QF,Ya];omega));simp only[bne_self_eq_false,ZB,if_false];exact wpAny_pure (h _ gg aa _ e2 (K3.trans (Qb8 _)) he2)
 ·rw[if_neg h2,if_neg h2];have h2':2<=vs.length:=by rw[Qp] at h2;omega
  refine wpAny_bind (hkind h2' h3 K3 _ _ ?_);refine wpAny_bind (wpAny_mono (kat_run (Q:=λst' s'=>∃p:Array Nat,Good vs.length p/\Adj K p vs.length/\arrOf st'=p.map (kas_item (vs.toArray.zip vs.toArray))/\failedOf st'=none/\s'={ s with heap:=h3 })
   (G:=λp s'=>Good vs.length p/\Adj K p vs.length/\s'={ s with heap:=h3 }) rfl h2' h64 (λp' st' s' a1 a2 a3 a4=>⟨p',a4.1,a4.2.1,a2,a3,a4.2.2⟩)
   (Qjq (c:=cK K) (λi j C hi hj hC=>hcmp h3 K3 i j C hi hj hC) (QaM (λp q=>⟨q.1,q.2,rfl⟩) (Qsg inj (by omega))))) ?_ λ_ _ e=>e)
  rintro⟨⟨⟩,st'⟩ s' ⟨p,gg,aa,har,hf,rfl⟩
  dsimp only
  have out:=kat_snds (ks:=vs) rfl har;obtain⟨e2,he2⟩:=fin p gg aa st' out hf;rw[out];refine wpAny_bind (QcN ho6 rfl ?_);refine wpAny_bind (Qbl ho6 rfl ?_ (Qq _) (by rw[Qp,Qf,Qe,gg.size,Ya];omega));rw[hf];simp only[bne_self_eq_false,ZB,if_false];exact wpAny_pure (h p gg aa _ e2 (K3.trans (Qb8 _)) he2)
theorem QdR{Q:Value->Shared->Prop}{l:Addr}{T:String}{o:Obj}{vs:List Value}{n:Nat}(hT:T = "list" ∨ T = "tuple")(ho:s.heap.get? l=some o)(hc:o.cls=.type T)(hd:o.data=.seq vs.toArray n)(h64:vs.length<64)
  (h:∀h':Heap,(∀b x,s.heap.get? b=some x->h'.get? b=some x)->∀(P:PySem.Fin->Shared->Prop)(E':Value->Shared->Prop),(∀s2,Q (.ref h'.objs.size) s2->P (.done (.ret .none)) s2) ->
   wpAny (model prog w) A.in1.in1 (Y4.«list.sort» ⟨[.ref h'.objs.size],[]⟩) P E' { s with heap:=h'.push (seqObj "list" vs.toArray 0) }) :
  wpAny (model prog w) A (call (.builtin "sorted") [.ref l]) Q E s:=by
 refine Qg3 kind_sorted plain_sorted entry_sorted (args_sorted1 _) ?_
 unfold Y4.«sorted»;refine wpAny_bind (m:=checkCount "sorted" 1 1 _) (wpAny_pure ?_);refine wpAny_bind (wpAny_collect_seq (items:=vs.toArray) l hT ho hc hd (λh' kp=>?_) (by rw[Qp,Ya];omega));refine wpAny_bind (QfO ?_ (by rw[ZN,Ya];omega));have hoL:(h'.push (seqObj "list" vs.toArray 0)).get? h'.objs.size=some (seqObj "list" vs.toArray 0):=Qu _ rfl;show wpAny _ _ _ _ _ { s with heap:=h'.push (seqObj "list" vs.toArray 0) };refine wpAny_bind (JV (JO slot_list_sort ⟨_,hoL,rfl⟩ entry_list_sort ?body (args_list_sort _)));exact h h' kp _ _ λs2 hq=>⟨_,rfl,wpAny_pure ⟨_,rfl,hq⟩⟩
end
structure PairV (h:Heap) (v:Value) (ij:Int×Int):Prop where
 it:∃(a:Addr)(o:Obj)(n:Nat)(t u:Tok),v=.ref a/\h.get? a=some o/\o.cls=.type "tuple" /\ o.data=.seq #[.int ij.1 t,.int ij.2 u] n
theorem PairV.keep{h h':Heap}{v:Value}{ij:Int×Int}(q:PairV h v ij)(k:∀b x,h.get? b=some x->h'.get? b=some x):PairV h' v ij:=by
 obtain⟨a,o,n,t,u,e,g,c,d⟩:=q.it;exact⟨a,o,n,t,u,e,k _ _ g,c,d⟩
inductive PairsV (h:Heap):List Value->List (Int×Int)->Prop
 |nil:PairsV h [] []
 |cons {v:Value} {vs:List Value} {ij:Int×Int} {L:List (Int×Int)}:PairV h v ij->PairsV h vs L->PairsV h (v::vs) (ij::L)
theorem PairsV.keep{h h':Heap}(k:∀b x,h.get? b=some x->h'.get? b=some x):∀{vs:List Value}{L:List (Int×Int)},PairsV h vs L->PairsV h' vs L
 |_,_,.nil=>.nil
 |_,_,.cons q r=>.cons (q.keep k) (r.keep k)
theorem PairsV.len{h:Heap}:∀{vs:List Value}{L:List (Int×Int)},PairsV h vs L->vs.length=L.length
 |_,_,.nil=>rfl
 |_,_,.cons _ r=>by rw[Qr,Qr,r.len]
theorem PairsV.at_{h:Heap}:∀{vs:List Value}{L:List (Int×Int)},PairsV h vs L->∀i,i<vs.length->PairV h (vs.getD i JD) (L.getD i (0,0))
 |_,_,.nil,i,hi=>by simp at hi
 |_,_,.cons q r,0,hi=>q
 |_,_,.cons q r,i+1,hi=>by
  have:=r.at_ i (by simpa using hi)
  simpa using this
section
variable{prog:QB}{w:Q8}{A:Q2}{E:Value->Shared->Prop}{s:Shared}
end
end Rs
namespace L2
open _root_.Rd _root_.Rk _root_.Rs
theorem boot_sorted:bootBuiltins "sorted" = some (.builtin "sorted"):=by decide +kernel
section
variable{X:Cx}
theorem Qgr:∀{ns:List Int}{vs:List Value},Vals (ns.map V.int) vs->IntsAre vs ns
 |[],_,.nil=>.nil
 |i::ns,_,.cons ⟨t,e⟩ r=>by subst e;exact .cons _ _ (Qgr r)
theorem QgI:∀{ns:List Int}{vs:List Value},IntsAre vs ns->Vals (ns.map V.int) vs
 |_,_,.nil=>.nil
 |_,_,.cons n t r=>.cons ⟨t,rfl⟩ (QgI r)
def Qp7(K:PySem.W.Frag):List V->Hp->VK->Prop:=λxs H Q=>∃l ns,xs=[.ref l]/\SqT K H l ((ns:List Int).map V.int)/\ns.length<64 /\
 ∀t ms H2,Same H H2->H t=none->H2 t=some (.lst ((ms:List Int).map V.int))->ms.Perm ns->ms.Pairwise (·<=·)->Q (.ref t) H2
theorem QkU:CallR X (.builtin "sorted") (Qp7 X.K):=by
 intro pins s σ H xs us Q I r h;obtain⟨l,ns,rfl,hl,h64,q⟩:=h;obtain⟨u,rfl,ru⟩:=vals1 r;cases ru;obtain⟨its,rv,tp,hz⟩:=I.tuple hl;obtain⟨o,ho,hc,n,hd⟩:=tp;have li:=rv.length;rw[Qf] at li;refine QdR (.inr rfl) ho hc hd (by omega) λh' kp P E' hP=>?_
 have hn:(h'.push (seqObj "list" its.toArray 0)).get? h'.objs.size=some (seqObj "list" its.toArray 0):=Qu _ rfl;refine list_sort_tree (s:={ s with heap:=h'.push (seqObj "list" its.toArray 0) }) hn (Qgr rv) (by omega) λout ns' ia pm pw=>hP _ ?_
 have I1:Inv X pins σ H { s with heap:=h' }:=I.kept (t':=s.toks) kp;have hf:H h'.objs.size=none:=I1.hok.fresh (Qg _);obtain⟨e,he⟩:∃e,(sortedHeap (h'.push (seqObj "list" its.toArray 0)) h'.objs.size its out).get? h'.objs.size=some (seqObj "list" out e):=sortedHeap_at hn
 have rv':=QgI ia;have lp:=pm.length_eq;have I2:Inv X pins σ (upd H h'.objs.size (.lst (ns'.map V.int))) { s with heap:=sortedHeap (h'.push (seqObj "list" its.toArray 0)) h'.objs.size its out }:=
  I1.laid (t':=s.toks) (λb x e'=>(sortedHeap_old (QC (Qo e')) (QN (Qo e') (by rw[size_push'];exact Qn1 _))).trans (Qc _ e')) (Qg _) (show ObjOk X.prog X.w _ _ _ (.lst _) from⟨by rw[Qf];exact Zz (Rk.QaN (by omega)),out.toList,e,rv',by rw[he]⟩)
 exact⟨.ref h'.objs.size,_,I2,rfl,q _ ns' _ (Jy hf) hf Jp pm pw⟩
end
end L2
namespace Re
open AutoSeq1 (wpAny_loadPart')
theorem QrD{prog:QB}{w:Q8}{A:Q2}{it t:Addr}{items:Array Value}(hh:A.handled=none)(hti:t≠it) :
  Draws prog w A it [it,t] items.size (λi x=>items[i]? = some x) (λi h=>h.IsTupleIter it t i/\h.IsTuple t items) where
 live:=λi h st=>by
  obtain⟨⟨o,ho,_⟩,_⟩:=st;exact⟨o,ho⟩
 frame:=λi h h' st k=>by
  obtain⟨⟨o,ho,c⟩,⟨o2,h2,c2⟩⟩:=st;exact⟨⟨o,k it (by simp) _ ho,c⟩,⟨o2,k t (by simp) _ h2,c2⟩⟩
 item:=λi s Q E hi st hQ=>by
  refine Rz.Qei st.1 st.2 (x:=items[i]) (by simp[hi]) λh' hit' hs'=>?_
  refine hQ _ h' s.toks (by simp[hi]) ⟨hit',?_⟩ hs';obtain⟨o2,h2,c2⟩:=st.2;exact⟨o2,(hs'.2 t hti).trans h2,c2⟩
 done:=λs Q E st hE=>Rz.QiW hh st.1 st.2 (by simp) hE
theorem QkK(l:Addr)(items:Array Value)(n:Nat)(dct:Option Addr)(sl:Array (Option Value)) :
  Meets (Y4.«enumerate.__new__» ⟨[.type "enumerate",.ref l],[]⟩) (λ_ R s=>s.heap.get? l=some { cls:=.type "tuple",dict:=dct,data:=.seq items n,slots:=sl } /\
   R (.ok (.ret (.ref (s.heap.push { cls:=.type "tuple_iterator",data:=.fields #[.ref l,.int 0 0] }).objs.size)))
    { s with heap:=(s.heap.push { cls:=.type "tuple_iterator",data:=.fields #[.ref l,.int 0 0] }).push { cls:=.type "enumerate",data:=.fields #[.none,.bool false,.ref s.heap.objs.size,rawInt 0,.none,.none] } }):=
 .of_wp λprog w A R s h=>by
  obtain⟨hp,g,d,tk,os⟩:=s;obtain⟨hl,h⟩:=h;have hsub:=sub_enumerate;have hL:Qk3 (QkY ⟨hp,g,d,tk,os⟩) l items:=⟨_,hl,rfl,n,rfl⟩
  wp_walk using QaC hl
  refine wpAny_stack_any λst=>wpAny_pure ?_
  split
  ·rename_i c _ _ _ _ _
   cases(c == ZV "enumerate")
   ·wp_walk using QaC hl,YL hL
    exact⟨_,rfl,h⟩
   ·wp_walk using QaC hl,YL hL
    exact⟨_,rfl,h⟩
  ·wp_walk using QaC hl,YL hL
   exact⟨_,rfl,h⟩
theorem QkV{prog:QB}{w:Q8}{A:Q2}{E:Value->Shared->Prop}{s:Shared}{l:Addr}{items:Array Value}{Q:Value->Shared->Prop}(hL:s.heap.IsTuple l items)
  (h:∀h',IsEnum h' (s.heap.objs.size+1) s.heap.objs.size 0 .none->h'.IsTupleIter s.heap.objs.size l 0->(∀b o,s.heap.get? b=some o->h'.get? b=some o)->Q (.ref (s.heap.objs.size+1)) { s with heap:=h' }) :
  wpAny (model prog w) A (call (.type "enumerate") [.ref l]) Q E s:=by
 obtain⟨⟨c,dct,dt,sl⟩,hl,hc,n,hd⟩:=hL
 replace hc:c=.type "tuple" := hc
 replace hd:dt=.seq items n:=hd
 subst hc hd;refine callType_new F.called_enumerate (by decide) (F.typeCall_enumerate_1 _) (F.newCall_enumerate_1 _) (λobj=>F.args_object_init_2 obj _) F.entry_enumerate_new (QkK l items n dct sl) ⟨hl,?_⟩;have hz:(s.heap.push { cls:=.type "tuple_iterator",data:=.fields #[.ref l,.int 0 0] }).objs.size=s.heap.objs.size+1:=JH ..;show _/\_;rw[hz];have he:=Qu (s.heap.push { cls:=.type "tuple_iterator",data:=.fields #[.ref l,.int 0 0] }) (o:={ cls:=.type "enumerate",data:=.fields #[.none,.bool false,.ref s.heap.objs.size,rawInt 0,.none,.none] }) rfl;rw[hz] at he;exact⟨⟨_,he,rfl⟩,h _ he ⟨_,Qc _ (Qu _ rfl),rfl,rfl⟩ λb o x=>Qc _ (Qc _ x)⟩
end Re
namespace L2
def Iet(l:Addr):It:=
 ⟨λi H=>∃xs x,H l=some (.tup xs)/\xs[i]? = some x,
  λi H v H'=>∃p x,H p=none/\(∀xs,H l=some (.tup xs)->xs[i]? = some x)/\v=.ref p/\H'=upd H p (.tup [.int (i:Nat),x]),
  λi H=>∃xs,H l=some (.tup xs)/\xs.length=i⟩
theorem Qkr{P:QB}{w:Q8}{K:PySem.W.Frag}{elts:List QZ}{x1}{tpos:Pos}{e it l:Addr}(hne:e≠it) :
  Turn P w K (.Tuple elts x1 tpos) (Iet l) [e,it] e (λi h=>(∃old,IsEnum h e it (i:Nat) old)/\h.IsTupleIter it l i) where
 mem:=by simp
 obj:=λi h st b hb=>by
  obtain⟨⟨old,a1⟩,⟨o2,a2,_,d2⟩⟩:=st;simp only[Qs,Jb,or_false] at hb;rcases hb with rfl | rfl
  ·exact⟨_,a1,λv q=>nomatch q⟩
  ·exact⟨_,a2,λv q=>by rw[d2] at q;cases q⟩
 keep:=λi h h' st k=>by
  obtain⟨⟨old,a1⟩,⟨o2,a2,c2⟩⟩:=st;exact⟨⟨old,k e (by simp) _ a1⟩,o2,k it (by simp) _ a2,c2⟩
 item:=by
  intro X hP hw hK hc i pins s σ H E I hf st hg;subst hP hw hK;obtain⟨xs,x,h1,hx⟩:=hg;obtain⟨⟨old,a1⟩,a2⟩:=st;obtain⟨its,r1,p1,_⟩:=I.tuple (SqT.of h1);obtain⟨u,hu,ru⟩:=r1.get hx;have nel:e≠l:=λz=>by have q:=(hf e (by simp)).1;rw[z,h1] at q;cases q
  have nil:l≠it:=λz=>by have q:=(hf it (by simp)).1;rw[<- z,h1] at q;cases q
  have hi:i<its.toArray.size:=by
   have:=(QQ.mp hu).1
   simpa using this
  refine wpAny_pyNext_enum_itemD (Re.QrD (A:=X.A.in1) (t:=l) (I.ok.hd hc) nil) a1 ⟨a2,p1⟩ hi hne (by simp[hne,nel]) λy h' tk hy o' l' tp sz kp=>?_
  have ey:y=u:=by
   have e1:its.toArray[i]? = some u:=by simpa using hu
   rw[e1] at hy;exact(Qw hy).symm
  subst ey;obtain⟨l',tq⟩:=l';have fr:H s.heap.objs.size=none:=I.hok.fresh (Qg _);have n1:e≠s.heap.objs.size:=QC (Qo a1);have n2:it≠s.heap.objs.size:=by
   obtain⟨o2,a2,_⟩:=a2;exact QC (Qo a2)
  refine⟨_,rfl,wpAny_letOwnedTupleGo_enum o' λh2 e2 s2=>?_⟩;have I1:Inv X pins σ (upd H s.heap.objs.size (.tup [.int (i:Nat),x])) { s with heap:=h2,toks:=tk+1 }:=by
   refine I.turnedNew (ch:=[e,it]) hf (λb v hb q=>?_) (Qg _) ⟨by show 2<=sizeLine;decide,[.int (i:Nat) tk,y],.cons ⟨_,rfl⟩ (.cons ru .nil),?_⟩
   ·simp only[Qs,Jb,or_false,not_or] at hb;exact s2.extBut _ _ hb.1 (kp b v hb.1 hb.2 q)
   ·exact⟨_,s2.extBut _ _ n1.symm tp,rfl,0,rfl⟩
  refine⟨.ref s.heap.objs.size,_,I1,rfl,⟨_,x,fr,λxs' q=>?_,rfl,rfl⟩,⟨⟨y,e2⟩,?_⟩,λb hb=>?_⟩
  ·rw[h1] at q;cases q;exact hx
  ·exact l'.extBut s2.extBut hne.symm
  ·simp only[Qs,Jb,or_false] at hb;rcases hb with rfl | rfl
   ·rw[JK n1];exact(hf _ (by simp)).1
   ·rw[JK n2];exact(hf _ (by simp)).1
 done:=by
  intro X hP hw hK hc i pins s σ H E I hf st hg;subst hP hw hK;obtain⟨xs,h1,he⟩:=hg;obtain⟨⟨old,a1⟩,a2⟩:=st;obtain⟨its,r1,p1,_⟩:=I.tuple (SqT.of h1);have l1:=r1.length;have nel:e≠l:=λz=>by have q:=(hf e (by simp)).1;rw[z,h1] at q;cases q
  have nil:l≠it:=λz=>by have q:=(hf it (by simp)).1;rw[<- z,h1] at q;cases q
  have e0:its.toArray.size=i:=by rw[Qp];omega
  have D:=Re.QrD (prog:=X.prog) (w:=X.w) (A:=X.A.in1) (t:=l) (items:=its.toArray) (I.ok.hd hc) nil;rw[e0] at D;refine wpAny_pyNext_enum_endD D a1 ⟨a2,p1⟩ λh' kp=>⟨rfl,I.turnedAll (t':=s.toks) (ch:=[e,it]) hf λb v hb q=>?_⟩
  simp only[Qs,Jb,or_false,not_or] at hb;exact kp b v hb.2 q
 self:=λ_ _ _ _ _ st h=>by
  obtain⟨⟨old,a1⟩,_⟩:=st;exact QwY a1 h
def Qv2(ta:TA):TI:=λσ H R=>ta σ H λvs H1=>∃l xs,vs=[.ref l]/\H1 l=some (.tup xs)/\R (Iet l) H1
section
variable{X:Cx}
theorem QoC{a:QZ}{elts:List QZ}{x1}{tpos:Pos}{ta:TA}{p pos:Pos}(hg:Gl X "enumerate")(hm:X.mg "enumerate" = none)(ha:PA X [a] ta)(hs:starEach [a] X.env=[(false,eval a X.env)]:=by rfl) :
  PI X (.Tuple elts x1 tpos) (.Call (.Name "enumerate" p) [a] [] pos) (Qv2 ta):=by
 intro pins s σ H R I h;refine Call_ (QeJ I hg hm Qnr (ZC (thn (ha pos pins s σ H _ I h) λus s1 ⟨vs,H1,I1,r1,q1⟩=>?_) hs rfl));obtain⟨l,xs,e,h1,q⟩:=q1;subst e;obtain⟨u,rfl,ru⟩:=vals1 r1;cases(show u=QL l from ru);obtain⟨its,w1,p1,_⟩:=I1.tuple (SqT.of h1);refine Re.QkV p1 λh' e1 i1 kp=>?_
 refine QwY (s:={ s1 with heap:=h' }) e1 ?_
 refine⟨s1.heap.objs.size+1,_,_,_,H1,rfl,I1.kept (t':=s1.toks) kp,Qkr (by show ¬(s1.heap.objs.size+1=s1.heap.objs.size);omega),⟨⟨_,e1⟩,i1⟩,λb hb=>?_,q⟩;have hb':s1.heap.objs.size<=b:=by
  simp only[Qs,Jb,or_false] at hb;rcases hb with rfl | rfl<;>omega
 exact I1.fpOk hb' (I1.hok.fresh hb')
end
end L2
namespace Rk
open L2
end Rk
namespace L2
section
variable{X:Cx}{pins:List (Addr×Obj)}{σ:St}{H:Hp}
theorem Qa5{M:List Str}{scope:Yk}{fp:List Addr}{σ':St}{H3:Hp}{s3 s':Shared}{D:Addr}{i:Nat}{y:Str}{py:Pos}{Mo:Qxd}{A:Q2}{E:Value->Shared->Prop}{Q:Value->Shared->Prop}
  (I3:Inv X pins σ H3 s3)(f3:∀b∈fp,FpOk X pins H3 b)(J:Inv (blk X M scope (Qby X.env scope.names []) fp s3 H3 s3.heap.objs.size) [] σ' H s')
  (hN:X.N.Nodup)(hi:X.N[i]? = some y)(hl:X.env.scope.names.lookup y=some .local)(hq:∀s2,Inv X pins (σ.set i (some (.ref D))) H s2->Q .none s2) :
  wpAny Mo A (assign (.Name y py) X.env (.ref D)) (λ_ s2=>∃m,s2.heap.Ns s3.heap.objs.size m/\∀h',Qag s3.heap.objs.size s2.heap h'->Q .none { s2 with heap:=h' }) E s':=by
 have J0:Inv X pins σ H s':=Qnv I3 f3 J (Heap.SameBut.refl ..);obtain⟨m,hn,_⟩:=J.loc;have hC:H s3.heap.objs.size=none:=J.free;have lt:X.env.locals<s3.heap.objs.size:=I3.lt;refine QwZ (Qhc J0 hN hi (Jw hl) (show RelV (.ref D) (.ref D) from rfl) (λs2 J2 ⟨a,sb,ha⟩=>?_) (.inr hl));have ea:a=X.env.locals∨X.env.cells.lookup y=some a:=ha;have na:s3.heap.objs.size≠a:=by
  rcases ea with z | z
  ·rw[z];exact Qai lt
  ·obtain⟨v,o,ho,_⟩:=I3.cell y a z;exact Qai (Qo ho)
 refine⟨m,hn.sameBut sb na,λh' hs=>hq _ ?_⟩;refine J2.turned (t':=s2.toks) (it:=s3.heap.objs.size) (λb o hb e=>hs.extBut b o hb e) hC (Qai lt) (.inr I3.sz) (λx c e z=>?_) λp hp z=>?_
 ·obtain⟨v,o,ho,_⟩:=I3.cell x c e;exact absurd (z ▸ Qo ho) (YW _)
 ·have e:=(I3.pin p hp).1;exact absurd (z ▸ Qo e) (YW _)
end
theorem QoA{X:Cx}{M:List Str}{cap:List (Option Nat)}{elt tg iter:QZ}{ifs:List QZ}{scope:Yk}{pos:Pos}{wi:TI}{g:TG}{tc:TT}{te:TE}{i:Nat}{y:Str}{py spos:Pos}(hN:X.N.Nodup)(hiy:X.N[i]? = some y)(hly:X.env.scope.names.lookup y=some .local)(hc:X.calm=true)(ok:Qfe X.N X.env.scope M scope cap=true)
  (hi:PI X tg iter wi)(hb:∀cl ex s3 H3 C,PG (blk X M scope cl ex s3 H3 C) tg g/\PTs (blk X M scope cl ex s3 H3 C) ifs tc/\PE (blk X M scope cl ex s3 H3 C) elt te)
  (hs:∀x,foldedSetIterable iter X.env x=pure x:=by intro _;rfl)(hsw:swapsWith (.ListComp elt [⟨tg,iter,ifs,0⟩] scope pos) (some (.Name y py)) spos.line X.env=pure true:=by rfl):PS X (.Assign [.Name y py] (.ListComp elt [⟨tg,iter,ifs,0⟩] scope pos) spos) (QpZ (tComp cap wi g tc te) (QcA i)):=by
 intro pins s σ H D I h;have c:=CapOk.of ok;rw[QdZ _ _ _ _ hsw];refine wpAny_bind (wpAny_standAt (wpAny_bind ?_));show wpAny _ X.A (do let _ <- comprehension (.ListComp elt [⟨tg,iter,ifs,0⟩] scope pos) scope X.env _ (newList []) false (eval iter X.env) (some (assign (.Name y py) X.env))) _ _ s;refine wpAny_bind (wpAny_mono (Qav (use:=some (assign (.Name y py) X.env)) (Q:=λ_ s'=>SP X pins D .next s') rfl hs (QgC (I.ok.cells c)) c.kind c.loc ?_) (λ_ s' hq=>wpAny_pure (wpAny_pure hq)) λ_ _ e=>e);refine thn (hi pins s σ H _ I h) λv s1 h1=>thn h1 λitv s2 h2=>?_
 obtain⟨it,fp,tn,J,H2,e,I2,T,st2,f2,hW⟩:=h2;subst e;refine JJ (Qbh c.cell (by intro y hy;simp at hy) (λh₁ hns₁ hsb₁=>?_) c.kind);have I3:Inv X pins σ (upd H2 s2.heap.objs.size (.lst [])) { s2 with heap:=s2.heap.push { cls:=.type "list",data:=.seq ([]:List Value).toArray } }:=I2.lnew (t':=s2.toks) (ys:=[]) .nil (Qq _);have lt2:∀b∈fp,b<s2.heap.objs.size:=λb hb=>by obtain⟨o,e,_⟩:=T.obj _ _ st2 b hb;exact Qo e
 have f3:∀b∈fp,FpOk X pins (upd H2 s2.heap.objs.size (.lst [])) b:=λb hb=>(f2 b hb).upd (QC (lt2 b hb))
 generalize hs3:({ s2 with heap:=s2.heap.push { cls:=.type "list",data:=.seq ([]:List Value).toArray } }:Shared)=s3 at I3;have e3:s3.heap=s2.heap.push { cls:=.type "list",data:=.seq ([]:List Value).toArray }:=by rw[<- hs3]
 have z3:s3.heap.objs.size=s2.heap.objs.size+1:=by rw[e3,JH]
 have hk:∀b o,s3.heap.get? b=some o->h₁.get? b=some o:=λb o e=>hsb₁.extBut b o (by
  have:=Qo e;rw[e3] at this;exact QC this) (Qc _ (e3 ▸ e))
 have hn₁:h₁.Ns s3.heap.objs.size λ_=>none:=by rw[e3];exact hns₁
 have B:=Qdd (t4:=s3.toks+([]:List (Str×Value)).length) (fp:=fp) I3 c f3 (λb hb=>by rw[z3];exact ZM (lt2 b hb)) hn₁ hk;have st4:tn 0 h₁:=T.keep _ _ _ st2 λb hb o e=>hk b o (by rw[e3];exact Qc _ e)
 have fp4:∀b∈fp,FpOk (blk X M scope (Qby X.env scope.names []) fp s3 (upd H2 s2.heap.objs.size (.lst [])) s3.heap.objs.size) [] (upd H2 s2.heap.objs.size (.lst [])) b:=λb hb=>by
  refine⟨(f3 b hb).1,(B.ok.exf b hb).1,B.ok.exfs b hb,.inl hb,(B.ok.exf b hb).2,λp hp=>(nomatch hp)⟩
 obtain⟨hg,ht,he⟩:=hb (Qby X.env scope.names []) fp s3 (upd H2 s2.heap.objs.size (.lst [])) s3.heap.objs.size;have loop:codeAny (model X.prog X.w) X.A (.compLoop (.ListComp elt [⟨tg,iter,ifs,0⟩] scope pos) 0 (.ref it) (.ref s2.heap.objs.size) (compEnvC scope (Qby X.env scope.names []) s3.heap.objs.size X.env))
   (compPost (model X.prog X.w) X.A X.xe (some (assign (.Name y py) X.env)) (λ_ s'=>SP X pins D .next s') (.ref s2.heap.objs.size) s3.heap.objs.size) { s3 with heap:=h₁,toks:=s3.toks+([]:List (Str×Value)).length }:=by
  refine Qc8 (Y:=blk X M scope (Qby X.env scope.names []) fp s3 (upd H2 s2.heap.objs.size (.lst [])) s3.heap.objs.size) (gens:=[⟨tg,iter,ifs,0⟩]) (d:=0) hc T st4 fp4
   (λQ E s h=>Qjs Q E s h) (λx u r=>QeY rfl hg ht (λσ4=>QgH rfl he) x u r) B (hW _ (I2.hok.fresh (Qg _))) λs' H' I' q=>?_
  exact Qa5 (Q:=λ_ s'=>SP X pins D .next s') I3 f3 I' hN hiy hly λs2' J2=>⟨_,H',J2,q⟩
 exact Qdp loop (T.self _ 0 _ _ _ st4 loop)
theorem QlT{X:Cx}{M:List Str}{cap:List (Option Nat)}{elt tg iter tg2 iter2:QZ}{ifs ifs2:List QZ}{scope:Yk}{pos:Pos}{wi wi2:TI}{g g2:TG}{tc tc2:TT}{te:TE}{i:Nat}{y:Str}{py spos:Pos}(hN:X.N.Nodup)(hiy:X.N[i]? = some y)(hly:X.env.scope.names.lookup y=some .local)(hc:X.calm=true)(ok:Qfe X.N X.env.scope M scope cap=true)
  (hi:PI X tg iter wi)(hb:∀cl ex s3 H3 C,PG (blk X M scope cl ex s3 H3 C) tg g/\PTs (blk X M scope cl ex s3 H3 C) ifs tc/\PI (blk X M scope cl ex s3 H3 C) tg2 iter2 wi2/\PG (blk X M scope cl ex s3 H3 C) tg2 g2/\PTs (blk X M scope cl ex s3 H3 C) ifs2 tc2/\PE (blk X M scope cl ex s3 H3 C) elt te)
  (hs:∀x,foldedSetIterable iter X.env x=pure x:=by intro _;rfl)(hs2:∀env x,foldedSetIterable iter2 env x=pure x:=by intro _ _;rfl)(hsw:swapsWith (.ListComp elt [⟨tg,iter,ifs,0⟩,⟨tg2,iter2,ifs2,0⟩] scope pos) (some (.Name y py)) spos.line X.env=pure true:=by rfl):PS X (.Assign [.Name y py] (.ListComp elt [⟨tg,iter,ifs,0⟩,⟨tg2,iter2,ifs2,0⟩] scope pos) spos) (QpZ (QpY cap wi g tc wi2 g2 tc2 te) (QcA i)):=by
 intro pins s σ H D I h;have c:=CapOk.of ok;rw[QdZ _ _ _ _ hsw];refine wpAny_bind (wpAny_standAt (wpAny_bind ?_));show wpAny _ X.A (do let _ <- comprehension (.ListComp elt [⟨tg,iter,ifs,0⟩,⟨tg2,iter2,ifs2,0⟩] scope pos) scope X.env _ (newList []) false (eval iter X.env) (some (assign (.Name y py) X.env))) _ _ s;refine wpAny_bind (wpAny_mono (Qav (use:=some (assign (.Name y py) X.env)) (Q:=λ_ s'=>SP X pins D .next s') rfl hs (QgC (I.ok.cells c)) c.kind c.loc ?_) (λ_ s' hq=>wpAny_pure (wpAny_pure hq)) λ_ _ e=>e);refine thn (hi pins s σ H _ I h) λv s1 h1=>thn h1 λitv s2 h2=>?_
 obtain⟨it,fp,tn,J,H2,e,I2,T,st2,f2,hW⟩:=h2;subst e;refine JJ (Qbh c.cell (by intro y hy;simp at hy) (λh₁ hns₁ hsb₁=>?_) c.kind);have I3:Inv X pins σ (upd H2 s2.heap.objs.size (.lst [])) { s2 with heap:=s2.heap.push { cls:=.type "list",data:=.seq ([]:List Value).toArray } }:=I2.lnew (t':=s2.toks) (ys:=[]) .nil (Qq _);have lt2:∀b∈fp,b<s2.heap.objs.size:=λb hb=>by obtain⟨o,e,_⟩:=T.obj _ _ st2 b hb;exact Qo e
 have f3:∀b∈fp,FpOk X pins (upd H2 s2.heap.objs.size (.lst [])) b:=λb hb=>(f2 b hb).upd (QC (lt2 b hb))
 generalize hs3:({ s2 with heap:=s2.heap.push { cls:=.type "list",data:=.seq ([]:List Value).toArray } }:Shared)=s3 at I3;have e3:s3.heap=s2.heap.push { cls:=.type "list",data:=.seq ([]:List Value).toArray }:=by rw[<- hs3]
 have z3:s3.heap.objs.size=s2.heap.objs.size+1:=by rw[e3,JH]
 have hk:∀b o,s3.heap.get? b=some o->h₁.get? b=some o:=λb o e=>hsb₁.extBut b o (by
  have:=Qo e;rw[e3] at this;exact QC this) (Qc _ (e3 ▸ e))
 have hn₁:h₁.Ns s3.heap.objs.size λ_=>none:=by rw[e3];exact hns₁
 have B:=Qdd (t4:=s3.toks+([]:List (Str×Value)).length) (fp:=fp) I3 c f3 (λb hb=>by rw[z3];exact ZM (lt2 b hb)) hn₁ hk;have st4:tn 0 h₁:=T.keep _ _ _ st2 λb hb o e=>hk b o (by rw[e3];exact Qc _ e)
 have fp4:∀b∈fp,FpOk (blk X M scope (Qby X.env scope.names []) fp s3 (upd H2 s2.heap.objs.size (.lst [])) s3.heap.objs.size) [] (upd H2 s2.heap.objs.size (.lst [])) b:=λb hb=>by
  refine⟨(f3 b hb).1,(B.ok.exf b hb).1,B.ok.exfs b hb,.inl hb,(B.ok.exf b hb).2,λp hp=>(nomatch hp)⟩
 obtain⟨hg,ht,hi2,hg2,ht2,he⟩:=hb (Qby X.env scope.names []) fp s3 (upd H2 s2.heap.objs.size (.lst [])) s3.heap.objs.size;have loop:codeAny (model X.prog X.w) X.A (.compLoop (.ListComp elt [⟨tg,iter,ifs,0⟩,⟨tg2,iter2,ifs2,0⟩] scope pos) 0 (.ref it) (.ref s2.heap.objs.size) (compEnvC scope (Qby X.env scope.names []) s3.heap.objs.size X.env))
   (compPost (model X.prog X.w) X.A X.xe (some (assign (.Name y py) X.env)) (λ_ s'=>SP X pins D .next s') (.ref s2.heap.objs.size) s3.heap.objs.size) { s3 with heap:=h₁,toks:=s3.toks+([]:List (Str×Value)).length }:=by
  refine Qc8 (Y:=blk X M scope (Qby X.env scope.names []) fp s3 (upd H2 s2.heap.objs.size (.lst [])) s3.heap.objs.size) (gens:=[⟨tg,iter,ifs,0⟩,⟨tg2,iter2,ifs2,0⟩]) (d:=0) hc T st4 fp4
   (λQ E s h=>Qkq (hs2 _) Q E s h) (λx u r=>QeY rfl hg ht (λσ4=>Qnt rfl hc hi2 hg2 ht2 he) x u r) B (hW _ (I2.hok.fresh (Qg _))) λs' H' I' q=>?_
  exact Qa5 (Q:=λ_ s'=>SP X pins D .next s') I3 f3 I' hN hiy hly λs2' J2=>⟨_,H',J2,q⟩
 exact Qdp loop (T.self _ 0 _ _ _ st4 loop)
end L2
namespace Rk
open L2 _root_.Rd
theorem Cs.get{p:Addr}{H:Hp}:∀{ps:List V}{L:List (Int×Int)},Cs p H ps L->∀(i:Nat)(x:V),ps[i]? = some x->∃ij,L[i]? = some ij/\∃d,d≠p/\x=.ref d/\H d=some (.tup [.int ij.1,.int ij.2])
 |_,_,.nil,i,x,e=>by simp at e
 |_,_,.cons r t,0,x,e=>by simp at e;subst e;exact⟨_,rfl,r⟩
 |_,_,.cons r t,i+1,x,e=>by
  obtain⟨ij,h1,h2⟩:=Cs.get t i x (by simpa using e);exact⟨ij,by simpa using h1,h2⟩
section
variable{X:Cx}
def Qza(X:Cx):R2:=λx y H Q=>∃dx dy,Dat H x dx/\Dat H y dy/\X.A.units+min dx.depth dy.depth<cLine/\Q (.bl (!JB dx dy)) H
theorem Qvr:OpR X (compareOp .NotEq) (Qza X):=by
 intro pins s σ H x y v u Q I rx ry h;obtain⟨dx,dy,qx,qy,hu,q⟩:=h;obtain⟨⟨as,ra⟩,ca⟩:=Qas I.hok dx x v qx rx;obtain⟨⟨bs,rb⟩,cb⟩:=Qas I.hok dy y u qy ry;exact SeqAt.compareNe_reads ra rb ca cb hu ⟨.bl _,H,I,rfl,q⟩
end
theorem Cs.re{p p':Addr}{H:Hp}{zs:List V}(e:H p'=some (.lst zs)):∀{ps:List V}{L:List (Int×Int)},Cs p H ps L->Cs p' H ps L
 |_,_,.nil=>.nil
 |_,_,.cons ⟨d,_,ev,h⟩ t=>.cons ⟨d,(λz=>by rw[z,e] at h;cases h),ev,h⟩ (Cs.re e t)
theorem Cs.app{p:Addr}{H:Hp}:∀{ps qs:List V}{L M:List (Int×Int)},Cs p H ps L->Cs p H qs M->Cs p H (ps++qs) (L++M)
 |_,_,_,_,.nil,h=>h
 |_,_,_,_,.cons r t,h=>.cons r (Cs.app t h)
theorem Qd6{α:Type}(M:List α)(d:α)(P:α->Bool):(Qm M.length).filterMap (λi=>if P (M.getD i d)=true then some (M.getD i d) else none)=M.filter P:=by
 conv=>rhs;rw[<- range_getD M d]
 rw[List.filter_map,<- List.filterMap_eq_filter,Yr];refine congrArg (λg=>Qh9 g (Qm M.length)) (funext λi=>?_);show _=Option.map _ (Qud _ i);unfold Qud;by_cases q:P (M.getD i d)=true
 ·rw[if_pos q,if_pos (by simpa using q)];rfl
 ·rw[if_neg q,if_neg (by simpa using q)];rfl
end Rk
namespace Rk
open L2
def QpU:List Str:=["text", "order", "lines", "few", "size", "many", "number", "stand", "cell", "square", "hits", "counts", "stairs", "alike", "parting", "place", "double", "deed", "row"]
def Quy(K:PySem.W.Frag)(cs:List Addr):Sp:=λvs H Q _=>∃(a C:Addr)(bs:List Bool)(j:Nat)(wd:Str),vs=[.ref a]/\H a=some (Rx.exO a C)/\Rx.ExC K C/\Qam (λc b=>PySem.W.kitOne K (.ref C) (.ref c)=some b) cs bs/\PySem.W.kitOne K (.ref C) (.type "ValueError")=some true /\
 bs.countP id=1/\bs[j]? = some true/\(∀m,m<j->bs[m]? = some false)/\QpU[j]? = some wd/\∀H',Same H H'->Q (.str wd) H'
end Rk
namespace Rx
open PySem.Calls L2
section
variable{X:Cx}{E:XK}
end
section
variable{X:Cx}{tf:TE}{fe:QZ}{pos:Pos}{e:QZ}{es:List QZ}{t:TA}{M:Addr->Sp->Prop}
end
end Rx
namespace Rk
open L2 _root_.Rd
structure GlbA (mg:Str->Option Value):Prop where
 isinstance:mg "isinstance" = none
 int:mg "int" = none
 bool:mg "bool" = none
 str:mg "str" = none
 tuple:mg "tuple" = none
 list:mg "list" = none
 all:mg "all" = none
 len:mg "len" = none
 zip:mg "zip" = none
 enumerate:mg "enumerate" = none
 range:mg "range" = none
 max:mg "max" = none
 min:mg "min" = none
 sorted:mg "sorted" = none
 sum:mg "sum" = none
 set:mg "set" = none
 any:mg "any" = none
 reversed:mg "reversed" = none
 divmod:mg "divmod" = none
structure KOk (K:PySem.W.Frag) (cs:List Addr) (R C:Addr) (wd:Str):Prop where
 by_:Rx.ByC K C R
 ex:∃(bs:List Bool)(j:Nat),Rx.ExC K C/\Qam (λc b=>PySem.W.kitOne K (.ref C) (.ref c)=some b) cs bs/\PySem.W.kitOne K (.ref C) (.type "ValueError")=some true/\bs.countP id=1/\bs[j]? = some true/\(∀m,m<j->bs[m]? = some false)/\QpU[j]? = some wd
def Qyw(u:Nat)(neg:Bool):R2:=λx y H Q=>∃c ps ds d,y=.ref c/\H c=some (.tup ps)/\Dats H ps ds/\Dat H x d/\u+d.depth<cLine/\Q (.bl (if neg then !(ds.any λe=>JB e d) else ds.any λe=>JB e d)) H
end Rk
namespace Rx
open PySem.Calls L2
section
variable{P:QB}{w:Q8}{K:PySem.W.Frag}{mg:Str->Option Value}{base:Heap}
end
end Rx
namespace Rk
open L2 _root_.Rd
def FinV(is js:List Nat)(p:Addr)(σ:L2.St)(H:Hp):Prop:=(∃o,H p=some o)/\(∀i∈is,∃v,σ[i]? = some (some v)/\FineA p H v)/\∀j∈js,∃k,σ[j]? = some (some (.int k))
theorem FinV.same{is js:List Nat}{p:Addr}{σ:L2.St}{H H':Hp}(h:FinV is js p σ H)(s:Same H H'):FinV is js p σ H':=by
 obtain⟨⟨o,ho⟩,h1,h2⟩:=h;refine⟨⟨o,s _ _ ho⟩,λi hi=>?_,h2⟩;obtain⟨v,e,f⟩:=h1 i hi;exact⟨v,e,f.keep (KX.of s)⟩
section
variable{X:Cx}{is js:List Nat}
end
theorem handled{K:PySem.W.Frag}{cs:List Addr}{R C:Addr}{wd:Str}(o:KOk K cs R C wd){H1:Hp}{Q:VK}{σ:L2.St}{i:Nat}(hi:i < σ.length)(k:∀H',Same H1 H'->Q (.str wd) H') :
  Rx.ByC K C R/\∀a,H1 a=none->(Qd4 (Qfa i) QpX) (σ.set i (some (.ref a))) (upd H1 a (Rx.exO a C)) λvs H2=>Quy K cs vs H2 Q E0:=by
 refine⟨o.by_,λa ha=>?_⟩;obtain⟨bs,j,hx,pb,eV,hc,hj,hm,hw⟩:=o.ex;exact⟨_,Qaw hi,a,C,bs,j,wd,rfl,Jp,hx,pb,eV,hc,hj,hm,hw,λH2 s2=>k H2 ((Jy ha).trans s2)⟩
end Rk
namespace L2
theorem Y0{h:Heap}{a:Addr}{its:Array Value}(p:PlainL h a its):h.IsList a its:=by
 obtain⟨o,n,h1,h2,_,h3⟩:=p;exact⟨o,h1,h2,n,h3⟩
structure Qh2 (h:Heap) (z TI TO i1 i2 t1 t2:Addr) (f:Value) (k:Nat):Prop where
 zp:Qr3 h z TI TO f
 ti:IsPair h TI (.ref i1) (.ref i2)
 to:∃a b,IsPair h TO a b
 i1:h.IsListIter i1 t1 k
 i2:h.IsListIter i2 t2 k
section
variable{prog:QB}{w:Q8}{A:Q2}{E:Value->Shared->Prop}{s:Shared}
theorem Qlg{z TI TO i1 i2 t1 t2:Addr}{k:Nat}{xs ys:Array Value}{x y:Value}{Q:Option Value->Shared->Prop}(D:QwB z TI TO i1 i2 t1 t2)(Z:Qh2 s.heap z TI TO i1 i2 t1 t2 .none k)
  (hl1:s.heap.IsList t1 xs)(hl2:s.heap.IsList t2 ys)(hx:xs[k]? = some x)(hy:ys[k]? = some y)
  (hQ:∀h',Qh2 h' z TI TO i1 i2 t1 t2 (rawInt s.heap.objs.size) (k+1)->IsPair h' s.heap.objs.size x y->(∀c o,c≠z->c≠TO->c≠i1->c≠i2->s.heap.get? c=some o->h'.get? c=some o)->Q (some (.ref s.heap.objs.size)) { s with heap:=h' }) :
  wpAny (model prog w) A (pyNext (.ref z)) Q E s:=by
 obtain⟨hz,hTI,⟨a,b,hTO⟩,h1,h2⟩:=Z;exact wpAny_pyNext_zip_item D hz hTI hTO h1 h2 hl1 hl2 hx hy λh' a1 a2 a3 a4 a5 a6 a7=>hQ h' ⟨a1,a7 _ _ D.TIz D.TITO D.TIi1 D.TIi2 hTI,⟨x,y,a2⟩,a3,a4⟩ a5 a7
theorem Qn4{z TI TO i1 i2 t1 t2:Addr}{k:Nat}{xs ys:Array Value}{Q:Option Value->Shared->Prop}(hh:A.handled=none)(D:QwB z TI TO i1 i2 t1 t2)(Z:Qh2 s.heap z TI TO i1 i2 t1 t2 .none k)
  (hl1:s.heap.IsList t1 xs)(hl2:s.heap.IsList t2 ys)(hend:xs[k]? = none∨ys[k]? = none)
  (hQ:∀h',(∀c o,c≠z->c≠TO->c≠i1->c≠i2->s.heap.get? c=some o->h'.get? c=some o)->Q none { s with heap:=h' }):wpAny (model prog w) A (pyNext (.ref z)) Q E s:=by
 obtain⟨hz,hTI,⟨a,b,hTO⟩,h1,h2⟩:=Z;exact wpAny_pyNext_zip_end hh D hz hTI hTO h1 h2 hl1 hl2 hend hQ
theorem Qlh{t1 t2:Addr}{xs ys:Array Value}{Q:Value->Shared->Prop}(hl1:s.heap.IsList t1 xs)(hl2:s.heap.IsList t2 ys)
  (h:∀h',Qh2 h' (s.heap.objs.size+4) (s.heap.objs.size+2) (s.heap.objs.size+3) s.heap.objs.size (s.heap.objs.size+1) t1 t2 .none 0->(∀c o,s.heap.get? c=some o->h'.get? c=some o)->Q (.ref (s.heap.objs.size+4)) { s with heap:=h' }) :
  wpAny (model prog w) A (call (.type "zip") [.ref t1,.ref t2]) Q E s:=
 call_zip_2 hl1 hl2 λh' a1 a2 a3 a4 a5 a6 a7=>h h' ⟨a1,a2,⟨_,_,a3⟩,a4,a5⟩ a7
end
def QyY(t1 t2:Addr):It:=
 ⟨λi H=>∃xs ys x y,H t1=some (.lst xs)/\H t2=some (.lst ys)/\xs[i]? = some x/\ys[i]? = some y,
  λi H v H'=>∃p x y,H p=none/\(∀xs,H t1=some (.lst xs)->xs[i]? = some x)/\(∀ys,H t2=some (.lst ys)->ys[i]? = some y)/\v=.ref p/\H'=upd H p (.tup [x,y]),
  λi H=>∃xs ys,H t1=some (.lst xs)/\H t2=some (.lst ys)/\(xs.length<=i∨ys.length<=i)⟩
theorem Qlj{P:QB}{w:Q8}{K:PySem.W.Frag}{elts:List QZ}{x1}{tpos:Pos}{z TI TO i1 i2 t1 t2:Addr}(D:QwB z TI TO i1 i2 t1 t2) :
  Turn P w K (.Tuple elts x1 tpos) (QyY t1 t2) [z,TI,TO,i1,i2] z (λi h=>Qh2 h z TI TO i1 i2 t1 t2 .none i) where
 mem:=by simp
 obj:=λi h st b hb=>by
  obtain⟨a1,a2,⟨_,_,a3⟩,⟨o4,a4,_,d4⟩,⟨o5,a5,_,d5⟩⟩:=st;simp only[Qs,Jb,or_false] at hb;rcases hb with rfl | rfl | rfl | rfl | rfl
  ·exact⟨_,a1,λv q=>nomatch q⟩
  ·exact⟨_,a2,λv q=>nomatch q⟩
  ·exact⟨_,a3,λv q=>nomatch q⟩
  ·exact⟨_,a4,λv q=>by rw[d4] at q;cases q⟩
  ·exact⟨_,a5,λv q=>by rw[d5] at q;cases q⟩
 keep:=λi h h' st k=>by
  obtain⟨a1,a2,⟨a,b,a3⟩,a4,a5⟩:=st;exact⟨k z (by simp) _ a1,k TI (by simp) _ a2,⟨a,b,k TO (by simp) _ a3⟩,a4.at λo e=>k i1 (by simp) o e,a5.at λo e=>k i2 (by simp) o e⟩
 item:=by
  intro X hP hw hK hc i pins s σ H E I hf st hg;subst hP hw hK;obtain⟨xs,ys,x,y,h1,h2,hx,hy⟩:=hg;obtain⟨its1,r1,p1,_⟩:=I.list (SqL.of h1);obtain⟨its2,r2,p2,_⟩:=I.list (SqL.of h2);obtain⟨u1,hu1,ru1⟩:=r1.get hx;obtain⟨u2,hu2,ru2⟩:=r2.get hy;refine Qlg D st (Y0 p1) (Y0 p2) (by simpa using hu1) (by simpa using hu2) λh' st' tp kp=>?_
  have hlt:∀b∈[z,TI,TO,i1,i2],b≠s.heap.objs.size:=λb hb=>by
   obtain⟨a1,a2,⟨_,_,a3⟩,⟨o4,a4,_,d4⟩,⟨o5,a5,_,d5⟩⟩:=st;simp only[Qs,Jb,or_false] at hb;rcases hb with rfl | rfl | rfl | rfl | rfl
   ·exact QC (Qo a1)
   ·exact QC (Qo a2)
   ·exact QC (Qo a3)
   ·exact QC (Qo a4)
   ·exact QC (Qo a5)
  have fr:H s.heap.objs.size=none:=I.hok.fresh (Qg _);refine⟨_,rfl,Qk8 st'.zp λh2' z2 s2=>?_⟩;have I1:Inv X pins σ (upd H s.heap.objs.size (.tup [x,y])) { s with heap:=h2',toks:=s.toks }:=by
   refine I.turnedNew (ch:=[z,TI,TO,i1,i2]) hf (λb u hb e=>?_) (Qg _) ⟨by show 2<=sizeLine;decide,[u1,u2],.cons ru1 (.cons ru2 .nil),?_⟩
   ·simp only[Qs,Jb,or_false,not_or] at hb;exact s2.extBut _ _ hb.1 (kp b u hb.1 hb.2.2.1 hb.2.2.2.1 hb.2.2.2.2 e)
   ·exact⟨_,s2.extBut _ _ (hlt z (by simp)).symm tp,rfl,0,rfl⟩
  refine⟨.ref s.heap.objs.size,_,I1,rfl,⟨_,x,y,fr,λxs' e=>?_,λys' e=>?_,rfl,rfl⟩,?_,λb hb=>?_⟩
  ·rw[h1] at e;cases e;exact hx
  ·rw[h2] at e;cases e;exact hy
  ·obtain⟨a1,a2,⟨a,b,a3⟩,a4,a5⟩:=st';exact⟨z2,s2.extBut _ _ D.TIz a2,⟨a,b,s2.extBut _ _ D.TOz a3⟩,a4.extBut s2.extBut D.i1z,a5.extBut s2.extBut D.i2z⟩
  ·rw[JK (hlt b hb)];exact(hf b hb).1
 done:=by
  intro X hP hw hK hc i pins s σ H E I hf st hg;subst hP hw hK;obtain⟨xs,ys,h1,h2,he⟩:=hg;obtain⟨its1,r1,p1,_⟩:=I.list (SqL.of h1);obtain⟨its2,r2,p2,_⟩:=I.list (SqL.of h2);have l1:=r1.length;have l2:=r2.length;refine Qn4 (I.ok.hd hc) D st (Y0 p1) (Y0 p2) ?_ λh' kp=>⟨rfl,I.turnedAll (t':=s.toks) (ch:=[z,TI,TO,i1,i2]) hf λb u hb e=>?_⟩
  ·rcases he with q | q
   ·exact .inl (by simp;omega)
   ·exact .inr (by simp;omega)
  ·simp only[Qs,Jb,or_false,not_or] at hb;exact kp b u hb.1 hb.2.2.1 hb.2.2.2.1 hb.2.2.2.2 e
 self:=λ_ _ _ _ _ st h=>Qdf st.zp h
section
variable{X:Cx}
theorem QkW(n t1 t2:Nat)(h1:t1<n)(h2:t2<n):QwB (n+4) (n+2) (n+3) n (n+1) t1 t2 where
 TIz:=by show ¬(n+2=n+4);omega
 TOz:=by show ¬(n+3=n+4);omega
 i1z:=by show ¬(n=n+4);omega
 i2z:=by show ¬(n+1=n+4);omega
 TITO:=by show ¬(n+2=n+3);omega
 TIi1:=by show ¬(n+2=n);omega
 TIi2:=by show ¬(n+2=n+1);omega
 TOi1:=by show ¬(n+3=n);omega
 TOi2:=by show ¬(n+3=n+1);omega
 i12:=by show ¬(n=n+1);omega
 l1z:=by show ¬(t1=n+4);omega
 l1TO:=by show ¬(t1=n+3);omega
 l1i1:=by show ¬(t1=n);omega
 l1i2:=by show ¬(t1=n+1);omega
 l2z:=by show ¬(t2=n+4);omega
 l2TO:=by show ¬(t2=n+3);omega
 l2i1:=by show ¬(t2=n);omega
 l2i2:=by show ¬(t2=n+1);omega
def Qx4(ta:TA):TI:=λσ H R=>ta σ H λvs H1=>∃t1 t2 xs ys,vs=[.ref t1,.ref t2]/\H1 t1=some (.lst xs)/\H1 t2=some (.lst ys)/\R (QyY t1 t2) H1
theorem Qnp:bootBuiltins "zip" = some (.type "zip"):=by decide +kernel
theorem QlV{a b:QZ}{elts:List QZ}{x1}{tpos:Pos}{ta:TA}{p pos:Pos}(hg:Gl X "zip")(hm:X.mg "zip" = none)(ha:PA X [a,b] ta)(hs:starEach [a,b] X.env=[(false,eval a X.env),(false,eval b X.env)]:=by rfl)(hs2:starEach [b] X.env=[(false,eval b X.env)]:=by rfl) :
  PI X (.Tuple elts x1 tpos) (.Call (.Name "zip" p) [a,b] [] pos) (Qx4 ta):=by
 intro pins s σ H R I h;refine Call_ (QeJ I hg hm Qnp (ZC (thn (ha pos pins s σ H _ I h) λus s1 ⟨vs,H1,I1,r1,q1⟩=>?_) (by rw[hs,hs2]) (by rw[hs2];rfl)));obtain⟨t1,t2,xs,ys,e,h1,h2,q⟩:=q1;subst e;obtain⟨u,v,rfl,ru,rv⟩:=vals2 r1;cases(show u=QL t1 from ru);cases(show v=QL t2 from rv);obtain⟨its1,w1,p1,_⟩:=I1.list (SqL.of h1);obtain⟨its2,w2,p2,_⟩:=I1.list (SqL.of h2);have n1:t1<s1.heap.objs.size:=I1.hok.lt h1;have n2:t2<s1.heap.objs.size:=I1.hok.lt h2;refine Qlh (Y0 p1) (Y0 p2) λh' st kp=>?_
 refine Qdf (s:={ s1 with heap:=h' }) st.zp ?_
 have D:=QkW s1.heap.objs.size t1 t2 n1 n2;refine⟨s1.heap.objs.size+4,_,_,_,H1,rfl,I1.kept (t':=s1.toks) kp,Qlj D,st,λb hb=>?_,q⟩;have hb':s1.heap.objs.size<=b:=by
  simp only[Qs,Jb,or_false] at hb;rcases hb with rfl | rfl | rfl | rfl | rfl<;>omega
 exact I1.fpOk hb' (I1.hok.fresh hb')
end
def QuT(K:PySem.W.Frag):List V->Hp->VK->Prop:=λxs H Q=>∃p ys,xs=[.ref p]/\(SqL K H p ys∨SqT K H p ys)/\Q (.int ys.length) H
def QxC:List V->Hp->VK->Prop:=λxs H Q=>(∃i,xs=[.int i]/\Q (.int i) H)∨∃k,xs=[.bl k]/\Q (.int (if k then 1 else 0)) H
theorem bt_set:bootBuiltins "set" = some (.type "set"):=by decide +kernel
theorem Qdc:bootBuiltins "sorted" = some (.builtin "sorted"):=by decide +kernel
def CMulB(i j:Int):Prop:=∃k:Nat,k<=1000000/\i.natAbs<2^k/\j.natAbs<2^k
theorem Qnw{i:Int}{k:Nat}(h:i.natAbs<2^k):Zl i<=k:=by
 unfold Zl;split
 ·exact Qq _
 ·rename_i z
  have hz:i.natAbs≠0:=by
   intro q;apply z
   have:i=0:=by omega
   subst this;rfl
  have:=(Nat.log2_lt hz).mpr h;omega
theorem CMulB.ok{i j:Int}(h:CMulB i j):IntMulOk i j:=by
 obtain⟨k,hk,h1,h2⟩:=h;have a:=Qnw h1;have b:=Qnw h2;unfold IntMulOk;have c:QfW (Zl i+Zl j:Nat)=false:=by
  unfold QfW;rw[decide_eq_false];have:bitsLine=134217728:=by decide +kernel
  rw[this];omega
 intro z;rw[JF] at z;have z2:=z.2;have e:((Zl i+Zl j:Nat):Int)=(Zl i:Int)+(Zl j:Int):=by omega
 rw[e] at c;rw[c] at z2;cases z2
section
variable{X:Cx}
theorem Qs0:OpR X (binaryOp .Mult) (rI CMulB λi j=>.int (i*j)):=opI λ_ _ _ _ _ _ _ hc q=>mul_int q hc.ok
def iOr(a b:TI):TI:=λσ H R=>a σ H R∨b σ H R
theorem QxK{tg e:QZ}{a b:TI}(h1:PI X tg e a)(h2:PI X tg e b):PI X tg e (iOr a b):=by
 intro pins s σ H R I h;rcases h with h | h
 ·exact h1 pins s σ H R I h
 ·exact h2 pins s σ H R I h
end
end L2
namespace Rk
open L2 _root_.Rd
def Qys(u:Nat):R2:=λx y H Q=>∃dx dy,Dat H x dx/\Dat H y dy/\u+min dx.depth dy.depth<cLine/\Q (.bl (!JB dx dy)) H
theorem Qvq{X:Cx}:OpR X (compareOp .NotEq) (Qys X.A.units):=Qvr
def Qyy(u:Nat):R2:=λx y H Q=>∃dx dy,Dat H x dx/\Dat H y dy/\u+min dx.depth dy.depth<cLine/\Q (.bl (JB dx dy)) H
theorem QjG{X:Cx}:OpR X (compareOp .Eq) (Qyy X.A.units):=Qvu
theorem Ql8{X:Cx}:OpR X (compareOp .NotIn) (Qyw X.A.in1.units true):=Ql9
def Qc5:Nat->Qa->Bool
 |_,.none=>true
 |_,.bool _=>true
 |_,.int _=>true
 |_,.str _=>true
 |n+1,.tuple ds=>decide (ds.length<=1000)&&ds.all (Qc5 n)
 |n+1,.list ds=>decide (ds.length<=1000)&&ds.all (Qc5 n)
 |_,_=>false
def Qiy:Nat->Sp
 |0=>λ_ _ _ _=>False
 |n+1=>λvs H Q _=>∃x y d,vs=[x,y]/\Dat H x d/\Dat H y d/\Qc5 n d=true/\∀H',Same H H'->Q (.bl true) H'
mutual
def noL:Qa->Bool
 |.tuple ds=>QnS ds
 |.list _=>false
 |.dict _=>false
 |_=>true
def QnS:List Qa->Bool
 |[]=>true
 |d::ds=>noL d&&QnS ds
end
theorem Qgf:∀{ds:List Qa},(∀d∈ds,noL d=true)->QnS ds=true
 |[],_=>rfl
 |d::ds,h=>by
  show(noL d&&QnS ds)=true;rw[h d (by simp),Qgf λe he=>h e (by simp[he])];rfl
mutual
theorem Qj2{H:Hp}{pl:Addr}{ys:List V}{o:HO}(e:H pl=some (.lst ys)):∀(d:Qa)(x:V),noL d=true->Dat H x d->Dat (upd H pl o) x d
 |.none,_,_,.non=>.non
 |.bool b,_,_,.bl _=>.bl b
 |.int i,_,_,.int _=>.int i
 |.str z,_,_,.str _ c=>.str z c
 |.tuple ds,_,n,.tup (a:=a) (xs:=xs) ea q=>.tup (by rw[JK (λz=>by rw[z,e] at ea;cases ea)];exact ea) (QbX e ds xs n q)
 |.list ds,_,n,_=>by cases n
theorem QbX{H:Hp}{pl:Addr}{ys:List V}{o:HO}(e:H pl=some (.lst ys)):∀(ds:List Qa)(xs:List V),QnS ds=true->Dats H xs ds->Dats (upd H pl o) xs ds
 |[],_,_,.nil=>.nil
 |d::ds,_,n,.cons q r=>by
  have n':=Qz.mp (show(noL d&&QnS ds)=true from n);exact .cons (Qj2 e d _ n'.1 q) (QbX e ds _ n'.2 r)
end
theorem Qnb{H:Hp}{xs:List V}{ds:List Qa}{x:V}{d:Qa}(h:Dats H xs ds)(q:Dat H x d):Dats H (xs++[x]) (ds++[d]):=h.app (.cons q .nil)
theorem Qgv{α:Type}{F:α->Option Qa}{l:List α}(h:∀i∈l,∀d,F i=some d->noL d=true):QnS (l.filterMap F)=true:=by
 refine Qgf λd hd=>?_
 obtain⟨i,hi,e⟩:=ZA.mp hd;exact h i hi d e
theorem Qj8{J:It}{σ:L2.St}{g:TG}{tc:TT}{te:TE}{pl:Addr}{H1:Hp}{Qn:Hp->Prop}(n:Nat)(hn:n<sizeLine)(F:Nat->Option Qa)(hF:∀i,i<n->∀d,F i=some d->noL d=true)(hp:H1 pl=none)
  (hs:∀i H2,i<n->Same H1 H2->(∃ys,H2 pl=some (.lst ys))->J.go i H2/\∀x H3,J.yld i H2 x H3->∀(kn:Hp->Prop)(kv:VK),(F i=none->∀H6,Same H2 H6->kn H6) ->
   (∀d v H6,F i=some d->Same H2 H6->Dat H6 v d->kv v H6) ->
   g x σ H3 λσ4 H4=>Wk σ σ4/\tc σ4 H4 λb H5=>if b=true then te σ4 H5 kv else kn H5)
  (hst:∀H2,Same H1 H2->J.stop n H2) (hq:∀H2 ys,Same H1 H2->H2 pl=some (.lst ys)->Dats H2 ys ((Qm n).filterMap F)->Qn H2) :
  QfZ J (bOf σ g tc (QtU pl te)) Qn (upd H1 pl (.lst [])):=by
 refine Qcx n (λi H2=>i<=n/\Same H1 H2/\∃ys,H2 pl=some (.lst ys)/\Dats H2 ys ((Qm i).filterMap F)) ⟨Qq _,Jy hp,[],Jp,.nil⟩ (λi H2 hi ⟨_,s2,ys,e2,c2⟩=>?_) λH2 ⟨_,s2,ys,e2,c2⟩=>⟨hst H2 s2,hq H2 ys s2 e2 c2⟩
 obtain⟨go,st⟩:=hs i H2 hi s2 ⟨ys,e2⟩;refine⟨go,λx H3 y k hk=>?_⟩;have er:(Qm (i+1)).filterMap F=(Qm i).filterMap F++(F i).toList:=by
  rw[Z7,Zw];cases e:F i<;>simp[e]
 refine st x H3 y k (λv H6=>∃ys,H6 pl=some (.lst ys)/\ys.length<sizeLine/\k (upd H6 pl (.lst (ys++[v])))) (λe H6 s6=>?_) λd v H6 e s6 dv=>?_
 ·refine hk _ ⟨hi,s2.trans s6,ys,s6 _ _ e2,?_⟩;rw[er,e]
  simpa using c2.same s6
 ·have e6:=s6 _ _ e2;refine⟨_,e6,?_,hk _ ⟨hi,λb o q=>?_,ys++[v],Jp,?_⟩⟩
  ·have l1:=c2.length;have:((Qm i).filterMap F).length<=i:=by
    have:=Qaf F (Qm i)
    rwa [QF] at this
   omega
  ·rw[JK (JY q hp)];exact s6 b o (s2 b o q)
  ·rw[er,e];exact Qnb (QbX e6 _ _ (Qgv λj hj=>hF j (by have:=QU.mp hj;omega)) (c2.same s6)) (Qj2 e6 _ _ (hF i hi d e) dv)
def QlG(F:Nat->Nat->Option Qa)(m:Nat->Nat)(i:Nat):List Qa:=(Qm i).flatMap λk=>(Qm (m k)).filterMap (F k)
theorem Qky(F:Nat->Nat->Option Qa)(m:Nat->Nat)(i:Nat):QlG F m (i+1)=QlG F m i++(Qm (m i)).filterMap (F i):=by
 unfold QlG;rw[Z7,Qbb];simp
theorem Qs8{σ:L2.St}{H:Hp}{A B:Hp->Prop}(h:A H):Qet σ H λb H5=>if b=true then A H5 else B H5:=by
 show(if true=true then A H else B H);exact QeM h
def QbU(ns:List Int):Qa:=.tuple (ns.map Qk)
theorem QeU{H:Hp}:∀(ns:List Int),Dats H (ns.map V.int) (ns.map Qk)
 |[]=>.nil
 |n::ns=>.cons (.int n) (QeU ns)
theorem QhI{H:Hp}:∀{ns:List Int}{xs:List V},Dats H xs (ns.map Qk)->xs=ns.map V.int
 |[],_,.nil=>rfl
 |n::ns,_,.cons (.int _) r=>by rw[QhI r];rfl
theorem QeV{H:Hp}{v:V}{ns:List Int}(h:Dat H v (QbU ns)):∃t,v=.ref t/\H t=some (.tup (ns.map V.int)):=by
 unfold QbU at h;cases h with
 |@tup a xs _ e q=>exact⟨a,rfl,by rw[e,QhI q]⟩
theorem QeO{H:Hp}{t:Addr}{ns:List Int}(e:H t=some (.tup (ns.map V.int))):Dat H (.ref t) (QbU ns):=.tup e (QeU ns)
theorem Qhx:∀ns:List Int,QnS (ns.map Qk)=true
 |[]=>rfl
 |n::ns=>by show(true&&QnS (ns.map Qk))=true;rw[Qhx ns];rfl
theorem QeF(ns:List Int):noL (QbU ns)=true:=Qhx ns
end Rk
namespace Rx
open PySem.Calls L2
end Rx
namespace Rk
open L2 _root_.Rd
def ordsI(m:Nat):Nat->List (List Int)
 |0=>[[]]
 |k+1=>(ordsI m k).flatMap λo=>(Qbq m o).map λx=>o++[x]
theorem QbS(k:Nat)(rs:List Int):(Qbq k rs).length<=k:=by
 unfold Qbq;have:=Qaf (λ(i:Nat)=>if(i:Int)∈rs then none else some (i:Int)) (Qm k)
 rwa [QF] at this
theorem QlF{F:Nat->Nat->Option Qa}{m:Nat->Nat}{B:Nat}(h:∀k,m k<=B):∀i,(QlG F m i).length<=i*B
 |0=>by simp[QlG]
 |i+1=>by
  rw[Qky,Qv,QcR];have h1:=QlF h i (F:=F);have h2:=Qaf (F i) (Qm (m i));rw[QF] at h2;have:=h i;omega
theorem Qhs{m:Nat}:∀{k:Nat}{o:List Int},o∈ordsI m k->o.length=k
 |0,o,h=>by simp[ordsI] at h;rw[h];rfl
 |k+1,o,h=>by
  unfold ordsI at h;obtain⟨o',h1,h2⟩:=Yh.mp h;obtain⟨x,_,rfl⟩:=Qt.mp h2;rw[Qv,Qhs h1];rfl
theorem Qht(m:Nat):∀k,(ordsI m k).length<=m^k
 |0=>Qg _
 |k+1=>by
  have key:∀l:List (List Int),(l.flatMap λo=>(Qbq m o).map λx=>o++[x]).length<=l.length*m:=λl=>by
   induction l with
   |nil=>simp
   |cons o l ih=>
    rw[QaA,Qv,Qf,Qr,QcR];have:=QbS m o;omega
  show((ordsI m k).flatMap λo=>(Qbq m o).map λx=>o++[x]).length<=m^(k+1);have h1:=key (ordsI m k);have h2:=QnN m (Qht m k);rw[Qld];omega
theorem Qze{m k:Nat}(hm:m<=6)(hk:k<=6):m^k<=46656:=by
 have h1:m^k<=6^k:=Qn0 hm k;have h2:6^k<=6^6:=QnM (by decide) hk;exact Q4 h1 (Q4 h2 (by decide))
theorem QiS{m k:Nat}(hm:m<=6)(hk:k<=6):(ordsI m k).length<=46656:=Q4 (Qht m k) (Qze hm hk)
theorem Qgn{n:Nat}(h:n<=1000000):n<sizeLine:=Qaq h (by decide)
theorem Qln{α:Type}{L:List α}{i:Nat}(d:α)(h:i<L.length):L.take (i+1)=L.take i++[L.getD i d]:=by
 rw[List.take_succ,Ql,Qd h];rfl
end Rk
namespace HT
section
open PySem.SeqAt
open PySem.AutoSeq1 (wpAny_loadPart')
open PySem.MeetsSeq PySem.MeetsSeq2 PySem.MeetsSeq3
end
section
variable{prog:QB}{w:Q8}{A:Q2}{E:Value->Shared->Prop}{s:Shared}
end
end HT
namespace L2
def QuQ(K:PySem.W.Frag):V->Option Int->Option Int->Hp->VK->Prop:=λx lo hi H Q=>∃a xs,x=.ref a/\SqL K H a xs/\∀p H',Same H H'->H p=none->H' p=some (.lst (Qk5 xs lo hi))->Q (.ref p) H'
theorem Qog{X:Cx}:SlR X (QuQ X.K):=by
 intro pins s σ H x v vl vu lo hi sl Q I rx hs pl pu h;obtain⟨a,xs,e,hx,q⟩:=h;exact Qsh pins s σ H x v vl vu lo hi sl Q I rx hs pl pu ⟨a,xs,e,hx,λp hp=>q p _ (Jy hp) hp Jp⟩
end L2
namespace Rk
open L2 _root_.Rd
theorem Qhj{α β:Type}(l:List α)(d:α)(P:α->Bool)(f:α->β):(Qm l.length).filterMap (λi=>if P (l.getD i d)=true then some (f (l.getD i d)) else none)=(l.filter P).map f:=by
 have h:=Qd6 l d P;rw[<- h,Yr];refine congrArg (λg=>Qh9 g (Qm l.length)) (funext λi=>?_);by_cases hm:P (l.getD i d)=true
 ·rw[if_pos hm,if_pos hm];rfl
 ·rw[if_neg hm,if_neg hm];rfl
theorem Qpg{H:Hp}{ys:List V}{os:List (List Int)}{i:Nat}{x:V}(h:Dats H ys (os.map QbU))(e:ys[i]? = some x):i<os.length/\∃t,x=.ref t/\H t=some (.tup ((os.getD i []).map V.int)):=by
 obtain⟨d,hd,qd⟩:=h.get i x e;have hi:i<os.length:=by
  have:=(QQ.mp hd).1
  rwa [Qf] at this
 refine⟨hi,?_⟩;have ed:d=QbU (os.getD i []):=by
  rw[Qy,Qd hi] at hd;cases hd;rw[Ql,Qd hi];rfl
 subst ed;exact QeV qd
end Rk
namespace L2
section
variable{X:Cx}
def QlL(K:PySem.W.Frag):List V->Hp->VK->Prop:=λxs H Q=>∃p ys,xs=[.ref p]/\((SqL K H p ys/\∀l H',Same H H'->H l=none->H' l=some (.tup ys)->Q (.ref l) H')∨(SqT K H p ys/\Q (.ref p) H))
theorem Qcs:CallR X (.type "tuple") (QlL X.K):=by
 intro pins s σ H xs us Q I r h;obtain⟨p,ys,e,h⟩:=h;refine QgF pins s σ H xs us Q I r ⟨p,ys,e,?_⟩;rcases h with⟨h1,h2⟩ | h
 ·exact .inl ⟨h1,λl hl=>h2 l _ (Jy hl) hl Jp⟩
 ·exact .inr h
def QlN(K:PySem.W.Frag):List V->Hp->VK->Prop:=λxs H Q=>∃p ys,xs=[.ref p]/\(SqL K H p ys∨SqT K H p ys)/\∀l H',Same H H'->H l=none->H' l=some (.lst ys)->Q (.ref l) H'
theorem QgG:CallR X (.type "list") (QlN X.K):=by
 intro pins s σ H xs us Q I r h;obtain⟨p,ys,e,h1,h2⟩:=h;exact QhT pins s σ H xs us Q I r ⟨p,ys,e,h1,λl hl=>h2 l _ (Jy hl) hl Jp⟩
end
end L2
namespace Rk
open L2 _root_.Rd
end Rk
namespace L2
section
variable{X:Cx}
end
section
variable{X:Cx}
end
end L2
namespace Rk
open L2 _root_.Rd
end Rk
namespace Rx
open PySem.Calls L2
abbrev TSX:=L2.Ends->L2.St->Hp->(Addr->Hp->Prop)->Prop
def PSX(X:Cx)(st:Y3)(t:TSX):Prop:=∀(pins:List (Addr×Obj))(s:Shared)(σ:L2.St)(H:Hp)(D:L2.Ends)(Ex:Addr->Hp->Prop),Inv X pins σ H s->t D σ H Ex ->
 wpAny (model X.prog X.w) X.A (exec st X.env) (SP X pins D) (XP X pins λσ1 C H1=>σ1=σ/\Ex C H1) s
def PSXs(X:Cx)(sts:List Y3)(t:TSX):Prop:=∀(pins:List (Addr×Obj))(s:Shared)(σ:L2.St)(H:Hp)(D:L2.Ends)(Ex:Addr->Hp->Prop),Inv X pins σ H s->t D σ H Ex ->
 wpAny (model X.prog X.w) X.A (execs sts X.env) (SP X pins D) (XP X pins λσ1 C H1=>σ1=σ/\Ex C H1) s
section
variable{X:Cx}{e:QZ}{st:Y3}{pos:Pos}{te:TX}{t u:TSX}{tc:TT}{c:QZ}{a b:List Y3}
end
section
variable{X:Cx}{R:Addr}{i:Nat}{n r:Str}{body:List Y3}{hx:QZ}{tb:TSX}{th:TE}{np hp hpos pos:Pos}
end
end Rx
namespace L2
theorem FnOk.or{P:QB}{w:Q8}{K:PySem.W.Frag}{mg:Str->Option Value}{base:Heap}{CX:CXT}{k:Nat}{f:Addr}{fd:Q1}{ps:List Str}{sp sp':Sp}(F:FnOk P w K mg base CX k f fd ps sp)(G:FnOk P w K mg base CX k f fd ps sp') :
  FnOk P w K mg base CX k f fd ps (λvs H Q E=>sp vs H Q E∨sp' vs H Q E):=
 ⟨λvs H Q E q=>q.elim (F.len vs H Q E) (G.len vs H Q E),λA outer s H args us vs Q E hr he hb hv hs=>hs.elim (λz=>F.run A outer s H args us vs Q E hr he hb hv z) λz=>G.run A outer s H args us vs Q E hr he hb hv z⟩
theorem FnOk.ex{P:QB}{w:Q8}{K:PySem.W.Frag}{mg:Str->Option Value}{base:Heap}{CX:CXT}{k:Nat}{f:Addr}{fd:Q1}{ps:List Str}{sp:Sp}(F:FnOk P w K mg base CX0 k f fd ps sp) :
  FnOk P w K mg base CX k f fd ps sp:=
 ⟨F.len,λA outer s H args us vs Q E hr he hb hv hs=>Qa1 (F.run A outer s H args us vs Q E hr he hb hv hs) λr s' z=>by
  cases r with
  |error e=>exact Z3 z
  |ok fl=>cases fl<;>exact z⟩
section
variable{X:Cx}
end
end L2
namespace Rk
open L2 _root_.Rd
def QyG(H:Hp):V->Bool
 |.ref a=>match H a with
  |some (.lst _)=>true
  |_=>false
 |_=>false
theorem Qi5(H:Hp)(a:Addr):QyG H (.ref a)=(match H a with | some (.lst _)=>true | _=>false):=rfl
def NotNum(p:Addr)(H:Hp)(x:V):Prop:=QyG H x=false∨∃l xs,x=.ref l/\H l=some (.lst xs)/\xs.length<=20/\(¬(2<=xs.length/\xs.length<=13)∨(∀y∈xs,Kn p H y)/\xs.all isI=false)
theorem NotNum.keep{p:Addr}{H H':Hp}{x:V}(k:Kn p H x)(s:Same H H')(h:NotNum p H x):NotNum p H' x:=by
 rcases h with z | ⟨l,xs,rfl,e,hl,z⟩
 ·refine .inl ?_
  cases x with
  |ref a=>
   obtain⟨_,⟨xs,e⟩ | ⟨xs,e⟩ | ⟨xs,e⟩⟩:=k
   ·rw[Qi5,s _ _ e]
   ·rw[Qi5,e] at z;cases z
   ·rw[Qi5,s _ _ e]
  |_=>exact z
 ·refine .inr ⟨l,xs,rfl,s _ _ e,hl,?_⟩;rcases z with z | ⟨z1,z2⟩
  ·exact .inl z
  ·exact .inr ⟨λy hy=>(z1 y hy).keep (KX.of s),z2⟩
end Rk
namespace Dl
open L2 _root_.Rd Rk
mutual
inductive DA (A:Addr->Prop) (H:Hp):V->Qa->Prop
 |non:DA A H .non .none
 |bl (b:Bool):DA A H (.bl b) (.bool b)
 |int (i:Int):DA A H (.int i) (.int i)
 |str (x:Str):QcP (.str x)=true->DA A H (.str x) (.str x)
 |tup {a:Addr} {xs:List V} {ds:List Qa}:¬A a->H a=some (.tup xs)->DAs A H xs ds->DA A H (.ref a) (.tuple ds)
 |lst {a:Addr} {xs:List V} {ds:List Qa}:¬A a->H a=some (.lst xs)->DAs A H xs ds->DA A H (.ref a) (.list ds)
 |dct {a:Addr}:¬A a->H a=some (.dK [])->DA A H (.ref a) (.dict [])
inductive DAs (A:Addr->Prop) (H:Hp):List V->List Qa->Prop
 |nil:DAs A H [] []
 |cons {x:V} {xs:List V} {d:Qa} {ds:List Qa}:DA A H x d->DAs A H xs ds->DAs A H (x::xs) (d::ds)
end
mutual
theorem Qwe{A A':Addr->Prop}{H H':Hp}(k:∀a o,¬A a->H a=some o->H' a=some o)(m:∀a,A' a->A a∨H a=none):∀(d:Qa)(x:V),DA A H x d->DA A' H' x d
 |.none,_,.non=>.non
 |.bool _,_,.bl _=>.bl _
 |.int _,_,.int _=>.int _
 |.str _,_,.str _ c=>.str _ c
 |.tuple ds,_,.tup (xs:=xs) n e q=>.tup (λz=>(m _ z).elim n λz=>by rw[z] at e;cases e) (k _ _ n e) (Qj6 k m ds xs q)
 |.list ds,_,.lst (xs:=xs) n e q=>.lst (λz=>(m _ z).elim n λz=>by rw[z] at e;cases e) (k _ _ n e) (Qj6 k m ds xs q)
 |.dict _,_,.dct n e=>.dct (λz=>(m _ z).elim n λz=>by rw[z] at e;cases e) (k _ _ n e)
theorem Qj6{A A':Addr->Prop}{H H':Hp}(k:∀a o,¬A a->H a=some o->H' a=some o)(m:∀a,A' a->A a∨H a=none):∀(ds:List Qa)(xs:List V),DAs A H xs ds->DAs A' H' xs ds
 |[],_,.nil=>.nil
 |d::ds,_,.cons (x:=x) (xs:=xs) q qs=>.cons (Qwe k m d x q) (Qj6 k m ds xs qs)
end
theorem DA.mv{A A':Addr->Prop}{H H':Hp}{x:V}{d:Qa}(q:DA A H x d)(k:∀a o,¬A a->H a=some o->H' a=some o)(m:∀a,A' a->A a∨H a=none):DA A' H' x d:=Qwe k m d x q
theorem DAs.mv{A A':Addr->Prop}{H H':Hp}{x:List V}{d:List Qa}(q:DAs A H x d)(k:∀a o,¬A a->H a=some o->H' a=some o)(m:∀a,A' a->A a∨H a=none):DAs A' H' x d:=Qj6 k m d x q
theorem DA.same{A:Addr->Prop}{H H':Hp}{x:V}{d:Qa}(q:DA A H x d)(s:Same H H'):DA A H' x d:=q.mv (λa o _ e=>s a o e) λa z=>.inl z
theorem DAs.same{A:Addr->Prop}{H H':Hp}{x:List V}{d:List Qa}(q:DAs A H x d)(s:Same H H'):DAs A H' x d:=q.mv (λa o _ e=>s a o e) λa z=>.inl z
theorem DAs.length{A:Addr->Prop}{H:Hp}:∀{xs:List V}{ds:List Qa},DAs A H xs ds->xs.length=ds.length
 |_,_,.nil=>rfl
 |_,_,.cons _ q=>by rw[Qr,Qr,q.length]
theorem DAs.get{A:Addr->Prop}{H:Hp}:∀{xs:List V}{ds:List Qa},DAs A H xs ds->∀(i:Nat)(d:Qa),ds[i]? = some d->∃x,xs[i]? = some x/\DA A H x d
 |_,_,.nil,i,x,e=>by simp at e
 |_,_,.cons q qs,0,x,e=>by simp at e;subst e;exact⟨_,rfl,q⟩
 |_,_,.cons q qs,i+1,x,e=>qs.get i x (by simpa using e)
theorem DAs.getV{A:Addr->Prop}{H:Hp}:∀{xs:List V}{ds:List Qa},DAs A H xs ds->∀(i:Nat)(x:V),xs[i]? = some x->∃d,ds[i]? = some d/\DA A H x d
 |_,_,.nil,i,x,e=>by simp at e
 |_,_,.cons q qs,0,x,e=>by simp at e;subst e;exact⟨_,rfl,q⟩
 |_,_,.cons q qs,i+1,x,e=>qs.getV i x (by simpa using e)
theorem DAs.app{A:Addr->Prop}{H:Hp}:∀{xs ys:List V}{ds es:List Qa},DAs A H xs ds->DAs A H ys es->DAs A H (xs++ys) (ds++es)
 |_,_,_,_,.nil,q=>q
 |_,_,_,_,.cons a b,q=>.cons a (b.app q)
theorem DAs.take{A:Addr->Prop}{H:Hp}:∀{xs:List V}{ds:List Qa},DAs A H xs ds->∀n:Nat,DAs A H (xs.take n) (ds.take n)
 |_,_,.nil,n=>by rw[QwE,QwE];exact .nil
 |_,_,.cons a b,0=>.nil
 |_,_,.cons a b,n+1=>.cons a (b.take n)
theorem DAs.drop{A:Addr->Prop}{H:Hp}:∀{xs:List V}{ds:List Qa},DAs A H xs ds->∀n:Nat,DAs A H (xs.drop n) (ds.drop n)
 |_,_,.nil,n=>by rw[QwF,QwF];exact .nil
 |_,_,.cons a b,0=>.cons a b
 |_,_,.cons a b,n+1=>b.drop n
theorem DAs.set{A:Addr->Prop}{H:Hp}{x:V}{d:Qa}(q:DA A H x d):∀{xs:List V}{ds:List Qa},DAs A H xs ds->∀n:Nat,DAs A H (xs.set n x) (ds.set n d)
 |_,_,.nil,n=>.nil
 |_,_,.cons a b,0=>.cons q b
 |_,_,.cons a b,n+1=>.cons a (b.set q n)
mutual
def nd:Qa->Bool
 |.dict _=>false
 |.tuple ds=>nds ds
 |.list ds=>nds ds
 |_=>true
def nds:List Qa->Bool
 |[]=>true
 |d::ds=>nd d&&nds ds
end
mutual
theorem QhN{A:Addr->Prop}{H:Hp}:∀(d:Qa)(x:V),nd d=true->DA A H x d->Dat H x d
 |.none,_,_,.non=>.non
 |.bool _,_,_,.bl _=>.bl _
 |.int _,_,_,.int _=>.int _
 |.str _,_,_,.str _ c=>.str _ c
 |.tuple ds,_,n,.tup (xs:=xs) _ e q=>.tup e (Qch ds xs n q)
 |.list ds,_,n,.lst (xs:=xs) _ e q=>.lst e (Qch ds xs n q)
theorem Qch{A:Addr->Prop}{H:Hp}:∀(ds:List Qa)(xs:List V),nds ds=true->DAs A H xs ds->Dats H xs ds
 |[],_,_,.nil=>.nil
 |d::ds,_,n,.cons (x:=x) (xs:=xs) q qs=>by
  have n':=Qz.mp (show(nd d&&nds ds)=true from n);exact .cons (QhN d x n'.1 q) (Qch ds xs n'.2 qs)
end
theorem Qtb{ds:List Qa}:nds ds=true↔∀d∈ds,nd d=true:=by
 induction ds with
 |nil=>exact⟨(λ_ _ h=>nomatch h),λ_=>rfl⟩
 |cons d ds ih=>
  rw[show nds (d::ds)=(nd d&&nds ds) from rfl,Qz,ih];constructor
  ·rintro⟨a,b⟩ e he;rcases Qs.mp he with z | z
   ·rw[z];exact a
   ·exact b e z
  ·intro h;exact⟨h d (by simp),λe he=>h e (by simp[he])⟩
def DP(A P:Addr->Prop)(H:Hp)(v:V)(d:Qa):Prop:=DA A H v d∨∃l xs ds,v=.ref l/\d=.list ds/\¬P l/\H l=some (.lst xs)/\DAs A H xs ds
theorem DP.dat{A P:Addr->Prop}{H:Hp}{v:V}{d:Qa}(h:DP A P H v d)(n:nd d=true):Dat H v d:=by
 rcases h with h | ⟨l,xs,ds,rfl,rfl,_,e,q⟩
 ·exact QhN d v n h
 ·exact .lst e (Qch ds xs n q)
theorem DP.list{A P:Addr->Prop}{H:Hp}{v:V}{ds:List Qa}(h:DP A P H v (.list ds)):∃l xs,v=.ref l/\H l=some (.lst xs)/\DAs A H xs ds:=by
 rcases h with h | ⟨l,xs,ds',rfl,e,_,h2,q⟩
 ·cases h with | lst n e q=>exact⟨_,_,rfl,e,q⟩
 ·cases e;exact⟨l,xs,rfl,h2,q⟩
theorem DP.tuple{A P:Addr->Prop}{H:Hp}{v:V}{ds:List Qa}(h:DP A P H v (.tuple ds)):∃l xs,v=.ref l/\H l=some (.tup xs)/\DAs A H xs ds:=by
 rcases h with h | ⟨l,xs,ds',rfl,e,_⟩
 ·cases h with | tup n e q=>exact⟨_,_,rfl,e,q⟩
 ·cases e
theorem DP.int{A P:Addr->Prop}{H:Hp}{v:V}{i:Int}(h:DP A P H v (.int i)):v=.int i:=by
 rcases h with h | ⟨l,xs,ds',rfl,e,_⟩
 ·cases h;rfl
 ·cases e
theorem DP.bool{A P:Addr->Prop}{H:Hp}{v:V}{i:Bool}(h:DP A P H v (.bool i)):v=.bl i:=by
 rcases h with h | ⟨l,xs,ds',rfl,e,_⟩
 ·cases h;rfl
 ·cases e
theorem DP.none{A P:Addr->Prop}{H:Hp}{v:V}(h:DP A P H v .none):v=.non:=by
 rcases h with h | ⟨l,xs,ds',rfl,e,_⟩
 ·cases h;rfl
 ·cases e
theorem DP.str{A P:Addr->Prop}{H:Hp}{v:V}{x:Str}(h:DP A P H v (.str x)):v=.str x/\QcP (.str x)=true:=by
 rcases h with h | ⟨l,xs,ds',rfl,e,_⟩
 ·cases h with | str _ c=>exact⟨rfl,c⟩
 ·cases e
inductive Sl where
 |no | pot | scr
 |v (d:Qa)
 |own (ds:List Qa)
 |pk (ds:List Qa)
abbrev Sts:=List Sl
structure Fm where
 H0:Hp
 A0:Addr->Prop
 pt:Addr->Prop
def QyW(σ:L2.St)(δ:Sts)(i:Nat)(a:Addr):Prop:=σ[i]? = some (some (.ref a))/\(δ[i]? = some .pot∨∃ds,δ[i]? = some (.own ds))
def Av(F:Fm)(σ:L2.St)(δ:Sts)(a:Addr):Prop:=F.A0 a∨∃i,QyW σ δ i a
def Yj(σ:L2.St)(δ:Sts)(a:Addr):Prop:=∃i:Nat,σ[i]? = some (some (.ref a))/\δ[i]? = some .pot
def QyU(K:PySem.W.Frag)(F:Fm)(H:Hp)(A:Addr->Prop)(o:Option V):Sl->Prop
 |.no=>True
 |.v d=>∃v,o=some v/\DA A H v d
 |.own ds=>∃l xs,o=some (.ref l)/\H l=some (.lst xs)/\DAs A H xs ds/\F.H0 l=none
 |.pk ds=>∃l xs,o=some (.ref l)/\H l=some (.lst xs)/\DAs A H xs ds/\∃ys,F.H0 l=some (.lst ys)/\¬F.pt l
 |.pot=>∃p n,o=some (.ref p)/\H p=some (.lst [.int n])/\(F.pt p∨F.H0 p=none)
 |.scr=>∃a ns,o=some (.ref a)/\SqL K F.H0 a ((ns:List Int).map V.int)/\¬F.pt a/\ns.length<=63
structure Rel (K:PySem.W.Frag) (F:Fm) (σ:L2.St) (H:Hp) (δ:Sts):Prop where
 len:σ.length=δ.length
 dom:∀a,F.A0 a->∃xs,H a=some (.lst xs)
 dom0:∀a,F.A0 a->∃xs,F.H0 a=some (.lst xs)
 pt0:∀p,F.pt p->F.A0 p/\∃n,H p=some (.lst [.int n])
 kx:∀b o,¬F.pt b->F.H0 b=some o->H b=some o
 sl:∀(i:Nat) o x,σ[i]? = some o->δ[i]? = some x->QyU K F H (Av F σ δ) o x
 inj:∀(i j:Nat) a ds,δ[i]? = some (.own ds)->σ[i]? = some (some (.ref a))->QyW σ δ j a->i=j
def Kp(σ:L2.St)(δ:Sts)(H H':Hp):Prop:=(∀b o,¬Yj σ δ b->H b=some o->H' b=some o)/\∀b,Yj σ δ b->∃n,H' b=some (.lst [.int n])
def Stp(F:Fm)(σ:L2.St)(H:Hp)(δ:Sts)(σ':L2.St)(H':Hp)(δ':Sts):Prop:=(∀b o,¬Av F σ δ b->H b=some o->H' b=some o)/\∀b,Av F σ' δ' b->Av F σ δ b∨H b=none
def Ke(F:Fm)(H':Hp):Prop:=(∀b o,¬F.pt b->F.H0 b=some o->H' b=some o)/\∀p,F.pt p->∃n,H' p=some (.lst [.int n])
theorem Qak{F:Fm}{σ:L2.St}{δ:Sts}{a:Addr}(h:Yj σ δ a):Av F σ δ a:=let ⟨i,h1,h2⟩:=h;.inr ⟨i,h1,.inl h2⟩
theorem Rel.ke{K:PySem.W.Frag}{F:Fm}{σ:L2.St}{H:Hp}{δ:Sts}(r:Rel K F σ H δ):Ke F H:=⟨r.kx,λp hp=>(r.pt0 p hp).2⟩
theorem Rel.isl{K:PySem.W.Frag}{F:Fm}{σ:L2.St}{H:Hp}{δ:Sts}(r:Rel K F σ H δ){a:Addr}(h:Av F σ δ a):∃xs,H a=some (.lst xs):=by
 rcases h with h | ⟨i,h1,h2⟩
 ·exact r.dom a h
 ·rcases h2 with h2 | ⟨ds,h2⟩
  ·obtain⟨p,n,e,h,_⟩:=r.sl i _ _ h1 h2;cases e;exact⟨_,h⟩
  ·obtain⟨l,xs,e,h,_⟩:=r.sl i _ _ h1 h2;cases e;exact⟨_,h⟩
theorem Kp.refl{K:PySem.W.Frag}{F:Fm}{σ:L2.St}{H:Hp}{δ:Sts}(r:Rel K F σ H δ):Kp σ δ H H:=⟨λ_ _ _ e=>e,λb ⟨i,h1,h2⟩=>by
 obtain⟨p,n,e,h,_⟩:=r.sl i _ _ h1 h2;cases e;exact⟨n,h⟩⟩
theorem Kp.trans{σ:L2.St}{δ:Sts}{H H1 H2:Hp}(a:Kp σ δ H H1)(b:Kp σ δ H1 H2):Kp σ δ H H2:=⟨λc o n e=>b.1 c o n (a.1 c o n e),b.2⟩
theorem Kp.same{K:PySem.W.Frag}{F:Fm}{σ:L2.St}{H H':Hp}{δ:Sts}(r:Rel K F σ H δ)(s:Same H H'):Kp σ δ H H':=⟨λb o _ e=>s b o e,λb hb=>let ⟨n,h⟩:=(Kp.refl r).2 b hb;⟨n,s _ _ h⟩⟩
theorem Kp.da{F:Fm}{σ:L2.St}{H H':Hp}{δ:Sts}{v:V}{d:Qa}(k:Kp σ δ H H')(h:DA (Av F σ δ) H v d):DA (Av F σ δ) H' v d:=h.mv (λa o n e=>k.1 a o (λz=>n (Qak z)) e) λa z=>.inl z
theorem Kp.das{F:Fm}{σ:L2.St}{H H':Hp}{δ:Sts}{v:List V}{d:List Qa}(k:Kp σ δ H H')(h:DAs (Av F σ δ) H v d):DAs (Av F σ δ) H' v d:=h.mv (λa o n e=>k.1 a o (λz=>n (Qak z)) e) λa z=>.inl z
theorem Kp.dp{F:Fm}{σ:L2.St}{H H':Hp}{δ:Sts}{v:V}{d:Qa}(k:Kp σ δ H H')(h:DP (Av F σ δ) (Yj σ δ) H v d):DP (Av F σ δ) (Yj σ δ) H' v d:=by
 rcases h with h | ⟨l,xs,ds,e1,e2,n,e,q⟩
 ·exact .inl (k.da h)
 ·exact .inr ⟨l,xs,ds,e1,e2,n,k.1 _ _ n e,k.das q⟩
theorem Rel.own_pot{K:PySem.W.Frag}{F:Fm}{σ:L2.St}{H:Hp}{δ:Sts}(r:Rel K F σ H δ){i:Nat}{ds:List Qa}{l:Addr}(h:δ[i]? = some (.own ds))(e:σ[i]? = some (some (.ref l))):¬Yj σ δ l:=by
 rintro⟨j,h1,h2⟩;have:=r.inj i j l _ h e ⟨h1,.inl h2⟩;subst this;rw[h] at h2;cases h2
theorem Rel.pt_pot{K:PySem.W.Frag}{F:Fm}{σ:L2.St}{H H':Hp}{δ:Sts}(r:Rel K F σ H δ)(k:Kp σ δ H H'){p:Addr}(hp:F.pt p):∃n,H' p=some (.lst [.int n]):=by
 by_cases z:Yj σ δ p
 ·exact k.2 p z
 ·obtain⟨n,e⟩:=(r.pt0 p hp).2;exact⟨n,k.1 _ _ z e⟩
theorem Rel.kp{K:PySem.W.Frag}{F:Fm}{σ:L2.St}{H H':Hp}{δ:Sts}(r:Rel K F σ H δ)(k:Kp σ δ H H'):Rel K F σ H' δ where
 len:=r.len
 dom:=λa ha=>by
  by_cases z:Yj σ δ a
  ·exact⟨_,(k.2 a z).choose_spec⟩
  ·obtain⟨xs,e⟩:=r.dom a ha;exact⟨xs,k.1 _ _ z e⟩
 dom0:=r.dom0
 pt0:=λp hp=>⟨(r.pt0 p hp).1,r.pt_pot k hp⟩
 kx:=λb o n e=>by
  by_cases z:Yj σ δ b
  ·obtain⟨i,h1,h2⟩:=z;obtain⟨p,m,e1,h,q⟩:=r.sl i _ _ h1 h2;cases e1;rcases q with q | q
   ·exact absurd q n
   ·rw[q] at e;cases e
  ·exact k.1 _ _ z (r.kx b o n e)
 sl:=λi o x h1 h2=>by
  have h:=r.sl i o x h1 h2;cases x with
  |no=>trivial
  |v d=>obtain⟨v,e,q⟩:=h;exact⟨v,e,k.da q⟩
  |own ds=>obtain⟨l,xs,rfl,e,q,f⟩:=h;exact⟨l,xs,rfl,k.1 _ _ (r.own_pot h2 h1) e,k.das q,f⟩
  |pk ds=>
   obtain⟨l,xs,rfl,e,q,ys,f,f2⟩:=h;refine⟨l,xs,rfl,k.1 _ _ ?_ e,k.das q,ys,f,f2⟩;rintro⟨j,j1,j2⟩;obtain⟨p,m,e1,_,w⟩:=r.sl j _ _ j1 j2;cases e1;rcases w with w | w
   ·exact f2 w
   ·rw[w] at f;cases f
  |pot=>
   obtain⟨p,n,rfl,e,q⟩:=h;obtain⟨m,e'⟩:=k.2 p ⟨i,h1,h2⟩;exact⟨p,m,rfl,e',q⟩
  |scr=>exact h
 inj:=r.inj
theorem Rel.same{K:PySem.W.Frag}{F:Fm}{σ:L2.St}{H H':Hp}{δ:Sts}(r:Rel K F σ H δ)(s:Same H H'):Rel K F σ H' δ:=r.kp (Kp.same r s)
theorem Stp.refl{F:Fm}{σ:L2.St}{H:Hp}{δ:Sts}:Stp F σ H δ σ H δ:=⟨λ_ _ _ e=>e,λ_ z=>.inl z⟩
theorem Stp.trans{F:Fm}{σ σ1 σ2:L2.St}{H H1 H2:Hp}{δ δ1 δ2:Sts}(a:Stp F σ H δ σ1 H1 δ1)(b:Stp F σ1 H1 δ1 σ2 H2 δ2):Stp F σ H δ σ2 H2 δ2:=by
 refine⟨λc o n e=>?_,λc z=>?_⟩
 ·refine b.1 c o (λz=>?_) (a.1 c o n e);rcases a.2 c z with q | q
  ·exact n q
  ·rw[q] at e;cases e
 ·rcases b.2 c z with q | q
  ·exact a.2 c q
  ·by_cases y:Av F σ δ c
   ·exact .inl y
   ·right
    cases e:H c with
    |none=>rfl
    |some o=>rw[a.1 c o y e] at q;cases q
theorem Stp.kp{F:Fm}{σ:L2.St}{H H':Hp}{δ:Sts}(k:Kp σ δ H H'):Stp F σ H δ σ H' δ:=⟨λb o n e=>k.1 b o (λz=>n (Qak z)) e,λ_ z=>.inl z⟩
theorem Stp.da{F:Fm}{σ σ':L2.St}{H H':Hp}{δ δ':Sts}{v:V}{d:Qa}(k:Stp F σ H δ σ' H' δ')(h:DA (Av F σ δ) H v d):DA (Av F σ' δ') H' v d:=h.mv k.1 k.2
theorem Stp.das{F:Fm}{σ σ':L2.St}{H H':Hp}{δ δ':Sts}{v:List V}{d:List Qa}(k:Stp F σ H δ σ' H' δ')(h:DAs (Av F σ δ) H v d):DAs (Av F σ' δ') H' v d:=h.mv k.1 k.2
abbrev XP:=Addr->Prop
abbrev DE:=Sts->(Qa->Prop)->XP->Prop
abbrev DT:=Sts->(Bool->Prop)->XP->Prop
abbrev DAr:=Sts->(List Qa->Prop)->XP->Prop
abbrev DSl:=Sts->(List Sl->Prop)->XP->Prop
inductive Md where | D | P | F
def FrV(H H':Hp)(v:V):Prop:=∀l,v=.ref l->(∃xs,H' l=some (.lst xs))->H l=none
def Vok(m:Md)(F:Fm)(σ:L2.St)(δ:Sts)(H H':Hp)(v:V)(d:Qa):Prop:=
 match m with
 |.D=>DA (Av F σ δ) H' v d
 |.P=>DP (Av F σ δ) (Yj σ δ) H' v d
 |.F=>DA (Av F σ δ) H' v d/\FrV H H' v
def Out(F:Fm)(E:XK)(EX:XP):Prop:=∀C,EX C->∀H',Ke F H'->E (.ref C) none H'
def tX(m:Md)(K:PySem.W.Frag)(E:XK)(w:DE):TE:=λσ H Q=>∃(F:Fm)(δ:Sts)(R:Qa->Prop)(EX:XP),Rel K F σ H δ/\w δ R EX/\(∀d,R d->∀v H',Rel K F σ H' δ->Kp σ δ H H'->Vok m F σ δ H H' v d->Q v H')/\Out F E EX
def tT(K:PySem.W.Frag)(E:XK)(w:DT):TT:=λσ H Q=>∃(F:Fm)(δ:Sts)(R:Bool->Prop)(EX:XP),Rel K F σ H δ/\w δ R EX/\(∀b,R b->∀H',Rel K F σ H' δ->Kp σ δ H H'->Q b H')/\Out F E EX
def VD(m:Md)(A P:Addr->Prop)(H:Hp)(v:V)(d:Qa):Prop:=
 match m with
 |.P=>DP A P H v d
 |_=>DA A H v d
def tAr(n:Nat)(m:Md)(K:PySem.W.Frag)(E:XK)(w:DAr):TA:=λσ H Q=>∃(F:Fm)(δ:Sts)(R:List Qa->Prop)(EX:XP),Rel K F σ H δ/\w δ R EX/\(∀ds,R ds->ds.length=n->∀vs H',Rel K F σ H' δ->Kp σ δ H H'->Qam (VD m (Av F σ δ) (Yj σ δ) H') vs ds->Q vs H')/\Out F E EX
def Qjk(A pt:Addr->Prop)(H:Hp)(v:V):Sl->Prop
 |.v d=>DA A H v d
 |.pot=>∃p,v=.ref p/\pt p
 |_=>False
def tAs(K:PySem.W.Frag)(E:XK)(w:DSl):TA:=λσ H Q=>∃(F:Fm)(δ:Sts)(R:List Sl->Prop)(EX:XP),Rel K F σ H δ/\w δ R EX/\(∀ds,R ds->∀vs H',Rel K F σ H' δ->Kp σ δ H H'->Qam (Qjk (Av F σ δ) (Yj σ δ) H') vs ds->Q vs H')/\Out F E EX
theorem Kp.vd{m:Md}{F:Fm}{σ:L2.St}{H H':Hp}{δ:Sts}{v:V}{d:Qa}(k:Kp σ δ H H')(h:VD m (Av F σ δ) (Yj σ δ) H v d):VD m (Av F σ δ) (Yj σ δ) H' v d:=by
 cases m
 ·exact k.da h
 ·exact k.dp h
 ·exact k.da h
theorem Kp.arg{F:Fm}{σ:L2.St}{H H':Hp}{δ:Sts}{v:V}{d:Sl}(k:Kp σ δ H H')(h:Qjk (Av F σ δ) (Yj σ δ) H v d):Qjk (Av F σ δ) (Yj σ δ) H' v d:=by
 cases d with
 |v d=>exact k.da h
 |pot=>exact h
 |_=>exact h.elim
def QcH(H:Hp):Prop:=∀a xs,H a=some (.lst xs)∨H a=some (.tup xs)->xs.length<=sizeLine
section
variable{X:Cx}{E:XK}
theorem Inv.lens{pins:List (Addr×Obj)}{σ:L2.St}{H:Hp}{s:Shared}(I:Inv X pins σ H s):QcH H:=λa xs h=>by
 rcases h with h | h
 ·exact(I.hok a _ h).1
 ·exact(I.hok a _ h).1
theorem PE.imp{e:QZ}{t t':TE}(h:PE X e t)(i:∀σ H Q,t' σ H Q->t σ H Q):PE X e t':=λpins s σ H Q I q=>h pins s σ H Q I (i σ H Q q)
theorem PT.imp{e:QZ}{t t':TT}(h:PT X e t)(i:∀σ H Q,t' σ H Q->t σ H Q):PT X e t':=λpins s σ H Q I q=>h pins s σ H Q I (i σ H Q q)
theorem PW.imp{e:QZ}{t t':TT}(h:PW X e t)(i:∀σ H Q,t' σ H Q->t σ H Q):PW X e t':=λwh pins s σ H Q I q=>h wh pins s σ H Q I (i σ H Q q)
theorem PA.imp{e:List QZ}{t t':TA}(h:PA X e t)(i:∀σ H Q,t' σ H Q->t σ H Q):PA X e t':=λpos pins s σ H Q I q=>h pos pins s σ H Q I (i σ H Q q)
theorem OpR.len{f:Value->Value->Sem Value}{r:R2}(h:OpR X f r):OpR X f (λx y H Q=>QcH H->r x y H Q):=λpins s σ H x y v u Q I rx ry q=>h pins s σ H x y v u Q I rx ry (q (Inv.lens I))
theorem CallR.len{f:Value}{r:List V->Hp->VK->Prop}(h:CallR X f r):CallR X f (λxs H Q=>QcH H->r xs H Q):=λpins s σ H xs us Q I rx q=>h pins s σ H xs us Q I rx (q (Inv.lens I))
theorem UnR.len{f:Value->Sem Value}{r:V->Hp->VK->Prop}(h:UnR X f r):UnR X f (λx H Q=>QcH H->r x H Q):=λpins s σ H x v Q I rx q=>h pins s σ H x v Q I rx (q (Inv.lens I))
theorem IxR.len{r:R2}(h:IxR X r):IxR X (λx y H Q=>QcH H->r x y H Q):=λa b pins s σ H x y v u Q I rx ry q hs=>h a b pins s σ H x y v u Q I rx ry (q (Inv.lens I)) hs
theorem SlR.len{r:V->Option Int->Option Int->Hp->VK->Prop}(h:SlR X r):SlR X (λx a b H Q=>QcH H->r x a b H Q):=λpins s σ H x v vl vu lo hi sl Q I rx hs pl pu q=>h pins s σ H x v vl vu lo hi sl Q I rx hs pl pu (q (Inv.lens I))
theorem OpR.or2{f:Value->Value->Sem Value}{r r':R2}(h:OpR X f r)(h':OpR X f r'):OpR X f (λx y H Q=>r x y H Q∨r' x y H Q):=OpR.or h h'
theorem CallR.or2{f:Value}{r r':List V->Hp->VK->Prop}(h:CallR X f r)(h':CallR X f r'):CallR X f (λx H Q=>r x H Q∨r' x H Q):=λpins s σ H xs us Q I rx q=>q.elim (h pins s σ H xs us Q I rx) (h' pins s σ H xs us Q I rx)
theorem IxR.or2{r r':R2}(h:IxR X r)(h':IxR X r'):IxR X (λx y H Q=>r x y H Q∨r' x y H Q):=λa b pins s σ H x y v u Q I rx ry q hs=>q.elim (λq=>h a b pins s σ H x y v u Q I rx ry q hs) λq=>h' a b pins s σ H x y v u Q I rx ry q hs
theorem SlR.or2{r r':V->Option Int->Option Int->Hp->VK->Prop}(h:SlR X r)(h':SlR X r'):SlR X (λx a b H Q=>r x a b H Q∨r' x a b H Q):=λpins s σ H x v vl vu lo hi sl Q I rx hs pl pu q=>q.elim (h pins s σ H x v vl vu lo hi sl Q I rx hs pl pu) (h' pins s σ H x v vl vu lo hi sl Q I rx hs pl pu)
theorem toD{e:QZ}{w:DE}(h:PE X e (tX .F X.K E w)):PE X e (tX .D X.K E w):=PE.imp h λσ H Q ⟨F,δ,R,EX,r,hw,k,o⟩=>⟨F,δ,R,EX,r,hw,λd hd v H' r' kp vk=>k d hd v H' r' kp vk.1,o⟩
theorem toP{e:QZ}{w:DE}(h:PE X e (tX .D X.K E w)):PE X e (tX .P X.K E w):=PE.imp h λσ H Q ⟨F,δ,R,EX,r,hw,k,o⟩=>⟨F,δ,R,EX,r,hw,λd hd v H' r' kp vk=>k d hd v H' r' kp (.inl vk),o⟩
theorem Qy0{e:QZ}{w:DE}(h:PE X e (tX .F X.K E w)):PE X e (tX .P X.K E w):=toP (toD h)
def Qye(i:Nat):DE:=λδ Q _=>match δ[i]? with
 |some (.v d)=>Q d
 |_=>False
def dPk(i:Nat):DE:=λδ Q _=>match δ[i]? with
 |some (.v d)=>Q d
 |some (.own ds)=>Q (.list ds)
 |some (.pk ds)=>Q (.list ds)
 |_=>False
def dC(d:Qa):DE:=λ_ Q _=>Q d
theorem Rel.lt{K:PySem.W.Frag}{F:Fm}{σ:L2.St}{H:Hp}{δ:Sts}(r:Rel K F σ H δ){i:Nat}{x:Sl}(h:δ[i]? = some x):∃o,σ[i]? = some o:=by
 have:=(QQ.mp h).1;exact⟨σ[i]'(by rw[r.len];exact this),Qd _⟩
theorem Qve{e:QZ}{i:Nat}(h:PE X e (Qfa i)):PE X e (tX .D X.K E (Qye i)):=PE.imp h λσ H Q ⟨F,δ,R,EX,r,hw,k,o⟩=>by
 unfold Qye at hw;split at hw
 ·rename_i d hd
  obtain⟨x,hx⟩:=r.lt hd;obtain⟨v,rfl,q⟩:=r.sl i _ _ hx hd;exact⟨v,hx,k d hw v H r (Kp.refl r) q⟩
 ·exact hw.elim
theorem QxO{e:QZ}{i:Nat}(h:PE X e (Qfa i)):PE X e (tX .P X.K E (dPk i)):=PE.imp h λσ H Q ⟨F,δ,R,EX,r,hw,k,o⟩=>by
 unfold dPk at hw;split at hw
 ·rename_i d hd
  obtain⟨x,hx⟩:=r.lt hd;obtain⟨v,rfl,q⟩:=r.sl i _ _ hx hd;exact⟨v,hx,k d hw v H r (Kp.refl r) (.inl q)⟩
 ·rename_i d hd
  obtain⟨x,hx⟩:=r.lt hd;obtain⟨l,xs,rfl,e,q,_⟩:=r.sl i _ _ hx hd;exact⟨_,hx,k _ hw _ H r (Kp.refl r) (.inr ⟨l,xs,d,rfl,rfl,r.own_pot hd hx,e,q⟩)⟩
 ·rename_i d hd
  obtain⟨x,hx⟩:=r.lt hd;obtain⟨l,xs,rfl,e,q,ys,f,f2⟩:=r.sl i _ _ hx hd;refine⟨_,hx,k _ hw _ H r (Kp.refl r) (.inr ⟨l,xs,d,rfl,rfl,?_,e,q⟩)⟩;rintro⟨j,j1,j2⟩;obtain⟨p,m,e1,_,w⟩:=r.sl j _ _ j1 j2;cases e1;rcases w with w | w
  ·exact f2 w
  ·rw[w] at f;cases f
 ·exact hw.elim
theorem QxS{e:QZ}{v:V}{d:Qa}(h:PE X e (tC v))(q:∀(A:Addr->Prop)(H:Hp),DA A H v d):PE X e (tX .D X.K E (dC d)):=PE.imp h λσ H Q ⟨F,δ,R,EX,r,hw,k,o⟩=>k d hw v H r (Kp.refl r) (q _ _)
theorem Qvk{i:Int}{j pos}:PE X (.Constant (.int i) j pos) (tX .D X.K E (dC (.int i))):=QxS YA λ_ _=>.int i
theorem QxT{b:Bool}{j pos}:PE X (.Constant (.bool b) j pos) (tX .D X.K E (dC (.bool b))):=QxS Qva λ_ _=>.bl b
def OpD(r:R2)(rD:Qa->Qa->(Qa->Prop)->Prop):Prop:=∀(A P:Addr->Prop)(H:Hp)(x y:V)(d1 d2:Qa)(R:Qa->Prop)(Q:VK),QcH H->(∀a,A a->∃xs,H a=some (.lst xs))->DP A P H x d1->DP A P H y d2->rD d1 d2 R ->
 (∀d,R d->∀v H',Same H H'->DA A H' v d->FrV H H' v->Q v H')->r x y H Q
def QwU(r:R2)(rD:Qa->Qa->(Qa->Prop)->Prop):Prop:=∀(A P:Addr->Prop)(H:Hp)(x y:V)(d1 d2:Qa)(R:Qa->Prop)(Q:VK),QcH H->(∀a,A a->∃xs,H a=some (.lst xs))->DP A P H x d1->DP A P H y d2->rD d1 d2 R ->
 (∀d,R d->∀v H',Same H H'->DA A H' v d->Q v H')->r x y H Q
def dOp(rD:Qa->Qa->(Qa->Prop)->Prop)(wa wb:DE):DE:=λδ Q EX=>wa δ (λd1=>wb δ (λd2=>rD d1 d2 Q) EX) EX
theorem QiT{K:PySem.W.Frag}{r:R2}{rD:Qa->Qa->(Qa->Prop)->Prop}{wa wb:DE}(hd:OpD r rD)(σ:L2.St)(H:Hp)(Q:VK)(h:tX .F K E (dOp rD wa wb) σ H Q) :
  tOp (λx y H Q=>QcH H->r x y H Q) (tX .P K E wa) (tX .P K E wb) σ H Q:=by
 obtain⟨F,δ,R,EX,rel,hw,k,o⟩:=h;refine⟨F,δ,_,EX,rel,hw,λd1 h1 x H1 rel1 kp1 x1=>⟨F,δ,_,EX,rel1,h1,λd2 h2 y H2 rel2 kp2 y2=>λln=>?_,o⟩,o⟩;refine hd (Av F σ δ) (Yj σ δ) H2 x y d1 d2 R Q ln (λa ha=>rel2.isl ha) (kp2.dp x1) y2 h2 λd hR v H' s q f=>?_
 refine k d hR v H' (rel2.same s) ((kp1.trans kp2).trans (Kp.same rel2 s)) ⟨q,λl e1 e2=>?_⟩;have f2:=f l e1 e2;cases e:H l with
 |none=>rfl
 |some ob=>
  by_cases z:Yj σ δ l
  ·obtain⟨n,en⟩:=kp2.2 l z;rw[en] at f2;cases f2
  ·rw[(kp1.trans kp2).1 _ _ z e] at f2;cases f2
theorem Qo1{K:PySem.W.Frag}{r:R2}{rD:Qa->Qa->(Qa->Prop)->Prop}{wa wb:DE}(hd:QwU r rD)(σ:L2.St)(H:Hp)(Q:VK)(h:tX .D K E (dOp rD wa wb) σ H Q) :
  tOp (λx y H Q=>QcH H->r x y H Q) (tX .P K E wa) (tX .P K E wb) σ H Q:=by
 obtain⟨F,δ,R,EX,rel,hw,k,o⟩:=h;refine⟨F,δ,_,EX,rel,hw,λd1 h1 x H1 rel1 kp1 x1=>⟨F,δ,_,EX,rel1,h1,λd2 h2 y H2 rel2 kp2 y2=>λln=>?_,o⟩,o⟩;refine hd (Av F σ δ) (Yj σ δ) H2 x y d1 d2 R Q ln (λa ha=>rel2.isl ha) (kp2.dp x1) y2 h2 λd hR v H' s q=>?_
 exact k d hR v H' (rel2.same s) ((kp1.trans kp2).trans (Kp.same rel2 s)) q
variable{a b:QZ}{wa wb:DE}{pos:Pos}{r:R2}{rD:Qa->Qa->(Qa->Prop)->Prop}
theorem Qvm{op:QnZ}(ho:OpR X (binaryOp op) r)(hd:OpD r rD)(ha:PE X a (tX .P X.K E wa))(hb:PE X b (tX .P X.K E wb)):PE X (.BinOp a op b pos) (tX .F X.K E (dOp rD wa wb)):=PE.imp (Qbf (OpR.len ho) ha hb) (QiT hd)
theorem Qvl{op:QfV}(ho:OpR X (compareOp op) r)(hd:OpD r rD)(ha:PE X a (tX .P X.K E wa))(hb:PE X b (tX .P X.K E wb))(hm:behindInMarks op b=false):PE X (.Compare a [op] [b] pos) (tX .F X.K E (dOp rD wa wb)):=PE.imp (Qdz (OpR.len ho) ha hb hm) (QiT hd)
theorem QxQ{r:R2}{rD:Qa->Qa->(Qa->Prop)->Prop}(ho:IxR X r)(hd:QwU r rD)(ha:PE X a (tX .P X.K E wa))(hb:PE X b (tX .P X.K E wb))(hs:Qjj b):PE X (.Subscript a b pos) (tX .D X.K E (dOp rD wa wb)):=PE.imp (QlY (IxR.len ho) ha hb hs) (Qo1 hd)
def dTst(w:DE):DT:=λδ Q EX=>w δ (λd=>match d with
 |.bool k=>Q k
 |_=>False) EX
theorem QsH{op:QfV}(ho:OpR X (compareOp op) r)(hd:OpD r rD)(ha:PE X a (tX .P X.K E wa))(hb:PE X b (tX .P X.K E wb))(hm:behindInMarks op b=false):PT X (.Compare a [op] [b] pos) (tT X.K E (dTst (dOp rD wa wb))):=by
 refine PT.imp (QbQ (OpR.len ho) ha hb hm) λσ H Q ⟨F,δ,R,EX,rel,hw,k,o⟩=>?_
 refine QiT hd σ H (λx H'=>∃k,x=.bl k/\Q k H') ⟨F,δ,_,EX,rel,hw,λd hd2 v H' rel' kp vk=>?_,o⟩;split at hd2
 ·rename_i b
  have:v=.bl b:=by cases vk.1;rfl
  exact⟨b,this,k b hd2 H' rel' kp⟩
 ·exact hd2.elim
theorem QsF{e:QZ}{w:DE}(h:PE X e (tX .P X.K E w))(he:∀whole,isTrue e X.env whole=(do let v <- whole;standAt e.pos;holding [v] (truthy v)):=by intro _;rfl):PT X e (tT X.K E (dTst w)):=by
 refine PT.imp (Qhn h he) λσ H Q ⟨F,δ,R,EX,rel,hw,k,o⟩=>?_
 refine⟨F,δ,_,EX,rel,hw,λd hd v H' rel' kp vk=>?_,o⟩;split at hd
 ·exact⟨_,DP.bool vk,k _ hd H' rel' kp⟩
 ·exact hd.elim
def QyS(wa wb:DT):DT:=λδ Q EX=>wa δ (λc=>if c=true then wb δ Q EX else Q false) EX
def dOr(wa wb:DT):DT:=λδ Q EX=>wa δ (λc=>if c=true then Q true else wb δ Q EX) EX
def QyM(wa:DT):DT:=λδ Q EX=>wa δ (λc=>Q (!c)) EX
theorem Qc4{c:Prop}[Decidable c]{p q p' q':Prop}(h:if c then p else q)(h1:p->p')(h2:q->q'):if c then p' else q':=by
 split at h
 ·rw[if_pos (by assumption)];exact h1 h
 ·rw[if_neg (by assumption)];exact h2 h
variable{rest:List QZ}{ta tb:DT}
theorem QoG(ha:PT X a (tT X.K E ta)):PW X (.BoolOp .And [a] pos) (tT X.K E ta):=QlS ha
theorem QsD(ha:PT X a (tT X.K E ta)):PW X (.BoolOp .Or [a] pos) (tT X.K E ta):=Qrc ha
theorem QsE(ha:PT X a (tT X.K E ta))(hb:PW X (.BoolOp .And (b::rest) pos) (tT X.K E tb)):PW X (.BoolOp .And (a::b::rest) pos) (tT X.K E (QyS ta tb)):=by
 refine PW.imp (Qrd ha hb) λσ H Q ⟨F,δ,R,EX,rel,hw,k,o⟩=>?_
 refine⟨F,δ,_,EX,rel,hw,λc hc H' rel' kp=>?_,o⟩;exact Qc4 hc (λz=>⟨F,δ,R,EX,rel',z,λc hc H2 rel2 kp2=>k c hc H2 rel2 (kp.trans kp2),o⟩) λz=>k _ z H' rel' kp
theorem Qvb(ha:PT X a (tT X.K E ta))(hb:PW X (.BoolOp .Or (b::rest) pos) (tT X.K E tb)):PW X (.BoolOp .Or (a::b::rest) pos) (tT X.K E (dOr ta tb)):=by
 refine PW.imp (Qu3 ha hb) λσ H Q ⟨F,δ,R,EX,rel,hw,k,o⟩=>?_
 refine⟨F,δ,_,EX,rel,hw,λc hc H' rel' kp=>?_,o⟩;exact Qc4 hc (λz=>k _ z H' rel' kp) (λz=>⟨F,δ,R,EX,rel',z,λc hc H2 rel2 kp2=>k c hc H2 rel2 (kp.trans kp2),o⟩)
theorem QsG(ha:PT X a (tT X.K E ta)):PT X (.UnaryOp .Not a pos) (tT X.K E (QyM ta)):=by
 refine PT.imp (Qu4 ha) λσ H Q ⟨F,δ,R,EX,rel,hw,k,o⟩=>?_
 exact⟨F,δ,_,EX,rel,hw,λc hc H' rel' kp=>k _ hc H' rel' kp,o⟩
def Qwm(wa wb:DE):DE:=λδ Q EX=>wa δ (λd=>match d with
 |.bool c=>if c=true then wb δ Q EX else Q (.bool false)
 |_=>False) EX
def QyL(wa wb:DE):DE:=λδ Q EX=>wa δ (λd=>match d with
 |.bool c=>if c=true then Q (.bool true) else wb δ Q EX
 |_=>False) EX
def Qwj(wa:DE):DE:=λδ Q EX=>wa δ (λd=>match d with
 |.bool c=>Q (.bool (!c))
 |_=>False) EX
theorem Qvg{op}{w:DE}(h:PE X a (tX .D X.K E w)):PE X (.BoolOp op [a] pos) (tX .D X.K E w):=Qfx h
theorem Qvn(ha:PE X a (tX .P X.K E wa))(hb:PE X (.BoolOp .And (b::rest) pos) (tX .D X.K E wb)):PE X (.BoolOp .And (a::b::rest) pos) (tX .D X.K E (Qwm wa wb)):=by
 refine PE.imp (Qfy ha hb) λσ H Q ⟨F,δ,R,EX,rel,hw,k,o⟩=>?_
 refine⟨F,δ,_,EX,rel,hw,λd hd v H' rel' kp vk=>?_,o⟩;split at hd
 ·exact⟨_,DP.bool vk,Qc4 hd (λz=>⟨F,δ,R,EX,rel',z,λd hd v H2 rel2 kp2=>k d hd v H2 rel2 (kp.trans kp2),o⟩) λz=>k _ z _ H' rel' kp (.bl _)⟩
 ·exact hd.elim
theorem QxP(ha:PE X a (tX .P X.K E wa))(hb:PE X (.BoolOp .Or (b::rest) pos) (tX .D X.K E wb)):PE X (.BoolOp .Or (a::b::rest) pos) (tX .D X.K E (QyL wa wb)):=by
 refine PE.imp (QxM ha hb) λσ H Q ⟨F,δ,R,EX,rel,hw,k,o⟩=>?_
 refine⟨F,δ,_,EX,rel,hw,λd hd v H' rel' kp vk=>?_,o⟩;split at hd
 ·exact⟨_,DP.bool vk,Qc4 hd (λz=>k _ z _ H' rel' kp (.bl _)) (λz=>⟨F,δ,R,EX,rel',z,λd hd v H2 rel2 kp2=>k d hd v H2 rel2 (kp.trans kp2),o⟩)⟩
 ·exact hd.elim
theorem Qvh(ha:PE X a (tX .P X.K E wa)):PE X (.UnaryOp .Not a pos) (tX .D X.K E (Qwj wa)):=by
 refine PE.imp (Qrg ha) λσ H Q ⟨F,δ,R,EX,rel,hw,k,o⟩=>?_
 refine⟨F,δ,_,EX,rel,hw,λd hd v H' rel' kp vk=>?_,o⟩;split at hd
 ·exact⟨_,DP.bool vk,k _ hd _ H' rel' kp (.bl _)⟩
 ·exact hd.elim
end
theorem QdU{A:Addr->Prop}{H H':Hp}{l:Addr}{xs:List V}{ds:List Qa}(dm:∀a,A a->∃xs,H a=some (.lst xs))(s:Same H H')(n:H l=none)(e:H' l=some (.lst xs))(q:DAs A H xs ds):DA A H' (.ref l) (.list ds):=
 .lst (λz=>by obtain⟨ys,e'⟩:=dm l z;rw[n] at e';cases e') e (q.same s)
theorem Qg9{A:Addr->Prop}{H H':Hp}{l:Addr}{xs:List V}{ds:List Qa}(dm:∀a,A a->∃xs,H a=some (.lst xs))(s:Same H H')(e:H' l=some (.tup xs))(q:DAs A H xs ds):DA A H' (.ref l) (.tuple ds):=
 .tup (λz=>by obtain⟨ys,e'⟩:=dm l z;rw[s _ _ e'] at e;cases e) e (q.same s)
theorem Qay{H H':Hp}{l:Addr}(n:H l=none):FrV H H' (.ref l):=λl' e _=>by cases e;exact n
theorem QeQ{H H':Hp}{l:Addr}{xs:List V}(e:H' l=some (.tup xs)):FrV H H' (.ref l):=λl' e1 ⟨ys,e2⟩=>by cases e1;rw[e] at e2;cases e2
theorem Qae{H H':Hp}{i:Int}:FrV H H' (.int i):=λl' e _=>by cases e
theorem QaQ{H H':Hp}{i:Bool}:FrV H H' (.bl i):=λl' e _=>by cases e
theorem Qtx{H H':Hp}:FrV H H' .non:=λl' e _=>by cases e
theorem DAs.rep{A:Addr->Prop}{H:Hp}{xs:List V}{ds:List Qa}(q:DAs A H xs ds):∀k:Nat,DAs A H (JC k xs).flatten (JC k ds).flatten
 |0=>.nil
 |k+1=>by rw[ZO,ZO,YO,YO];exact q.app (DAs.rep q k)
def Qzu:Qa->Qa->(Qa->Prop)->Prop
 |.int i,.int j,Q=>Q (.int (i+j))
 |.tuple a,.tuple b,Q=>a.length+b.length<=1000000/\Q (.tuple (a++b))
 |.list a,.list b,Q=>a.length+b.length<=1000000/\Q (.list (a++b))
 |_,_,_=>False
def iiD(C:Int->Int->Prop)(f:Int->Int->Qa):Qa->Qa->(Qa->Prop)->Prop
 |.int i,.int j,Q=>C i j/\Q (f i j)
 |_,_,_=>False
def ii0(f:Int->Int->Qa):Qa->Qa->(Qa->Prop)->Prop
 |.int i,.int j,Q=>Q (f i j)
 |_,_,_=>False
def Qzh:Qa->Qa->(Qa->Prop)->Prop
 |.int i,.int j,Q=>(CMul i j∨CMulB i j)/\Q (.int (i*j))
 |.list a,.int k,Q=>(k<1000000 /\ -1000000<k/\a.length*k.toNat<=1000000)/\Q (.list (JC k.toNat a).flatten)
 |_,_,_=>False
theorem QkM:1000000<=sizeLine:=by show 1000000<=2^24;decide
section
variable{X:Cx}{E:XK}
theorem Qrp{g:Int->Int->Int}:OpD (rI0 λi j=>.int (g i j)) (ii0 λi j=>.int (g i j)):=λA P H x y d1 d2 R Q ln dm hx hy h k=>by
 cases d1<;>cases d2<;>first | exact h.elim | skip
 rw[hx.int,hy.int];exact⟨_,_,rfl,rfl,k _ h _ H (Same.refl H) (.int _) Qae⟩
theorem QfD{g:Int->Int->Bool}:OpD (rI0 λi j=>.bl (g i j)) (ii0 λi j=>.bool (g i j)):=λA P H x y d1 d2 R Q ln dm hx hy h k=>by
 cases d1<;>cases d2<;>first | exact h.elim | skip
 rw[hx.int,hy.int];exact⟨_,_,rfl,rfl,k _ h _ H (Same.refl H) (.bl _) QaQ⟩
def rAdd:R2:=λx y H Q=>(rI0 (λi j=>.int (i+j)) x y H Q∨Qst x y H Q)∨QyA x y H Q
theorem Qcw:OpR X (binaryOp .Add) rAdd:=OpR.or2 (OpR.or2 QfB Qmb) Qvw
theorem QeE:OpD rAdd Qzu:=λA P H x y d1 d2 R Q ln dm hx hy h k=>by
 cases d1<;>cases d2<;>first | exact h.elim | skip
 ·rw[hx.int,hy.int];exact .inl (.inl ⟨_,_,rfl,rfl,k _ h _ H (Same.refl H) (.int _) Qae⟩)
 ·obtain⟨l1,xs,rfl,e1,q1⟩:=hx.list;obtain⟨l2,ys,rfl,e2,q2⟩:=hy.list;refine .inr ⟨l1,l2,xs,ys,rfl,rfl,e1,e2,Q4 (by rw[q1.length,q2.length];exact h.1) QkM,λp hp=>?_⟩;exact k _ h.2 _ _ (Jy hp) (QdU dm (Jy hp) hp Jp (q1.app q2)) (Qay hp)
 ·obtain⟨l1,xs,rfl,e1,q1⟩:=hx.tuple;obtain⟨l2,ys,rfl,e2,q2⟩:=hy.tuple;refine .inl (.inr ⟨l1,l2,xs,ys,rfl,rfl,e1,e2,Q4 (by rw[q1.length,q2.length];exact h.1) QkM,λp H' s e=>?_⟩);exact k _ h.2 _ _ s (Qg9 dm s e (q1.app q2)) (QeQ e)
def QuS:R2:=λx y H Q=>(rI CMul (λi j=>.int (i*j)) x y H Q∨rI CMulB (λi j=>.int (i*j)) x y H Q)∨Qyr x y H Q
theorem QsZ:OpR X (binaryOp .Mult) QuS:=OpR.or2 (OpR.or2 QfA Qs0) Qvp
theorem QvG:OpD QuS Qzh:=λA P H x y d1 d2 R Q ln dm hx hy h k=>by
 cases d1<;>cases d2<;>first | exact h.elim | skip
 ·rw[hx.int,hy.int];rcases h.1 with c | c
  ·exact .inl (.inl ⟨_,_,rfl,rfl,c,k _ h.2 _ H (Same.refl H) (.int _) Qae⟩)
  ·exact .inl (.inr ⟨_,_,rfl,rfl,c,k _ h.2 _ H (Same.refl H) (.int _) Qae⟩)
 ·obtain⟨l1,xs,rfl,e1,q1⟩:=hx.list;rw[hy.int];obtain⟨⟨h1,h2,h3⟩,h4⟩:=h;refine .inr ⟨l1,_,xs,rfl,rfl,e1,by omega,by omega,Q4 (by rw[q1.length];exact h3) QkM,λp hp=>?_⟩;exact k _ h4 _ _ (Jy hp) (QdU dm (Jy hp) hp Jp (q1.rep _)) (Qay hp)
def eqD:Qa->Qa->(Qa->Prop)->Prop
 |.int i,.int j,Q=>Q (.bool (decide (i=j)))
 |.bool i,.bool j,Q=>Q (.bool (decide (i=j)))
 |.str i,.str j,Q=>Q (.bool (decide (i=j)))
 |a,b,Q=>(nd a=true/\nd b=true/\(a.depth<=50∨b.depth<=50))/\Q (.bool (JB a b))
def neD:Qa->Qa->(Qa->Prop)->Prop
 |.int i,.int j,Q=>Q (.bool (!decide (i=j)))
 |.bool i,.bool j,Q=>Q (.bool (!decide (i=j)))
 |.str i,.str j,Q=>Q (.bool (!decide (i=j)))
 |a,b,Q=>(nd a=true/\nd b=true/\(a.depth<=50∨b.depth<=50))/\Q (.bool (!JB a b))
theorem QvJ{a b:Qa}(h:a.depth<=50∨b.depth<=50):min a.depth b.depth<=50:=by rcases h with h | h<;>omega
def Qyz(u:Nat):R2:=λx y H Q=>rEq x y H Q∨Qyy u x y H Q
def Qyt(u:Nat):R2:=λx y H Q=>rNe x y H Q∨Qys u x y H Q
theorem QeD:OpR X (compareOp .Eq) (Qyz X.A.units):=OpR.or2 Qvv QjG
theorem Qrm:OpR X (compareOp .NotEq) (Qyt X.A.units):=OpR.or2 QsY Qvq
theorem Qv9{i j:Int}:decide (V.int i=V.int j)=decide (i=j):=by
 by_cases h:i=j
 ·subst h;simp
 ·rw[decide_eq_false h,decide_eq_false (λz=>h (V.int.inj z))]
theorem Qwa{i j:Bool}:decide (V.bl i=V.bl j)=decide (i=j):=by
 by_cases h:i=j
 ·subst h;simp
 ·rw[decide_eq_false h,decide_eq_false (λz=>h (V.bl.inj z))]
theorem Qv8{i j:Str}:decide (V.str i=V.str j)=decide (i=j):=by
 by_cases h:i=j
 ·subst h;simp
 ·rw[decide_eq_false h,decide_eq_false (λz=>h (V.str.inj z))]
theorem QiV{u:Nat}(hu:u+60<cLine):OpD (Qyz u) eqD:=λA P H x y d1 d2 R Q ln dm hx hy h k=>by
 unfold eqD at h;split at h
 ·rw[hx.int,hy.int];exact .inl ⟨rfl,k (.bool (decide (V.int _=V.int _))) (by rw[Qv9];exact h) _ H (Same.refl H) (.bl _) QaQ⟩
 ·rw[hx.bool,hy.bool];exact .inl ⟨rfl,k (.bool (decide (V.bl _=V.bl _))) (by rw[Qwa];exact h) _ H (Same.refl H) (.bl _) QaQ⟩
 ·rw[hx.str.1,hy.str.1];exact .inl ⟨rfl,k (.bool (decide (V.str _=V.str _))) (by rw[Qv8];exact h) _ H (Same.refl H) (.bl _) QaQ⟩
 ·obtain⟨⟨n1,n2,dp⟩,hR⟩:=h;have:=QvJ dp;exact .inr ⟨_,_,hx.dat n1,hy.dat n2,by omega,k _ hR _ H (Same.refl H) (.bl _) QaQ⟩
theorem QvF{u:Nat}(hu:u+60<cLine):OpD (Qyt u) neD:=λA P H x y d1 d2 R Q ln dm hx hy h k=>by
 unfold neD at h;split at h
 ·rw[hx.int,hy.int];exact .inl ⟨rfl,k (.bool (!decide (V.int _=V.int _))) (by rw[Qv9];exact h) _ H (Same.refl H) (.bl _) QaQ⟩
 ·rw[hx.bool,hy.bool];exact .inl ⟨rfl,k (.bool (!decide (V.bl _=V.bl _))) (by rw[Qwa];exact h) _ H (Same.refl H) (.bl _) QaQ⟩
 ·rw[hx.str.1,hy.str.1];exact .inl ⟨rfl,k (.bool (!decide (V.str _=V.str _))) (by rw[Qv8];exact h) _ H (Same.refl H) (.bl _) QaQ⟩
 ·obtain⟨⟨n1,n2,dp⟩,hR⟩:=h;have:=QvJ dp;exact .inr ⟨_,_,hx.dat n1,hy.dat n2,by omega,k _ hR _ H (Same.refl H) (.bl _) QaQ⟩
def QuU(u:Nat)(neg:Bool):R2:=λx y H Q=>∃c ps ds d,y=.ref c/\H c=some (.lst ps)/\Dats H ps ds/\Dat H x d/\u+d.depth<cLine/\Q (.bl (if neg then !(ds.any λe=>JB e d) else ds.any λe=>JB e d)) H
theorem QkE:OpR X (compareOp .NotIn) (QuU X.A.in1.units true):=by
 intro pins s σ H x y v u Q I rx ry h;obtain⟨c,ps,ds,d,rfl,hc,qs,qx,hu,q⟩:=h;cases ry;obtain⟨⟨as,ra⟩,ca⟩:=Qas I.hok d x v qx rx;obtain⟨its,rv,pl,hz⟩:=I.list (SqL.of hc);obtain⟨⟨bs,rb⟩,cb⟩:=QaJ I.hok ds ps its qs rv;refine QnK (eqH s.heap d) pl.isList (λw hw=>Qi2 ra ca rb cb hu w (Qr0.mp hw)) ⟨.bl _,H,I,rfl,?_⟩;rw[show its.toArray.any (eqH s.heap d)=its.any (eqH s.heap d) by simp,Qji rb cb];exact q
def inD(neg:Bool)(d:Qa):Qa->(Qa->Prop)->Prop
 |.list ds,Q=>(nds ds=true/\nd d=true/\d.depth<=50)/\Q (.bool (if neg then !(ds.any λe=>JB e d) else ds.any λe=>JB e d))
 |.tuple ds,Q=>(nds ds=true/\nd d=true/\d.depth<=50)/\Q (.bool (if neg then !(ds.any λe=>JB e d) else ds.any λe=>JB e d))
 |_,_=>False
def Qyx(u:Nat)(neg:Bool):R2:=λx y H Q=>Qyw u neg x y H Q∨QuU u neg x y H Q
theorem Qma:OpR X (compareOp .NotIn) (Qyx X.A.in1.units true):=OpR.or2 Ql8 QkE
theorem QxX{u:Nat}{neg:Bool}(hu:u+60<cLine):OpD (Qyx u neg) (inD neg):=λA P H x y d1 d2 R Q ln dm hx hy h k=>by
 cases d2<;>first | exact h.elim | skip
 ·obtain⟨l,xs,rfl,e,q⟩:=hy.list;obtain⟨⟨n1,n2,n3⟩,hR⟩:=h;exact .inr ⟨l,xs,_,d1,rfl,e,Qch _ _ n1 q,hx.dat n2,by omega,k _ hR _ H (Same.refl H) (.bl _) QaQ⟩
 ·obtain⟨l,xs,rfl,e,q⟩:=hy.tuple;obtain⟨⟨n1,n2,n3⟩,hR⟩:=h;exact .inl ⟨l,xs,_,d1,rfl,e,Qch _ _ n1 q,hx.dat n2,by omega,k _ hR _ H (Same.refl H) (.bl _) QaQ⟩
def ixD:Qa->Qa->(Qa->Prop)->Prop
 |.list ds,.int i,Q=>∃d,atI ds i=some d/\Q d
 |.tuple ds,.int i,Q=>∃d,atI ds i=some d/\Q d
 |_,_,_=>False
theorem QrO{A:Addr->Prop}{H:Hp}{xs:List V}{ds:List Qa}{i:Int}{d:Qa}(q:DAs A H xs ds)(h:atI ds i=some d):∃v,atI xs i=some v/\DA A H v d:=by
 unfold atI at h ⊢;rw[q.length];cases e:ixN ds.length i with
 |none=>rw[e] at h;cases h
 |some j=>
  rw[e] at h;exact q.get j d h
def Qyv(K:PySem.W.Frag):R2:=λx y H Q=>Qyu K x y H Q∨QxB K x y H Q
theorem QeK:IxR X (Qyv X.K):=IxR.or2 Qgp Qrs
theorem QiU{K:PySem.W.Frag}:QwU (Qyv K) ixD:=λA P H x y d1 d2 R Q ln dm hx hy h k=>by
 cases d1<;>cases d2<;>first | exact h.elim | skip
 ·obtain⟨l,xs,rfl,e,q⟩:=hx.list;obtain⟨d,hd,hR⟩:=h;obtain⟨v,hv,dv⟩:=QrO q hd;rw[hy.int];exact .inl ⟨l,xs,_,v,rfl,rfl,SqL.of e,hv,k d hR v H (Same.refl H) dv⟩
 ·obtain⟨l,xs,rfl,e,q⟩:=hx.tuple;obtain⟨d,hd,hR⟩:=h;obtain⟨v,hv,dv⟩:=QrO q hd;rw[hy.int];exact .inr ⟨l,xs,_,v,rfl,rfl,SqT.of e,hv,k d hR v H (Same.refl H) dv⟩
def dUn(rD:Qa->(Qa->Prop)->Prop)(wa:DE):DE:=λδ Q EX=>wa δ (λd=>rD d Q) EX
def QyD:Qa->(Qa->Prop)->Prop
 |.int i,Q=>Q (.int (-i))
 |_,_=>False
variable{a b c:QZ}{wa wb wc:DE}{pos:Pos}
theorem Qvi(ha:PE X a (tX .P X.K E wa)):PE X (.UnaryOp .USub a pos) (tX .F X.K E (dUn QyD wa)):=by
 refine PE.imp (QxL Qun ha) λσ H Q ⟨F,δ,R,EX,rel,hw,k,o⟩=>?_
 refine⟨F,δ,_,EX,rel,hw,λd hd v H' rel' kp vk=>?_,o⟩;cases d<;>first | exact(show False from hd).elim | skip
 exact⟨_,DP.int vk,k _ hd _ H' rel' kp ⟨.int _,Qae⟩⟩
def dCh(p q:Int->Int->Bool)(wa wb wc:DE):DE:=λδ Q EX=>wa δ (λx=>wb δ (λy=>match x,y with
 |.int i,.int j=>if p i j=true then wc δ (λz=>match z with
  |.int k=>Q (.bool (q j k))
  |_=>False) EX else Q (.bool false)
 |_,_=>False) EX) EX
theorem Qnk{K:PySem.W.Frag}{p q:Int->Int->Bool}(σ:L2.St)(H:Hp)(Q:VK)(h:tX .F K E (dCh p q wa wb wc) σ H Q) :
  Qlp (rI0 λi j=>.bl (p i j)) (rI0 λi j=>.bl (q i j)) (tX .P K E wa) (tX .P K E wb) (tX .P K E wc) σ H Q:=by
 obtain⟨F,δ,R,EX,rel,hw,k,o⟩:=h;refine⟨F,δ,_,EX,rel,hw,λd1 h1 x H1 rel1 kp1 x1=>⟨F,δ,_,EX,rel1,h1,λd2 h2 y H2 rel2 kp2 y2=>?_,o⟩,o⟩;cases d1<;>cases d2<;>first | exact(show False from h2).elim | skip
 rw[DP.int x1,DP.int y2];refine⟨_,_,rfl,rfl,_,rfl,Qc4 h2 (λz=>⟨F,δ,_,EX,rel2,z,λd3 h3 v H3 rel3 kp3 v3=>?_,o⟩) λz=>k _ z _ H2 rel2 (kp1.trans kp2) ⟨.bl _,QaQ⟩⟩;cases d3<;>first | exact(show False from h3).elim | skip
 rw[DP.int v3];exact⟨_,_,rfl,rfl,k _ h3 _ H3 rel3 ((kp1.trans kp2).trans kp3) ⟨.bl _,QaQ⟩⟩
theorem QxR{op op':QfV}{p q:Int->Int->Bool}(ho:OpR X (compareOp op) (rI0 λi j=>.bl (p i j)))(ho':OpR X (compareOp op') (rI0 λi j=>.bl (q i j)))(ha:PE X a (tX .P X.K E wa))(hb:PE X b (tX .P X.K E wb))(hc:PE X c (tX .P X.K E wc))(hm:lastMarks [op,op'] [b,c]=false:=by with_unfolding_all rfl) :
  PE X (.Compare a [op,op'] [b,c] pos) (tX .F X.K E (dCh p q wa wb wc)):=PE.imp (QoF ho ho' ha hb hc (hm:=hm)) Qnk
theorem Qvc{op op':QfV}{p q:Int->Int->Bool}(ho:OpR X (compareOp op) (rI0 λi j=>.bl (p i j)))(ho':OpR X (compareOp op') (rI0 λi j=>.bl (q i j)))(ha:PE X a (tX .P X.K E wa))(hb:PE X b (tX .P X.K E wb))(hc:PE X c (tX .P X.K E wc))(hm:lastMarks [op,op'] [b,c]=false:=by with_unfolding_all rfl) :
  PT X (.Compare a [op,op'] [b,c] pos) (tT X.K E (dTst (dCh p q wa wb wc))):=by
 refine PT.imp (Qoy ho ho' ha hb hc (hm:=hm)) λσ H Q ⟨F,δ,R,EX,rel,hw,k,o⟩=>?_
 refine Qnk σ H (λx H'=>∃k,x=.bl k/\Q k H') ⟨F,δ,_,EX,rel,hw,λd hd2 v H' rel' kp vk=>?_,o⟩;split at hd2
 ·rename_i b
  have:v=.bl b:=by cases vk.1;rfl
  exact⟨b,this,k b hd2 H' rel' kp⟩
 ·exact hd2.elim
def QyN:DAr:=λ_ Q _=>Q []
def Qne(we:DE)(wr:DAr):DAr:=λδ Q EX=>we δ (λd=>wr δ (λds=>Q (d::ds)) EX) EX
theorem QsQ{m:Md}:PA X [] (tAr 0 m X.K E QyN):=PA.imp JN λσ H Q ⟨F,δ,R,EX,rel,hw,k,o⟩=>k [] hw rfl [] H rel (Kp.refl rel) .nil
theorem Qnz{n:Nat}{m:Md}{K:PySem.W.Frag}{we:DE}{wr:DAr}(hm:∀{F:Fm}{σ:L2.St}{δ:Sts}{H H':Hp}{v:V}{d:Qa},Vok m F σ δ H H' v d->VD m (Av F σ δ) (Yj σ δ) H' v d)(σ:L2.St)(H:Hp)(Q:List V->Hp->Prop)(h:tAr (n+1) m K E (Qne we wr) σ H Q):Qd4 (tX m K E we) (tAr n m K E wr) σ H Q:=by
 obtain⟨F,δ,R,EX,rel,hw,k,o⟩:=h;refine⟨F,δ,_,EX,rel,hw,λd hd v H' rel' kp vk=>⟨F,δ,_,EX,rel',hd,λds hds hl vs H2 rel2 kp2 vks=>?_,o⟩,o⟩;exact k _ hds (by rw[Qr,hl]) (v::vs) H2 rel2 (kp.trans kp2) (.cons (kp2.vd (hm vk)) vks)
theorem Ql3{n:Nat}{e:QZ}{es:List QZ}{we:DE}{wr:DAr}(he:PE X e (tX .D X.K E we))(hr:PA X es (tAr n .D X.K E wr))(hs:notStar e=true:=by rfl):PA X (e::es) (tAr (n+1) .D X.K E (Qne we wr)):=PA.imp (Qfc he hr hs) (Qnz λh=>h)
theorem Ql2{n:Nat}{e:QZ}{es:List QZ}{we:DE}{wr:DAr}(he:PE X e (tX .P X.K E we))(hr:PA X es (tAr n .P X.K E wr))(hs:notStar e=true:=by rfl):PA X (e::es) (tAr (n+1) .P X.K E (Qne we wr)):=PA.imp (Qfc he hr hs) (Qnz λh=>h)
theorem QdA{A P:Addr->Prop}{H:Hp}:∀{vs:List V}{ds:List Qa},Qam (VD .D A P H) vs ds->DAs A H vs ds
 |_,_,.nil=>.nil
 |_,_,.cons a b=>.cons a (QdA b)
def QyI(w:DAr):DE:=λδ Q EX=>w δ (λds=>Q (.tuple ds)) EX
def QyO(w:DAr):DE:=λδ Q EX=>w δ (λds=>Q (.list ds)) EX
theorem Qvf{n:Nat}{es:List QZ}{w:DAr}{x1}(h:PA X es (tAr n .D X.K E w))(hn:n<=1000:=by decide):PE X (.Tuple es x1 pos) (tX .F X.K E (QyI w)):=by
 refine PE.imp (QiO h) λσ H Q ⟨F,δ,R,EX,rel,hw,k,o⟩=>?_
 refine⟨F,δ,_,EX,rel,hw,λds hds hl vs H' rel' kp q=>?_,o⟩;have q':=QdA q;refine⟨by rw[q'.length,hl];exact hn,λa H2 s n e=>k _ hds _ H2 (rel'.same s) (kp.trans (Kp.same rel' s)) ⟨Qg9 (λa ha=>rel'.isl ha) s e q',QeQ e⟩⟩
theorem QbT{σ:L2.St}{δ:Sts}{H H':Hp}{l:Addr}(k:Kp σ δ H H')(n:H' l=none):H l=none:=by
 cases e:H l with
 |none=>rfl
 |some ob=>
  by_cases z:Yj σ δ l
  ·obtain⟨m,em⟩:=k.2 l z;rw[em] at n;cases n
  ·rw[k.1 _ _ z e] at n;cases n
theorem Qvj{n:Nat}{es:List QZ}{w:DAr}(h:PA X es (tAr n .D X.K E w))(hn:n<=1000:=by decide):PE X (.List es pos) (tX .F X.K E (QyO w)):=by
 refine PE.imp (QiP h) λσ H Q ⟨F,δ,R,EX,rel,hw,k,o⟩=>?_
 refine⟨F,δ,_,EX,rel,hw,λds hds hl vs H' rel' kp q=>?_,o⟩;have q':=QdA q;refine⟨by rw[q'.length,hl];exact hn,λa H2 s n e=>k _ hds _ H2 (rel'.same s) (kp.trans (Kp.same rel' s)) ⟨QdU (λa ha=>rel'.isl ha) s n e q',Qay (QbT kp n)⟩⟩
def Qde(r:List V->Hp->VK->Prop)(rD:List Qa->(Qa->Prop)->Prop):Prop:=∀(A P:Addr->Prop)(H:Hp)(vs:List V)(ds:List Qa)(R:Qa->Prop)(Q:VK),QcH H->(∀a,A a->∃xs,H a=some (.lst xs))->Qam (DP A P H) vs ds->rD ds R ->
 (∀d,R d->∀v H',Same H H'->DA A H' v d->FrV H H' v->Q v H')->r vs H Q
def dCB(rD:List Qa->(Qa->Prop)->Prop)(wa:DAr):DE:=λδ Q EX=>wa δ (λds=>rD ds Q) EX
theorem Qnm{n:Nat}{K:PySem.W.Frag}{r:List V->Hp->VK->Prop}{rD:List Qa->(Qa->Prop)->Prop}{wa:DAr}(hd:Qde r rD)(σ:L2.St)(H:Hp)(Q:VK)(h:tX .F K E (dCB rD wa) σ H Q) :
  tCB (λxs H Q=>QcH H->r xs H Q) (tAr n .P K E wa) σ H Q:=by
 obtain⟨F,δ,R,EX,rel,hw,k,o⟩:=h;refine⟨F,δ,_,EX,rel,hw,λds hds hl vs H' rel' kp q ln=>?_,o⟩;refine hd (Av F σ δ) (Yj σ δ) H' vs ds R Q ln (λa ha=>rel'.isl ha) q hds λd hR v H2 s dv fr=>?_
 exact k d hR v H2 (rel'.same s) (kp.trans (Kp.same rel' s)) ⟨dv,λl e1 e2=>QbT kp (fr l e1 e2)⟩
variable{x:Str}{bid T:String}{p:Pos}{e:QZ}{es:List QZ}{n:Nat}{wr:DAr}{r:List V->Hp->VK->Prop}{rD:List Qa->(Qa->Prop)->Prop}
theorem QoX(hc:CallR X (.builtin bid) r)(hd:Qde r rD)(hg:Gl X x)(hm:X.mg x=none)(hv:bootBuiltins x=some (.builtin bid))(ha:PA X (e::es) (tAr n .P X.K E wr))(hn:x ≠ "__name__" := by decide)(hdb:(x == ("__debug__" : Str))=false:=by decide)
  (he:starEach (e::es) X.env=(false,eval e X.env)::starEach es X.env:=by rfl)(hpl:(backTo pos (starEach es X.env)).any (·.1)=false:=by rfl):PE X (.Call (.Name x p) (e::es) [] pos) (tX .F X.K E (dCB rD wr)):=
 PE.imp (Zo (CallR.len hc) hg hm hv ha hn hdb he hpl) (Qnm hd)
theorem Ql4(hc:CallR X (.type T) r)(hd:Qde r rD)(hg:Gl X x)(hm:X.mg x=none)(hv:bootBuiltins x=some (.type T))(ha:PA X (e::es) (tAr n .P X.K E wr))(hn:x ≠ "__name__" := by decide)(hdb:(x == ("__debug__" : Str))=false:=by decide)
  (he:starEach (e::es) X.env=(false,eval e X.env)::starEach es X.env:=by rfl)(hpl:(backTo pos (starEach es X.env)).any (·.1)=false:=by rfl):PE X (.Call (.Name x p) (e::es) [] pos) (tX .F X.K E (dCB rD wr)):=
 PE.imp (Qhq (CallR.len hc) hg hm hv ha hn hdb he hpl) (Qnm hd)
theorem pd1{A P:Addr->Prop}{H:Hp}{vs:List V}{d:Qa}(q:Qam (DP A P H) vs [d]):∃v,vs=[v]/\DP A P H v d:=by
 cases q with
 |cons a b=>cases b;exact⟨_,rfl,a⟩
theorem pd2{A P:Addr->Prop}{H:Hp}{vs:List V}{d d':Qa}(q:Qam (DP A P H) vs [d,d']):∃v v',vs=[v,v']/\DP A P H v d/\DP A P H v' d':=by
 cases q with
 |cons a b=>cases b with | cons b c=>cases c;exact⟨_,_,rfl,a,b⟩
def QyE:List Qa->(Qa->Prop)->Prop
 |[.list ds],Q=>Q (.int ds.length)
 |[.tuple ds],Q=>Q (.int ds.length)
 |_,_=>False
theorem QfM{K:PySem.W.Frag}:Qde (QuT K) QyE:=λA P H vs ds R Q ln dm q h k=>by
 unfold QyE at h;split at h
 ·obtain⟨v,rfl,hv⟩:=pd1 q;obtain⟨l,xs,rfl,e,qq⟩:=hv.list;exact⟨l,xs,rfl,.inl (SqL.of e),by rw[qq.length];exact k _ h _ H (Same.refl H) (.int _) Qae⟩
 ·obtain⟨v,rfl,hv⟩:=pd1 q;obtain⟨l,xs,rfl,e,qq⟩:=hv.tuple;exact⟨l,xs,rfl,.inr (SqT.of e),by rw[qq.length];exact k _ h _ H (Same.refl H) (.int _) Qae⟩
 ·exact h.elim
theorem Qbg:CallR X (.builtin "len") (QuT X.K):=Y2
def Qth:List Qa->(Qa->Prop)->Prop
 |[.int i,.int j],Q=>Q (.int (if j<i then j else i))
 |_,_=>False
def QvK:List Qa->(Qa->Prop)->Prop
 |[.int i,.int j],Q=>Q (.int (if j > i then j else i))
 |_,_=>False
theorem Qnl:Qde (λxs H Q=>∃i j,xs=[.int i,.int j]/\Q (.int (if j<i then j else i)) H) Qth:=λA P H vs ds R Q ln dm q h k=>by
 unfold Qth at h;split at h
 ·obtain⟨v,v',rfl,h1,h2⟩:=pd2 q;rw[h1.int,h2.int];exact⟨_,_,rfl,k _ h _ H (Same.refl H) (.int _) Qae⟩
 ·exact h.elim
theorem QtQ:Qde (λxs H Q=>∃i j,xs=[.int i,.int j]/\Q (.int (if j > i then j else i)) H) QvK:=λA P H vs ds R Q ln dm q h k=>by
 unfold QvK at h;split at h
 ·obtain⟨v,v',rfl,h1,h2⟩:=pd2 q;rw[h1.int,h2.int];exact⟨_,_,rfl,k _ h _ H (Same.refl H) (.int _) Qae⟩
 ·exact h.elim
def QcG:List Qa->Option (List Bool)
 |[]=>some []
 |.bool b::ds=>(QcG ds).map (b::·)
 |_::_=>none
def Qct:List Qa->Option (List Int)
 |[]=>some []
 |.int b::ds=>(Qct ds).map (b::·)
 |_::_=>none
theorem Qns(bs:List Bool):QcG (bs.map Yx)=some bs:=by
 induction bs with
 |nil=>rfl
 |cons b bs ih=>rw[Q7,QcG,ih];rfl
theorem ints_map(bs:List Int):Qct (bs.map Qk)=some bs:=by
 induction bs with
 |nil=>rfl
 |cons b bs ih=>rw[Q7,Qct,ih];rfl
theorem bools_eq:∀{ds:List Qa}{bs:List Bool},QcG ds=some bs->ds=bs.map Yx
 |[],bs,h=>by cases h;rfl
 |d::ds,bs,h=>by
  cases d<;>first | (unfold QcG at h;cases h;done) | skip
  rw[QcG] at h;obtain⟨cs,h1,rfl⟩:=Yg.mp h;rw[bools_eq h1];rfl
theorem Qi6:∀{ds:List Qa}{bs:List Int},Qct ds=some bs->ds=bs.map Qk
 |[],bs,h=>by cases h;rfl
 |d::ds,bs,h=>by
  cases d<;>first | (unfold Qct at h;cases h;done) | skip
  rw[Qct] at h;obtain⟨cs,h1,rfl⟩:=Yg.mp h;rw[Qi6 h1];rfl
theorem QhL{A:Addr->Prop}{H:Hp}:∀{bs:List Bool}{xs:List V},DAs A H xs (bs.map Yx)->xs=bs.map V.bl
 |[],_,.nil=>rfl
 |b::bs,_,.cons (.bl _) r=>by rw[QhL r];rfl
theorem Qbs{A:Addr->Prop}{H:Hp}:∀{bs:List Int}{xs:List V},DAs A H xs (bs.map Qk)->xs=bs.map V.int
 |[],_,.nil=>rfl
 |b::bs,_,.cons (.int _) r=>by rw[Qbs r];rfl
@[irreducible] def QwS:List Qa->(Qa->Prop)->Prop
 |[.list ds],Q=>∃bs,QcG ds=some bs/\Q (.bool (bs.all id))
 |_,_=>False
theorem Qkf{K:PySem.W.Frag}{cm:Bool}(hc:cm=true):Qde (λxs H Q=>∃(p:Addr)(bs:List Bool),xs=[.ref p]/\SqL K H p (bs.map V.bl)/\cm=true/\Q (.bl (bs.all id)) H) QwS:=λA P H vs ds R Q ln dm q h k=>by
 unfold QwS at h;split at h
 ·obtain⟨v,rfl,hv⟩:=pd1 q;obtain⟨bs,hb,hR⟩:=h;rw[bools_eq hb] at hv;obtain⟨l,xs,rfl,e,qq⟩:=hv.list;rw[QhL qq] at e;exact⟨l,bs,rfl,SqL.of e,hc,k _ hR _ H (Same.refl H) (.bl _) QaQ⟩
 ·exact h.elim
def QpW:List Qa->(Qa->Prop)->Prop
 |[.list ds],Q=>Q (.tuple ds)
 |[.tuple ds],Q=>Q (.tuple ds)
 |_,_=>False
def QvM:List Qa->(Qa->Prop)->Prop
 |[.list ds],Q=>Q (.list ds)
 |[.tuple ds],Q=>Q (.list ds)
 |_,_=>False
theorem Qke{K:PySem.W.Frag}:Qde (QlL K) QpW:=λA P H vs ds R Q ln dm q h k=>by
 unfold QpW at h;split at h
 ·obtain⟨v,rfl,hv⟩:=pd1 q;obtain⟨l,xs,rfl,e,qq⟩:=hv.list;exact⟨l,xs,rfl,.inl ⟨SqL.of e,λl' H' s n e'=>k _ h _ H' s (Qg9 dm s e' qq) (QeQ e')⟩⟩
 ·obtain⟨v,rfl,hv⟩:=pd1 q;obtain⟨l,xs,rfl,e,qq⟩:=hv.tuple;exact⟨l,xs,rfl,.inr ⟨SqT.of e,k _ h _ H (Same.refl H) (Qg9 dm (Same.refl H) e qq) (QeQ e)⟩⟩
 ·exact h.elim
theorem QtR{K:PySem.W.Frag}:Qde (QlN K) QvM:=λA P H vs ds R Q ln dm q h k=>by
 unfold QvM at h;split at h
 ·obtain⟨v,rfl,hv⟩:=pd1 q;obtain⟨l,xs,rfl,e,qq⟩:=hv.list;exact⟨l,xs,rfl,.inl (SqL.of e),λl' H' s n e'=>k _ h _ H' s (QdU dm s n e' qq) (Qay n)⟩
 ·obtain⟨v,rfl,hv⟩:=pd1 q;obtain⟨l,xs,rfl,e,qq⟩:=hv.tuple;exact⟨l,xs,rfl,.inr (SqT.of e),λl' H' s n e'=>k _ h _ H' s (QdU dm s n e' qq) (Qay n)⟩
 ·exact h.elim
def intD:List Qa->(Qa->Prop)->Prop
 |[.int i],Q=>Q (.int i)
 |[.bool k],Q=>Q (.int (if k then 1 else 0))
 |_,_=>False
theorem Qwo:Qde QxC intD:=λA P H vs ds R Q ln dm q h k=>by
 unfold intD at h;split at h
 ·obtain⟨v,rfl,hv⟩:=pd1 q;rw[hv.int];exact .inl ⟨_,rfl,k _ h _ H (Same.refl H) (.int _) Qae⟩
 ·obtain⟨v,rfl,hv⟩:=pd1 q;rw[hv.bool];exact .inr ⟨_,rfl,k _ h _ H (Same.refl H) (.int _) Qae⟩
 ·exact h.elim
end
section
variable{X:Cx}{E:XK}
inductive Tn where | int | bool | str | tuple | list
def Tn.s:Tn->String
 |.int => "int"
 |.bool => "bool"
 |.str => "str"
 |.tuple => "tuple"
 |.list => "list"
def isT:Tn->Qa->Bool
 |.int,.int _=>true
 |.int,.bool _=>true
 |.bool,.bool _=>true
 |.str,.str _=>true
 |.tuple,.tuple _=>true
 |.list,.list _=>true
 |_,_=>false
theorem Qtr{K:PySem.W.Frag}{A P:Addr->Prop}{H:Hp}{v:V}{d:Qa}(tn:Tn)(h:DP A P H v d):∃t,TyOf K H v t/\PySem.W.kitOne K t (.type tn.s)=some (isT tn d):=by
 rcases h with h | ⟨l,xs,ds,rfl,rfl,_,e,q⟩
 ·cases h with
  |non=>exact⟨_,.non,by cases tn<;>rfl⟩
  |bl b=>exact⟨_,.bl _,by cases tn<;>rfl⟩
  |int i=>exact⟨_,.int _,by cases tn<;>rfl⟩
  |str x c=>exact⟨_,.str _,by cases tn<;>rfl⟩
  |tup n e q=>exact⟨_,.tup e,by cases tn<;>rfl⟩
  |lst n e q=>exact⟨_,.lst e,by cases tn<;>rfl⟩
  |dct n e=>exact⟨_,.dK e,by cases tn<;>rfl⟩
 ·exact⟨_,.lst e,by cases tn<;>rfl⟩
def Qwk(tn:Tn)(we:DE):DE:=λδ Q EX=>we δ (λd=>Q (.bool (isT tn d))) EX
theorem QsS{e f:QZ}{we:DE}{p pos:Pos}(tn:Tn)(hg:Gl X "isinstance")(hm:X.mg "isinstance" = none)(he:PE X e (tX .P X.K E we))(hf:PE X f (tC (.ty tn.s)))(h1:notStar e=true:=by rfl)(h2:notStar f=true:=by rfl) :
  PE X (.Call (.Name "isinstance" p) [e,f] [] pos) (tX .F X.K E (Qwk tn we)):=by
 refine PE.imp (Zo Zv hg hm J9 (Qfc he (Qfc hf JN h2) h1) (he:=YD h1) (hpl:=by rw[YD h2];rfl)) λσ H Q ⟨F,δ,R,EX,rel,hw,k,o⟩=>?_
 refine⟨F,δ,_,EX,rel,hw,λd hd v H' rel' kp vk=>?_,o⟩;obtain⟨t,ty,et⟩:=Qtr (K:=X.K) tn vk;exact⟨v,t,tn.s,_,rfl,ty,et,k _ hd _ H' rel' kp ⟨.bl _,QaQ⟩⟩
theorem QxU{x:Str}{pos:Pos}(tn:Tn)(hg:Gl X x)(hm:X.mg x=none)(hv:bootBuiltins x=some (.type tn.s))(hn:x ≠ "__name__" := by decide)(hd:(x == ("__debug__" : Str))=false:=by decide):PE X (.Name x pos) (tC (.ty tn.s)):=Qax (v:=.ty tn.s) hg hm hv rfl hn hd
abbrev DO:=Sts->(Option Int->Prop)->XP->Prop
def tO(K:PySem.W.Frag)(E:XK)(w:DO):TO:=λσ H Q=>∃(F:Fm)(δ:Sts)(R:Option Int->Prop)(EX:XP),Rel K F σ H δ/\w δ R EX/\(∀d,R d->∀H',Rel K F σ H' δ->Kp σ δ H H'->Q d H')/\Out F E EX
def dNo:DO:=λ_ Q _=>Q none
def dSo(we:DE):DO:=λδ Q EX=>we δ (λd=>match d with
 |.int i=>Q (some i)
 |_=>False) EX
theorem PO.imp{e:Option QZ}{t t':TO}(h:PO X e t)(i:∀σ H Q,t' σ H Q->t σ H Q):PO X e t':=λpins s σ H Q I q=>h pins s σ H Q I (i σ H Q q)
theorem QoQ:PO X none (tO X.K E dNo):=PO.imp QsB λσ H Q ⟨F,δ,R,EX,rel,hw,k,o⟩=>k _ hw H rel (Kp.refl rel)
theorem QoP{e:QZ}{we:DE}(he:PE X e (tX .P X.K E we)):PO X (some e) (tO X.K E (dSo we)):=by
 refine PO.imp (QsA he) λσ H Q ⟨F,δ,R,EX,rel,hw,k,o⟩=>?_
 refine⟨F,δ,_,EX,rel,hw,λd hd v H' rel' kp vk=>?_,o⟩;cases d<;>first | exact(show False from hd).elim | skip
 exact⟨_,DP.int vk,k _ hd H' rel' kp⟩
def cutD(xs:List Qa)(lo hi:Option Int):List Qa:=(xs.drop (HT.sIx xs.length 0 lo)).take (HT.sIx xs.length xs.length hi - HT.sIx xs.length 0 lo)
theorem Qng{A:Addr->Prop}{H:Hp}{xs:List V}{ds:List Qa}(q:DAs A H xs ds)(lo hi:Option Int):DAs A H (Qk5 xs lo hi) (cutD ds lo hi):=by
 unfold Qk5 cutD;rw[q.length];exact(q.drop _).take _
def slD(d:Qa)(lo hi:Option Int)(Q:Qa->Prop):Prop:=
 match d with
 |.list ds=>Q (.list (cutD ds lo hi))
 |.tuple ds=>Q (.tuple (cutD ds lo hi))
 |_=>False
def dSl(we:DE)(wl wh:DO):DE:=λδ Q EX=>we δ (λd=>wl δ (λlo=>wh δ (λhi=>slD d lo hi Q) EX) EX) EX
def QuR(K:PySem.W.Frag):V->Option Int->Option Int->Hp->VK->Prop:=λx a b H Q=>Qyq x a b H Q∨QuQ K x a b H Q
theorem QoV{e:QZ}{lo hi:Option QZ}{we:DE}{wl wh:DO}{p2 pos:Pos}(he:PE X e (tX .P X.K E we))(hl:PO X lo (tO X.K E wl))(hh:PO X hi (tO X.K E wh)):PE X (.Subscript e (.Slice lo hi none p2) pos) (tX .F X.K E (dSl we wl wh)):=by
 refine PE.imp (QoE (r:=QuR X.K) (SlR.or2 QuB Qog) he hl hh) λσ H Q ⟨F,δ,R,EX,rel,hw,k,o⟩=>?_
 refine⟨F,δ,_,EX,rel,hw,λd hd v H1 rel1 kp1 vk=>⟨F,δ,_,EX,rel1,hd,λa ha H2 rel2 kp2=>⟨F,δ,_,EX,rel2,ha,λb hb H3 rel3 kp3=>?_,o⟩,o⟩,o⟩;have v3:=kp3.dp (kp2.dp vk);have K3:=(kp1.trans kp2).trans kp3;cases d<;>first | exact(show False from hb).elim | skip
 ·obtain⟨l,xs,rfl,e,q⟩:=DP.list v3;exact .inr ⟨l,xs,rfl,SqL.of e,λp H' s n e'=>k _ hb _ H' (rel3.same s) (K3.trans (Kp.same rel3 s)) ⟨QdU (λa ha=>rel3.isl ha) s n e' (Qng q _ _),Qay (QbT K3 n)⟩⟩
 ·obtain⟨l,xs,rfl,e,q⟩:=DP.tuple v3;exact .inl ⟨l,xs,rfl,e,λp H' s e'=>k _ hb _ H' (rel3.same s) (K3.trans (Kp.same rel3 s)) ⟨Qg9 (λa ha=>rel3.isl ha) s e' (Qng q _ _),QeQ e'⟩⟩
abbrev DF:=List Sl->(Qa->Prop)->XP->Prop
def Kq(pt:Addr->Prop)(H H':Hp):Prop:=(∀b o,¬pt b->H b=some o->H' b=some o)/\∀p,pt p->∃n,H' p=some (.lst [.int n])
def ZW(fr:Bool)(f:DF):Sp:=λvs H Q Ex=>∃(A pt:Addr->Prop)(args:List Sl)(R:Qa->Prop)(EX:XP),(∀a,A a->∃xs,H a=some (.lst xs))/\(∀p,pt p->A p/\∃n,H p=some (.lst [.int n]))/\Qam (Qjk A pt H) vs args/\f args R EX /\
 (∀d,R d->∀v H',Kq pt H H'->DA A H' v d->(fr=true->FrV H H' v)->Q v H')/\∀C,EX C->∀H',Kq pt H H'->Ex (.ref C) none H'
def Qyp:DSl:=λ_ Q _=>Q []
def sV(we:DE)(wr:DSl):DSl:=λδ Q EX=>we δ (λd=>wr δ (λds=>Q (.v d::ds)) EX) EX
def Qxw(i:Nat)(wr:DSl):DSl:=λδ Q EX=>match δ[i]? with
 |some .pot=>wr δ (λds=>Q (.pot::ds)) EX
 |_=>False
theorem QsL:PA X [] (tAs X.K E Qyp):=PA.imp JN λσ H Q ⟨F,δ,R,EX,rel,hw,k,o⟩=>k [] hw [] H rel (Kp.refl rel) .nil
theorem QxN{e:QZ}{es:List QZ}{we:DE}{wr:DSl}(he:PE X e (tX .D X.K E we))(hr:PA X es (tAs X.K E wr))(hs:notStar e=true:=by rfl):PA X (e::es) (tAs X.K E (sV we wr)):=by
 refine PA.imp (Qfc he hr hs) λσ H Q ⟨F,δ,R,EX,rel,hw,k,o⟩=>?_
 refine⟨F,δ,_,EX,rel,hw,λd hd v H' rel' kp vk=>⟨F,δ,_,EX,rel',hd,λds hds vs H2 rel2 kp2 vks=>?_,o⟩,o⟩;exact k _ hds (v::vs) H2 rel2 (kp.trans kp2) (.cons (kp2.da vk) vks)
theorem QsJ{e:QZ}{es:List QZ}{i:Nat}{wr:DSl}(he:PE X e (Qfa i))(hr:PA X es (tAs X.K E wr))(hs:notStar e=true:=by rfl):PA X (e::es) (tAs X.K E (Qxw i wr)):=by
 refine PA.imp (Qfc he hr hs) λσ H Q ⟨F,δ,R,EX,rel,hw,k,o⟩=>?_
 unfold Qxw at hw;split at hw
 ·rename_i hd
  obtain⟨x,hx⟩:=rel.lt hd;obtain⟨p,n,rfl,e,q⟩:=rel.sl i _ _ hx hd;refine⟨.ref p,hx,F,δ,_,EX,rel,hw,λds hds vs H2 rel2 kp2 vks=>?_,o⟩;exact k _ hds (.ref p::vs) H2 rel2 kp2 (.cons ⟨p,rfl,i,hx,hd⟩ vks)
 ·exact hw.elim
def Qnf(f:DF)(wa:DSl):DE:=λδ Q EX=>wa δ (λargs=>f args Q EX) EX
theorem Kq.kp{K:PySem.W.Frag}{F:Fm}{σ:L2.St}{δ:Sts}{H H':Hp}(k:Kq (Yj σ δ) H H'):Kp σ δ H H':=k
theorem QhR{m:Md}{fr:Bool}{K:PySem.W.Frag}{f:DF}{wa:DSl}(hm:∀{F:Fm}{σ:L2.St}{δ:Sts}{H H':Hp}{v:V}{d:Qa},DA (Av F σ δ) H' v d->(fr=true->FrV H H' v)->Vok m F σ δ H H' v d)(σ:L2.St)(H:Hp)(Q:VK)(h:tX m K E (Qnf f wa) σ H Q):Qks (ZW fr f) [] E (tAs K E wa) σ H Q:=by
 obtain⟨F,δ,R,EX,rel,hw,k,o⟩:=h;refine⟨F,δ,_,EX,rel,hw,λargs ha vs H1 rel1 kp1 q=>?_,o⟩;show ZW fr f (vs++[]) H1 Q E;rw[JA];refine⟨Av F σ δ,Yj σ δ,args,R,EX,λa ha=>rel1.isl ha,λp hp=>⟨Qak hp,(Kp.refl rel1).2 p hp⟩,q,ha,λd hd v H' kq dv fr=>?_,λC hC H' kq=>o C hC H' (rel1.kp kq).ke⟩;exact k d hd v H' (rel1.kp kq) (kp1.trans kq) (hm dv λz l e1 e2=>QbT kp1 (fr z l e1 e2))
variable{CX:CXT}{k:Nat}{f:Addr}{fd:Q1}{ps:List Str}{x:Str}{p pos:Pos}{e:QZ}{es:List QZ}{fD:DF}{wa:DSl}
theorem QsV(G:FnOk X.prog X.w X.K X.mg X.base CX k f fd ps (ZW false fD))(hr:Room k X.A)(hg:Gl X x)(hm:X.mg x=some (.ref f))(hk:PySem.W.keepIn X.K (.ref f)=true)(hb:Binds X.K fd ps [])(hx:Qcu CX X E)
  (ha:PA X (e::es) (tAs X.K E wa))(hdb:(x == ("__debug__" : Str))=false:=by decide)(he:starEach (e::es) X.env=(false,eval e X.env)::starEach es X.env:=by rfl)(hpl:(backTo pos (starEach es X.env)).any (·.1)=false:=by rfl) :
  PE X (.Call (.Name x p) (e::es) [] pos) (tX .D X.K E (Qnf fD wa)):=PE.imp (Qa9 G hr hg hm hk hb .nil hx ha hdb he hpl) (QhR λh _=>h)
theorem QoW(G:FnOk X.prog X.w X.K X.mg X.base CX k f fd ps (ZW true fD))(hr:Room k X.A)(hg:Gl X x)(hm:X.mg x=some (.ref f))(hk:PySem.W.keepIn X.K (.ref f)=true)(hb:Binds X.K fd ps [])(hx:Qcu CX X E)
  (ha:PA X (e::es) (tAs X.K E wa))(hdb:(x == ("__debug__" : Str))=false:=by decide)(he:starEach (e::es) X.env=(false,eval e X.env)::starEach es X.env:=by rfl)(hpl:(backTo pos (starEach es X.env)).any (·.1)=false:=by rfl) :
  PE X (.Call (.Name x p) (e::es) [] pos) (tX .F X.K E (Qnf fD wa)):=PE.imp (Qa9 G hr hg hm hk hb .nil hx ha hdb he hpl) (QhR λh z=>⟨h,z rfl⟩)
def scal:Qa->Bool
 |.list _=>false
 |.tuple _=>false
 |.dict _=>false
 |_=>true
theorem Qsm{A A':Addr->Prop}{H:Hp}{v:V}{d:Qa}(h:DA A H v d)(s:scal d=true):DA A' H v d:=by
 cases h with
 |non=>exact .non
 |bl b=>exact .bl b
 |int i=>exact .int i
 |str x c=>exact .str x c
 |tup _ _ _=>cases s
 |lst _ _ _=>cases s
 |dct _ _=>cases s
def QyX(P:Addr->Prop)(H:Hp)(vs:List V)(a:Addr):Prop:=V.ref a∈vs/\¬P a
theorem QhC{A P:Addr->Prop}{H:Hp}(ws:List V):∀{vs:List V}{ds:List Qa},(∀v∈vs,v∈ws)->Qam (VD .P A P H) vs ds->Qam (Qjk (λa=>A a/\¬QyX P H ws a) (λ_=>False) H) vs (ds.map Sl.v)
 |_,_,_,.nil=>.nil
 |v::vs,d::ds,m,.cons a b=>by
  refine .cons ?_ (QhC ws (λv hv=>m v (QK _ hv)) b)
  rcases a with a | ⟨l,xs,ds,rfl,rfl,n,e,q⟩
  ·exact a.mv (λ_ _ _ e=>e) λa z=>.inl z.1
  ·exact .lst (λz=>z.2 ⟨m _ Jz,n⟩) e (q.mv (λ_ _ _ e=>e) λa z=>.inl z.1)
end
abbrev DG:=Qa->Sts->(Sts->Prop)->Prop
def tG(ix:List Nat)(K:PySem.W.Frag)(w:DG):TG:=λv σ H Q=>∃(F:Fm)(δ:Sts)(d:Qa)(R:Sts->Prop),Rel K F σ H δ/\DA (Av F σ δ) H v d/\w d δ R /\
 ∀δ',R δ'->∀σ',Rel K F σ' H δ'->Stp F σ H δ σ' H δ'->σ'.length=σ.length->(∀j,j∉ix->σ'[j]? = σ[j]?)->Q σ' H
theorem QaB{α:Type}{l:List α}{i j:Nat}{x:α}(h:j≠i):(l.set i x)[j]? = l[j]? := Qdl (Qcn h)
theorem set_eq{α:Type}{l:List α}{i:Nat}{x y:α}(h:(l.set i x)[i]? = some y):y=x:=by
 rw[List.getElem?_set] at h;simp only[if_true] at h;split at h
 ·exact(Qw h).symm
 ·cases h
theorem QeZ{F:Fm}{σ:L2.St}{δ:Sts}{i:Nat}{o:Option V}{d:Qa}{a:Addr}(h:Av F (σ.set i o) (δ.set i (.v d)) a):Av F σ δ a:=by
 rcases h with h | ⟨j,h1,h2⟩
 ·exact .inl h
 ·by_cases z:j=i
  ·subst z;rcases h2 with h2 | ⟨ds,h2⟩<;>cases set_eq h2
  ·rw[QaB z] at h1 h2;exact .inr ⟨j,h1,h2⟩
theorem Rel.setv{K:PySem.W.Frag}{F:Fm}{σ:L2.St}{H:Hp}{δ:Sts}(r:Rel K F σ H δ){i:Nat}{v:V}{d:Qa}(q:DA (Av F σ δ) H v d):Rel K F (σ.set i (some v)) H (δ.set i (.v d)) where
 len:=by rw[Z9,Z9];exact r.len
 dom:=r.dom
 dom0:=r.dom0
 pt0:=r.pt0
 kx:=r.kx
 sl:=λj o x h1 h2=>by
  have wk:∀{v:V}{d':Qa},DA (Av F σ δ) H v d'->DA (Av F (σ.set i (some v)) (δ.set i (.v d))) H v d':=λh=>h.mv (λ_ _ _ e=>e) λa z=>.inl (QeZ z)
  by_cases z:j=i
  ·subst z;cases set_eq h1;cases set_eq h2;exact⟨v,rfl,q.mv (λ_ _ _ e=>e) λa z=>.inl (QeZ z)⟩
  ·rw[QaB z] at h1 h2;have h:=r.sl j o x h1 h2;cases x with
   |no=>trivial
   |v d=>obtain⟨v',e,q'⟩:=h;exact⟨v',e,q'.mv (λ_ _ _ e=>e) λa z=>.inl (QeZ z)⟩
   |own ds=>obtain⟨l,xs,e,e2,q',f⟩:=h;exact⟨l,xs,e,e2,q'.mv (λ_ _ _ e=>e) λa z=>.inl (QeZ z),f⟩
   |pk ds=>obtain⟨l,xs,e,e2,q',f⟩:=h;exact⟨l,xs,e,e2,q'.mv (λ_ _ _ e=>e) λa z=>.inl (QeZ z),f⟩
   |pot=>exact h
   |scr=>exact h
 inj:=λj k a ds h1 h2 ⟨h3,h4⟩=>by
  by_cases z:j=i
  ·subst z;cases set_eq h1
  ·rw[QaB z] at h1 h2;by_cases z2:k=i
   ·subst z2;rcases h4 with h4 | ⟨ds,h4⟩<;>cases set_eq h4
   ·rw[QaB z2] at h3 h4;exact r.inj j k a ds h1 h2 ⟨h3,h4⟩
theorem Stp.setv{F:Fm}{σ:L2.St}{H:Hp}{δ:Sts}{i:Nat}{o:Option V}{d:Qa}:Stp F σ H δ (σ.set i o) H (δ.set i (.v d)):=⟨λ_ _ _ e=>e,λa z=>.inl (QeZ z)⟩
def gN(i:Nat):DG:=λd δ Q=>Q (δ.set i (.v d))
def Qjx:Sts->List Nat->List Qa->Sts
 |δ,i::is,d::ds=>Qjx (δ.set i (.v d)) is ds
 |δ,_,_=>δ
def gTN(is:List Nat):DG:=λd δ Q=>match d with
 |.tuple ds=>ds.length=is.length/\Q (Qjx δ is ds)
 |_=>False
section
variable{X:Cx}{E:XK}
theorem PG.imp{e:QZ}{t t':TG}(h:PG X e t)(i:∀v σ H Q,t' v σ H Q->t v σ H Q):PG X e t':=λpins s σ H v u Q I r q=>h pins s σ H v u Q I r (i v σ H Q q)
theorem QoU{e:QZ}{i:Nat}(h:PG X e (QcA i)):PG X e (tG [i] X.K (gN i)):=PG.imp h λv σ H Q ⟨F,δ,d,R,rel,dv,hw,k⟩=>
 k _ hw _ (rel.setv dv) Stp.setv (Z9 ..) λj hj=>QaB λz=>hj (by rw[z];exact Q3.mpr rfl)
def gNs:List Nat->TGs
 |[]=>Qx9
 |i::is=>Qpq (QcA i) (gNs is)
theorem QjY{K:PySem.W.Frag}{F:Fm}{H:Hp}{Q:L2.St->Hp->Prop}:∀(is:List Nat)(vs:List V)(ds:List Qa)(σ:L2.St)(δ:Sts),ds.length=is.length->Rel K F σ H δ->DAs (Av F σ δ) H vs ds ->
  (∀σ',Rel K F σ' H (Qjx δ is ds)->Stp F σ H δ σ' H (Qjx δ is ds)->σ'.length=σ.length->(∀j,j∉is->σ'[j]? = σ[j]?)->Q σ' H)->gNs is vs σ H Q
 |[],vs,ds,σ,δ,hl,rel,q,k=>by
  cases ds with
  |nil=>cases q;exact⟨rfl,k σ rel Stp.refl rfl λ_ _=>rfl⟩
  |cons d ds=>cases hl
 |i::is,vs,ds,σ,δ,hl,rel,q,k=>by
  cases ds with
  |nil=>cases hl
  |cons d ds=>
   cases q with
   |@cons v vs _ _ q qs=>
    refine⟨v,vs,rfl,?_⟩;refine QjY is vs ds _ _ (by simpa using hl) (rel.setv q) (qs.mv (λ_ _ _ e=>e) λa z=>.inl (QeZ z)) λσ' r' st hl' hj=>?_
    refine k σ' r' (Stp.setv.trans st) (by rw[hl',Z9]) λj hn=>?_
    rw[hj j (λz=>hn (QK _ z)),QaB (λz=>hn (by rw[z];exact Jz))]
theorem QsP{e:QZ}{n:Nat}{is:List Nat}(h:PG X e (Qx8 X.K n (gNs is)))(hn:is.length=n:=by rfl):PG X e (tG is X.K (gTN is)):=PG.imp h λv σ H Q ⟨F,δ,d,R,rel,dv,hw,k⟩=>by
 unfold gTN at hw;split at hw
 ·obtain⟨hl,hR⟩:=hw;cases dv with
  |@tup a xs ds na e q=>
   exact⟨a,xs,rfl,SqT.of e,by rw[q.length,hl,hn],QjY is xs _ σ δ hl rel q λσ' r' st hl' hj=>k _ hR σ' r' st hl' hj⟩
 ·exact hw.elim
def ItD(A S:Addr->Prop)(J:It)(items:List Qa)(H1:Hp):Prop:=items.length<=sizeLine/\∀(H2:Hp)(A':Addr->Prop),(∀b o,S b->H1 b=some o->H2 b=some o)->(∀b,A' b->A b∨H1 b=none)->(∀a,A' a->∃xs,H2 a=some (.lst xs)) ->
 (∀(i:Nat) d,items[i]? = some d->J.go i H2/\∀x H3,J.yld i H2 x H3->Same H2 H3/\DA A' H3 x d)/\J.stop items.length H2
def Sx(m:Md)(F:Fm)(σ:L2.St)(δ:Sts)(b:Addr):Prop:=
 match m with
 |.P=>¬Yj σ δ b
 |_=>¬Av F σ δ b
abbrev DI:=Sts->(List Qa->Prop)->XP->Prop
def tI(m:Md)(K:PySem.W.Frag)(E:XK)(w:DI):TI:=λσ H R=>∃(F:Fm)(δ:Sts)(R':List Qa->Prop)(EX:XP),Rel K F σ H δ/\w δ R' EX/\(∀items,R' items->∀J H',Rel K F σ H' δ->Kp σ δ H H'->ItD (Av F σ δ) (Sx m F σ δ) J items H'->R J H')/\Out F E EX
theorem PI.imp{tg e:QZ}{t t':TI}(h:PI X tg e t)(i:∀σ H R,QcH H->t' σ H R->t σ H R):PI X tg e t':=λpins s σ H R I q=>h pins s σ H R I (i σ H R (Inv.lens I) q)
theorem PI.len{tg e:QZ}{t:TI}(h:PI X tg e t):PI X tg e (λσ H R=>t σ H λJ H1=>QcH H1->R J H1):=λpins s σ H R I q=>by
 refine thn (h pins s σ H _ I q) λv s1 h1=>thn h1 λitv s2 h2=>?_
 obtain⟨it,fp,tn,J,H',e,I',T,t0,fo,hR⟩:=h2;exact⟨it,fp,tn,J,H',e,I',T,t0,fo,hR (Inv.lens I')⟩
def QyQ(w:DE):DI:=λδ Q EX=>w δ (λd=>match d with
 |.list ds=>Q ds
 |_=>False) EX
def QyP(w:DE):DI:=λδ Q EX=>w δ (λd=>match d with
 |.tuple ds=>Q ds
 |_=>False) EX
theorem Qbo{A S:Addr->Prop}{H H2:Hp}{A':Addr->Prop}{xs:List V}{ds:List Qa}(sA:∀b,¬A b->S b)(k:∀b o,S b->H b=some o->H2 b=some o)(m:∀b,A' b->A b∨H b=none)(q:DAs A H xs ds):DAs A' H2 xs ds:=q.mv (λa o n e=>k a o (sA a n) e) m
theorem Qx1{K:PySem.W.Frag}{A S:Addr->Prop}{H:Hp}{l:Addr}{xs:List V}{ds:List Qa}(sA:∀b,¬A b->S b)(sl:S l)(e:H l=some (.lst xs))(q:DAs A H xs ds)(ln:xs.length<=sizeLine):ItD A S (Itl K l) ds H:=by
 refine⟨by rw[<- q.length];exact ln,λH2 A' k m dm=>⟨λi d hd=>?_,xs,SqL.of (k _ _ sl e),by rw[q.length];exact Qg _⟩⟩;obtain⟨x,hx,dx⟩:=(Qbo sA k m q).get i d hd;refine⟨⟨xs,x,SqL.of (k _ _ sl e),hx⟩,λy H3 ⟨e3,hy⟩=>?_⟩;subst e3;have:=hy xs (SqL.of (k _ _ sl e));rw[hx] at this;cases this;exact⟨Same.refl _,dx⟩
theorem QxZ{K:PySem.W.Frag}{A S:Addr->Prop}{H:Hp}{l:Addr}{xs:List V}{ds:List Qa}(sA:∀b,¬A b->S b)(sl:S l)(e:H l=some (.tup xs))(q:DAs A H xs ds)(ln:xs.length<=sizeLine):ItD A S (Itt K l) ds H:=by
 refine⟨by rw[<- q.length];exact ln,λH2 A' k m dm=>⟨λi d hd=>?_,xs,SqT.of (k _ _ sl e),by rw[q.length];exact Qg _⟩⟩;obtain⟨x,hx,dx⟩:=(Qbo sA k m q).get i d hd;refine⟨⟨xs,x,SqT.of (k _ _ sl e),hx⟩,λy H3 ⟨e3,hy⟩=>?_⟩;subst e3;have:=hy xs (SqT.of (k _ _ sl e));rw[hx] at this;cases this;exact⟨Same.refl _,dx⟩
theorem Qf0{m:Md}{F:Fm}{σ:L2.St}{δ:Sts}{b:Addr}(h:¬Av F σ δ b):Sx m F σ δ b:=by
 cases m
 ·exact h
 ·exact λz=>h (Qak z)
 ·exact h
theorem stL{m:Md}{F:Fm}{σ:L2.St}{δ:Sts}{H H':Hp}{v:V}{ds:List Qa}(h:VD m (Av F σ δ) (Yj σ δ) H v (.list ds)):∃l xs,v=.ref l/\Sx m F σ δ l/\H l=some (.lst xs)/\DAs (Av F σ δ) H xs ds:=by
 cases m
 ·cases h with | @lst a xs _ n e q=>exact⟨a,xs,rfl,n,e,q⟩
 ·rcases h with h | ⟨l,xs,ds',rfl,e,n,e2,q⟩
  ·cases h with | @lst a xs _ n e q=>exact⟨a,xs,rfl,Qf0 n,e,q⟩
  ·cases e;exact⟨l,xs,rfl,n,e2,q⟩
 ·cases h with | @lst a xs _ n e q=>exact⟨a,xs,rfl,n,e,q⟩
theorem stT{m:Md}{F:Fm}{σ:L2.St}{δ:Sts}{H H':Hp}{v:V}{ds:List Qa}(h:VD m (Av F σ δ) (Yj σ δ) H v (.tuple ds)):∃l xs,v=.ref l/\Sx m F σ δ l/\H l=some (.tup xs)/\DAs (Av F σ δ) H xs ds:=by
 cases m
 ·cases h with | @tup a xs _ n e q=>exact⟨a,xs,rfl,n,e,q⟩
 ·rcases h with h | ⟨l,xs,ds',rfl,e,n,e2,q⟩
  ·cases h with | @tup a xs _ n e q=>exact⟨a,xs,rfl,Qf0 n,e,q⟩
  ·cases e
 ·cases h with | @tup a xs _ n e q=>exact⟨a,xs,rfl,n,e,q⟩
theorem Qes{m:Md}{F:Fm}{σ:L2.St}{δ:Sts}{H H':Hp}{v:V}{d:Qa}(h:Vok m F σ δ H H' v d):VD m (Av F σ δ) (Yj σ δ) H' v d:=by
 cases m
 ·exact h
 ·exact h
 ·exact h.1
variable{m:Md}{tg e e':QZ}{w w':DE}{p pos tpos:Pos}
theorem QoT(h:PE X e (tX m X.K E w)):PI X tg e (tI m X.K E (QyQ w)):=by
 refine PI.imp (PI.len (Qgc h)) λσ H R _ ⟨F,δ,R',EX,rel,hw,k,o⟩=>?_
 refine⟨F,δ,_,EX,rel,hw,λd hd v H' rel' kp vk=>?_,o⟩;cases d<;>first | exact(show False from hd).elim | skip
 obtain⟨l,xs,rfl,sl,e,q⟩:=stL (H':=H') (Qes vk);exact⟨l,rfl,⟨xs,SqL.of e⟩,λln=>k _ hd _ H' rel' kp (Qx1 (λb=>Qf0) sl e q (ln _ _ (.inl e)))⟩
theorem QsO(h:PE X e (tX m X.K E w)):PI X tg e (tI m X.K E (QyP w)):=by
 refine PI.imp (PI.len (Qu6 h)) λσ H R _ ⟨F,δ,R',EX,rel,hw,k,o⟩=>?_
 refine⟨F,δ,_,EX,rel,hw,λd hd v H' rel' kp vk=>?_,o⟩;cases d<;>first | exact(show False from hd).elim | skip
 obtain⟨l,xs,rfl,sl,e,q⟩:=stT (H':=H') (Qes vk);exact⟨l,rfl,⟨xs,SqT.of e⟩,λln=>k _ hd _ H' rel' kp (QxZ (λb=>Qf0) sl e q (ln _ _ (.inr e)))⟩
def Qos(lo:Int)(n:Nat):List Qa:=(Qm n).map λ(i:Nat)=>.int (lo+i)
theorem QiD{lo:Int}{n i:Nat}{d:Qa}(h:(Qos lo n)[i]? = some d):i<n/\d=.int (lo+i):=by
 unfold Qos at h;rw[Qy] at h;by_cases z:i<n
 ·rw[Zd z] at h;exact⟨z,(Qw h).symm⟩
 ·rw[Zf (by rw[QF];omega)] at h;cases h
theorem QiC{lo:Int}{n:Nat}:(Qos lo n).length=n:=by unfold Qos;rw[Qf,QF]
theorem Qx0{A S:Addr->Prop}{H:Hp}{lo:Int}{n:Nat}(hn:n<=1000000):ItD A S (Itr lo n) (Qos lo n) H:=by
 refine⟨by rw[QiC];exact Q4 hn QkM,λH2 A' k m dm=>⟨λi d hd=>?_,by rw[QiC];exact Qg _⟩⟩;obtain⟨hi,rfl⟩:=QiD hd;exact⟨hi,λx H3 ⟨e1,e2⟩=>by subst e1 e2;exact⟨Same.refl _,.int _⟩⟩
def Qwh(w:DE):DI:=λδ Q EX=>w δ (λd=>match d with
 |.int j=>(-1000000<=j/\j<=1000000)/\Q (Qos 0 j.toNat)
 |_=>False) EX
theorem QoS(hg:Gl X "range")(hm:X.mg "range" = none)(h:PE X e (tX .P X.K E w))(hs:notStar e=true:=by rfl):PI X tg (.Call (.Name "range" p) [e] [] pos) (tI m X.K E (Qwh w)):=by
 refine PI.imp (Qc3 hg hm (Qfc h JN hs) (by rw[YD hs];rfl)) λσ H R _ ⟨F,δ,R',EX,rel,hw,k,o⟩=>?_
 refine⟨F,δ,_,EX,rel,hw,λd hd v H' rel' kp vk=>?_,o⟩;cases d<;>first | exact(show False from hd).elim | skip
 obtain⟨⟨h1,h2⟩,hR⟩:=hd;rw[DP.int vk];exact⟨_,rfl,by omega,by omega,k _ hR _ H' rel' kp (Qx0 (by omega))⟩
theorem QiR{A':Addr->Prop}{H2:Hp}{r:Addr}{x y:V}{d d':Qa}(dm:∀a,A' a->∃xs,H2 a=some (.lst xs))(n:H2 r=none)(q:DA A' H2 x d)(q':DA A' H2 y d'):DA A' (upd H2 r (.tup [x,y])) (.ref r) (.tuple [d,d']):=
 .tup (λz=>by obtain⟨xs,e⟩:=dm r z;rw[n] at e;cases e) Jp (.cons (q.same (Jy n)) (.cons (q'.same (Jy n)) .nil))
def Qgx(ds:List Qa):List Qa:=(Qm ds.length).map λ(i:Nat)=>.tuple [.int i,ds.getD i .none]
theorem Qc6{ds:List Qa}{i:Nat}{d:Qa}(h:(Qgx ds)[i]? = some d):∃e,ds[i]? = some e/\d=.tuple [.int i,e]:=by
 unfold Qgx at h;rw[Qy] at h;by_cases z:i<ds.length
 ·rw[Zd z] at h;refine⟨ds[i],Qd z,?_⟩;rw[<- Qw h];show Zk [.int i,ds.getD i .none]=_;rw[Ql,Qd z];rfl
 ·rw[Zf (by rw[QF];omega)] at h;cases h
theorem Qj0{ds:List Qa}:(Qgx ds).length=ds.length:=by unfold Qgx;rw[Qf,QF]
def QyR(w:DE):DI:=λδ Q EX=>w δ (λd=>match d with
 |.tuple ds=>Q (Qgx ds)
 |_=>False) EX
variable{elts:List QZ}
theorem Ql1{x1}(hg:Gl X "enumerate")(hm:X.mg "enumerate" = none)(h:PE X e (tX m X.K E w))(hs:notStar e=true:=by rfl):PI X (.Tuple elts x1 tpos) (.Call (.Name "enumerate" p) [e] [] pos) (tI m X.K E (QyR w)):=by
 refine PI.imp (PI.len (QoC hg hm (Qfc h JN hs) (by rw[YD hs];rfl))) λσ H R _ ⟨F,δ,R',EX,rel,hw,k,o⟩=>?_
 refine⟨F,δ,_,EX,rel,hw,λd hd v H' rel' kp vk=>?_,o⟩;cases d<;>first | exact(show False from hd).elim | skip
 obtain⟨l,xs,rfl,sl,e,q⟩:=stT (H':=H') (Qes vk);refine⟨l,xs,rfl,e,λln=>k _ hd _ H' rel' kp ⟨by rw[Qj0,<- q.length];exact ln _ _ (.inr e),λH2 A' kk mm dm=>⟨λi d hd'=>?_,xs,kk _ _ sl e,by rw[Qj0,q.length]⟩⟩⟩;obtain⟨d',hd2,rfl⟩:=Qc6 hd';obtain⟨x,hx,dx⟩:=(Qbo (S:=Sx m F σ δ) (λb=>Qf0) kk mm q).get i d' hd2;refine⟨⟨xs,x,kk _ _ sl e,hx⟩,λy H3 ⟨r,x',nr,hx',e1,e2⟩=>?_⟩;subst e1 e2;have:=hx' xs (kk _ _ sl e);rw[hx] at this;cases this;exact⟨Jy nr,QiR dm nr (.int _) dx⟩
def Qg4(ds es:List Qa):List Qa:=Qk0 (λd e=>.tuple [d,e]) ds es
theorem zip_get{ds es:List Qa}{i:Nat}{d:Qa}(h:(Qg4 ds es)[i]? = some d):∃a b,ds[i]? = some a/\es[i]? = some b/\d=.tuple [a,b]:=by
 unfold Qg4 at h;rw[List.getElem?_zipWith] at h;cases h1:ds[i]? with
 |none=>rw[h1] at h;cases h
 |some a=>
  cases h2:es[i]? with
  |none=>rw[h1,h2] at h;cases h
  |some b=>rw[h1,h2] at h;exact⟨a,b,rfl,rfl,(Qw h).symm⟩
theorem QfX{ds es:List Qa}:(Qg4 ds es).length=min ds.length es.length:=by unfold Qg4;rw[QnO]
def Qzr(w w':DE):DI:=λδ Q EX=>w δ (λd=>w' δ (λd'=>match d,d' with
 |.list ds,.list es=>Q (Qg4 ds es)
 |_,_=>False) EX) EX
def QyH(w w':DE):DI:=λδ Q EX=>w δ (λd=>w' δ (λd'=>match d,d' with
 |.tuple ds,.tuple es=>Q (Qg4 ds es)
 |_,_=>False) EX) EX
theorem QwO{x1}(hg:Gl X "zip")(hm:X.mg "zip" = none)(h:PE X e (tX m X.K E w))(h':PE X e' (tX m X.K E w'))(hs:notStar e=true:=by rfl)(hs':notStar e'=true:=by rfl):PI X (.Tuple elts x1 tpos) (.Call (.Name "zip" p) [e,e'] [] pos) (tI m X.K E (Qzr w w')):=by
 refine PI.imp (PI.len (QlV hg hm (Qfc h (Qfc h' JN hs') hs) (by rw[YD hs,YD hs'];rfl) (hs2:=by rw[YD hs'];rfl))) λσ H R _ ⟨F,δ,R',EX,rel,hw,k,o⟩=>?_
 refine⟨F,δ,_,EX,rel,hw,λd hd v H1 rel1 kp1 vk=>⟨F,δ,_,EX,rel1,hd,λd2 hd2 v2 H2 rel2 kp2 vk2=>?_,o⟩,o⟩;cases d<;>cases d2<;>first | exact(show False from hd2).elim | skip
 obtain⟨l,xs,rfl,sl,e,q⟩:=stL (H':=H2) (kp2.vd (Qes vk));obtain⟨l2,ys,rfl,sl2,e2,q2⟩:=stL (H':=H2) (Qes vk2);refine⟨l,l2,xs,ys,rfl,e,e2,λln=>k _ hd2 _ H2 rel2 (kp1.trans kp2) ⟨?_,λH3 A' kk mm dm=>⟨λi d hd'=>?_,xs,ys,kk _ _ sl e,kk _ _ sl2 e2,by rw[QfX,q.length,q2.length];omega⟩⟩⟩
 ·rw[QfX,<- q.length];exact Q4 (Que _ _) (ln _ _ (.inl e))
 obtain⟨a,b,ha,hb,rfl⟩:=zip_get hd';obtain⟨x,hx,dx⟩:=(Qbo (S:=Sx m F σ δ) (λb=>Qf0) kk mm q).get i a ha;obtain⟨y,hy,dy⟩:=(Qbo (S:=Sx m F σ δ) (λb=>Qf0) kk mm q2).get i b hb;refine⟨⟨xs,ys,x,y,kk _ _ sl e,kk _ _ sl2 e2,hx,hy⟩,λz H4 ⟨r,x',y',nr,hx',hy',e1,e3⟩=>?_⟩;subst e1 e3;have h1:=hx' xs (kk _ _ sl e);have h2:=hy' ys (kk _ _ sl2 e2);rw[hx] at h1;rw[hy] at h2;cases h1;cases h2;exact⟨Jy nr,QiR dm nr dx dy⟩
theorem QoR{x1}(hg:Gl X "zip")(hm:X.mg "zip" = none)(h:PE X e (tX m X.K E w))(h':PE X e' (tX m X.K E w'))(hs:notStar e=true:=by rfl)(hs':notStar e'=true:=by rfl):PI X (.Tuple elts x1 tpos) (.Call (.Name "zip" p) [e,e'] [] pos) (tI m X.K E (QyH w w')):=by
 refine PI.imp (PI.len (Qre hg hm (Qfc h (Qfc h' JN hs') hs) (by rw[YD hs,YD hs'];rfl) (hs2:=by rw[YD hs'];rfl))) λσ H R _ ⟨F,δ,R',EX,rel,hw,k,o⟩=>?_
 refine⟨F,δ,_,EX,rel,hw,λd hd v H1 rel1 kp1 vk=>⟨F,δ,_,EX,rel1,hd,λd2 hd2 v2 H2 rel2 kp2 vk2=>?_,o⟩,o⟩;cases d<;>cases d2<;>first | exact(show False from hd2).elim | skip
 obtain⟨l,xs,rfl,sl,e,q⟩:=stT (H':=H2) (kp2.vd (Qes vk));obtain⟨l2,ys,rfl,sl2,e2,q2⟩:=stT (H':=H2) (Qes vk2);refine⟨l,l2,xs,ys,rfl,e,e2,λln=>k _ hd2 _ H2 rel2 (kp1.trans kp2) ⟨?_,λH3 A' kk mm dm=>⟨λi d hd'=>?_,xs,ys,kk _ _ sl e,kk _ _ sl2 e2,by rw[QfX,q.length,q2.length];omega⟩⟩⟩
 ·rw[QfX,<- q.length];exact Q4 (Que _ _) (ln _ _ (.inr e))
 obtain⟨a,b,ha,hb,rfl⟩:=zip_get hd';obtain⟨x,hx,dx⟩:=(Qbo (S:=Sx m F σ δ) (λb=>Qf0) kk mm q).get i a ha;obtain⟨y,hy,dy⟩:=(Qbo (S:=Sx m F σ δ) (λb=>Qf0) kk mm q2).get i b hb;refine⟨⟨xs,ys,x,y,kk _ _ sl e,kk _ _ sl2 e2,hx,hy⟩,λz H4 ⟨r,x',y',nr,hx',hy',e1,e3⟩=>?_⟩;subst e1 e3;have h1:=hx' xs (kk _ _ sl e);have h2:=hy' ys (kk _ _ sl2 e2);rw[hx] at h1;rw[hy] at h2;cases h1;cases h2;exact⟨Jy nr,QiR dm nr dx dy⟩
end
def QtT:Option Sl->Sl
 |some (.v d)=>.v d
 |some (.own ds)=>.pk ds
 |some (.pk ds)=>.pk ds
 |some .pot=>.pot
 |_=>.no
def Qem(cap:List (Option Nat))(δ:Sts):Sts:=cap.map λo=>match o with
 |none=>.no
 |some j=>QtT δ[j]?
theorem QgD{cap:List (Option Nat)}{σ:L2.St}{i:Nat}{o:Option V}(h:(Qdo cap σ)[i]? = some o):(cap[i]? = some none/\o=none)∨∃j,cap[i]? = some (some j)/\o=(σ[j]?).getD none:=by
 unfold Qdo at h;rw[Qy] at h;obtain⟨c,hc,rfl⟩:=Yg.mp h;cases c with
 |none=>exact .inl ⟨hc,rfl⟩
 |some j=>exact .inr ⟨j,hc,rfl⟩
theorem QgE{cap:List (Option Nat)}{δ:Sts}{i:Nat}{x:Sl}(h:(Qem cap δ)[i]? = some x):(cap[i]? = some none/\x=.no)∨∃j,cap[i]? = some (some j)/\x=QtT δ[j]? := by
 unfold Qem at h;rw[Qy] at h;obtain⟨c,hc,rfl⟩:=Yg.mp h;cases c with
 |none=>exact .inl ⟨hc,rfl⟩
 |some j=>exact .inr ⟨j,hc,rfl⟩
theorem Qa0{cap:List (Option Nat)}{σ:L2.St}{δ:Sts}{i:Nat}{o:Option V}{x:Sl}(h1:(Qdo cap σ)[i]? = some o)(h2:(Qem cap δ)[i]? = some x)(hx:x≠.no):∃(j:Nat)(y:Sl),δ[j]? = some y/\x=QtT (some y)/\o=(σ[j]?).getD none:=by
 rcases QgE h2 with⟨_,e⟩ | ⟨j,hj,e⟩
 ·exact absurd e hx
 ·rcases QgD h1 with⟨z,_⟩ | ⟨j',hj',e'⟩
  ·rw[hj] at z;cases z
  ·rw[hj] at hj';cases hj';cases e2:δ[j]? with
   |none=>rw[e2] at e;exact absurd e hx
   |some y=>exact⟨j,y,e2,by rw[e,e2],e'⟩
theorem QcE{cap:List (Option Nat)}{σ:L2.St}{δ:Sts}{a:Addr}(h:Yj (Qdo cap σ) (Qem cap δ) a):Yj σ δ a:=by
 obtain⟨i,h1,h2⟩:=h;obtain⟨j,y,hy,e,eo⟩:=Qa0 h1 h2 (λz=>by cases z);cases y<;>first | (cases e;done) | skip
 refine⟨j,?_,hy⟩;cases e2:σ[j]? with
 |none=>rw[e2] at eo;cases eo
 |some o'=>rw[e2] at eo;exact congrArg some eo.symm
def inF(A1:Addr->Prop)(cap:List (Option Nat))(σ:L2.St)(δ:Sts)(H:Hp):Fm:=⟨H,A1,Yj (Qdo cap σ) (Qem cap δ)⟩
theorem QjX{A1:Addr->Prop}{cap:List (Option Nat)}{σ:L2.St}{δ:Sts}{H:Hp}(h:∀a,Yj σ δ a->A1 a){a:Addr}:Av (inF A1 cap σ δ H) (Qdo cap σ) (Qem cap δ) a↔A1 a:=by
 constructor
 ·rintro(z | ⟨i,h1,h2⟩)
  ·exact z
  ·rcases h2 with h2 | ⟨ds,h2⟩
   ·exact h a (QcE ⟨i,h1,h2⟩)
   ·obtain⟨j,y,hy,e,eo⟩:=Qa0 h1 h2 (λz=>by cases z);cases y<;>cases e
 ·exact .inl
theorem QmI{K:PySem.W.Frag}{F:Fm}{σ:L2.St}{δ:Sts}{H1 H3:Hp}{A1:Addr->Prop}{cap:List (Option Nat)}(rel:Rel K F σ H1 δ)(hA:∀a,Av F σ δ a->A1 a)(hN:∀a,A1 a->Av F σ δ a∨H1 a=none)
  (dm:∀a,A1 a->∃xs,H3 a=some (.lst xs))(kp:Kp σ δ H1 H3):Rel K (inF A1 cap σ δ H3) (Qdo cap σ) H3 (Qem cap δ) where
 len:=by unfold Qdo Qem;rw[Qf,Qf]
 dom:=dm
 dom0:=dm
 pt0:=λp hp=>⟨hA p (Qak (QcE hp)),kp.2 p (QcE hp)⟩
 kx:=λb o _ e=>e
 sl:=λi o x h1 h2=>by
  have iv:∀{a:Addr},Av (inF A1 cap σ δ H3) (Qdo cap σ) (Qem cap δ) a->A1 a:=λ{a}=>(QjX λa z=>hA a (Qak z)).mp
  have mv:∀{v:V}{d:Qa},DA (Av F σ δ) H1 v d->DA (Av (inF A1 cap σ δ H3) (Qdo cap σ) (Qem cap δ)) H3 v d:=λq=>q.mv (λa o n e=>kp.1 a o (λz=>n (Qak z)) e) λa z=>hN a (iv z)
  have mvs:∀{v:List V}{d:List Qa},DAs (Av F σ δ) H1 v d->DAs (Av (inF A1 cap σ δ H3) (Qdo cap σ) (Qem cap δ)) H3 v d:=λq=>q.mv (λa o n e=>kp.1 a o (λz=>n (Qak z)) e) λa z=>hN a (iv z)
  cases x with
  |no=>trivial
  |own ds=>
   obtain⟨j,y,hy,e,eo⟩:=Qa0 h1 h2 (λz=>by cases z);cases y<;>cases e
  |scr=>
   obtain⟨j,y,hy,e,eo⟩:=Qa0 h1 h2 (λz=>by cases z);cases y<;>cases e
  |v d=>
   obtain⟨j,y,hy,e,eo⟩:=Qa0 h1 h2 (λz=>by cases z);cases y<;>first | (cases e;done) | skip
   cases e;obtain⟨x,hx⟩:=rel.lt hy;obtain⟨v,rfl,q⟩:=rel.sl j _ _ hx hy;rw[hx] at eo;exact⟨v,eo,mv q⟩
  |pk ds=>
   obtain⟨j,y,hy,e,eo⟩:=Qa0 h1 h2 (λz=>by cases z);cases y<;>first | (cases e;done) | skip
   ·cases e;obtain⟨x,hx⟩:=rel.lt hy;obtain⟨l,xs,rfl,e,q,f⟩:=rel.sl j _ _ hx hy;rw[hx] at eo;have np:=rel.own_pot hy hx;exact⟨l,xs,eo,kp.1 _ _ np e,mvs q,xs,kp.1 _ _ np e,λz=>np (QcE z)⟩
   ·cases e;obtain⟨x,hx⟩:=rel.lt hy;obtain⟨l,xs,rfl,e,q,ys,f,f2⟩:=rel.sl j _ _ hx hy;rw[hx] at eo;have np:¬Yj σ δ l:=by
     rintro⟨j,j1,j2⟩;obtain⟨p,m,e1,_,w⟩:=rel.sl j _ _ j1 j2;cases e1;rcases w with w | w
     ·exact f2 w
     ·rw[w] at f;cases f
    exact⟨l,xs,eo,kp.1 _ _ np e,mvs q,xs,kp.1 _ _ np e,λz=>np (QcE z)⟩
  |pot=>
   obtain⟨j,y,hy,e,eo⟩:=Qa0 h1 h2 (λz=>by cases z);cases y<;>first | (cases e;done) | skip
   obtain⟨x,hx⟩:=rel.lt hy;obtain⟨p,n,rfl,e,q⟩:=rel.sl j _ _ hx hy;rw[hx] at eo;obtain⟨m,em⟩:=kp.2 p ⟨j,hx,hy⟩;have eo':o=some (.ref p):=eo;subst eo';exact⟨p,m,rfl,em,.inl ⟨i,h1,h2⟩⟩
 inj:=λi j a ds h1 h2 _=>by
  obtain⟨j,y,hy,e,eo⟩:=Qa0 h2 h1 (λz=>by cases z);cases y<;>cases e
theorem Qn5:∀{σ σ':L2.St},σ'.length=σ.length->(∀(i:Nat) v,σ[i]? = some (some v)->σ'[i]? = some (some v))->Wk σ σ'
 |[],[],_,_=>trivial
 |[],_::_,h,_=>by cases h
 |_::_,[],h,_=>by cases h
 |none::a,x::b,h,g=>Qn5 (σ:=a) (σ':=b) (by simpa using h) λi v e=>by simpa using g (i+1) v (by simpa using e)
 |some u::a,x::b,h,g=>by
  have h0:=g 0 u rfl;simp only[Qjo,Option.some.injEq] at h0;subst h0;exact⟨rfl,Qn5 (σ:=a) (σ':=b) (by simpa using h) λi v e=>by simpa using g (i+1) v (by simpa using e)⟩
def QcB(cap:List (Option Nat))(ix:List Nat):Bool:=ix.all λi=>match cap[i]? with
 |some none=>true
 |_=>false
theorem QrJ{cap:List (Option Nat)}{ix:List Nat}(hf:QcB cap ix=true){σ σ4:L2.St}(hl:σ4.length=(Qdo cap σ).length)(hj:∀j,j∉ix->σ4[j]? = (Qdo cap σ)[j]?):Wk (Qdo cap σ) σ4:=by
 refine Qn5 hl λi v e=>?_
 by_cases z:i∈ix
 ·have:=Jm.mp hf i z;rcases QgD e with⟨_,e2⟩ | ⟨j,hj2,_⟩
  ·cases e2
  ·rw[hj2] at this;cases this
 ·rw[hj i z];exact e
def XF:XP:=λ_=>False
@[irreducible] def QgK(items:List Qa)(wg:DG)(wt:DT)(we:DE)(δ:Sts)(Q:Qa->Prop):Prop:=∃Iv:Nat->List Qa->Prop,Iv 0 [] /\
 (∀(i:Nat) acc d,items[i]? = some d->Iv i acc->wg d δ λδ4=>wt δ4 (λb=>if b=true then we δ4 (λe=>Iv (i+1) (acc++[e])) XF else Iv (i+1) acc) XF)/\∀acc,Iv items.length acc->Q (.list acc)
def dComp(cap:List (Option Nat))(wi:DI)(wg:DG)(wt:DT)(we:DE):DE:=λδ Q EX=>wi δ (λitems=>QgK items wg wt we (Qem cap δ) Q) EX
def QtG:DT:=λ_ Q _=>Q true
section
variable{X:Cx}{E:XK}
theorem Qrj{F:Fm}{E:XK}:Out F E XF:=λ_ z=>z.elim
theorem PTs.imp{es:List QZ}{t t':TT}(h:PTs X es t)(i:∀σ H Q,t' σ H Q->t σ H Q):PTs X es t':=λpins s σ H Q I q=>h pins s σ H Q I (i σ H Q q)
theorem QoI:PTs X [] (tT X.K E QtG):=PTs.imp QiM λσ H Q ⟨F,δ,R,EX,rel,hw,k,o⟩=>k _ hw H rel (Kp.refl rel)
theorem QoH{c:QZ}{t:DT}(h:PT X c (tT X.K E t)):PTs X [c] (tT X.K E t):=QiL h
theorem Qi7{K:PySem.W.Frag}{A1:Addr->Prop}{cap:List (Option Nat)}{σ σ4:L2.St}{δ δ4:Sts}{H3 H4:Hp}(r:Rel K (inF A1 cap σ δ H3) σ4 H4 δ4)(hk:∀b o,¬Yj σ δ b->H4 b=some o->H3 b=none->False){b:Addr}(h:Yj σ4 δ4 b):Yj σ δ b:=by
 obtain⟨i,h1,h2⟩:=h;obtain⟨p,n,e,hp,w⟩:=r.sl i _ _ h1 h2;cases e;rcases w with w | w
 ·exact QcE w
 ·by_cases z:Yj σ δ b
  ·exact z
  ·exact(hk b _ z hp w).elim
theorem Qlm{K:PySem.W.Frag}{F:Fm}{σ:L2.St}{δ:Sts}{H1 H3:Hp}{cap:List (Option Nat)}{ix:List Nat}{wg:DG}{wt:DT}{A1:Addr->Prop}{x:V}{d:Qa}{inner:L2.St->Hp->(Hp->Prop)->Prop}{kk:Hp->Prop}{T:Sts->Prop}{N:Prop}
  (hf:QcB cap ix=true)(rel:Rel K F σ H1 δ)(hA:∀a,Av F σ δ a->A1 a)(hN:∀a,A1 a->Av F σ δ a∨H1 a=none)(dm:∀a,A1 a->∃xs,H3 a=some (.lst xs))(kp:Kp σ δ H1 H3)(dx:DA A1 H3 x d)
  (h:wg d (Qem cap δ) λδ4=>wt δ4 (λb=>if b=true then T δ4 else N) XF)
  (hT:∀σ4 δ4 H5,T δ4->Rel K (inF A1 cap σ δ H3) σ4 H5 δ4->Kp σ δ H3 H5->(∀b,Yj σ4 δ4 b->Yj σ δ b)->inner σ4 H5 kk)(hF:N->∀H5,Kp σ δ H3 H5->kk H5) :
  bOf (Qdo cap σ) (tG ix K wg) (tT K E0 wt) inner x H3 kk:=by
 have ri:=QmI (cap:=cap) rel hA hN dm kp;have iv:∀{a:Addr},Av (inF A1 cap σ δ H3) (Qdo cap σ) (Qem cap δ) a->A1 a:=λ{a}=>(QjX λa z=>hA a (Qak z)).mp
 refine⟨inF A1 cap σ δ H3,Qem cap δ,d,_,ri,dx.mv (λ_ _ _ e=>e) λa z=>.inl (iv z),h,λδ4 h4 σ4 r4 st4 l4 j4=>⟨QrJ hf l4 j4,inF A1 cap σ δ H3,δ4,_,XF,r4,h4,λb hb H5 r5 kp5=>?_,Qrj⟩⟩;have pots:∀{b:Addr},Yj σ4 δ4 b->Yj σ δ b:=λz=>Qi7 r4 (λb o _ e1 e2=>by rw[e2] at e1;cases e1) z
 have K5:Kp σ δ H3 H5:=by
  refine⟨λb o n e=>kp5.1 b o (λz=>n (pots z)) e,λb hb=>?_⟩;by_cases z:Yj σ4 δ4 b
  ·exact kp5.2 b z
  ·obtain⟨n,e⟩:=kp.2 b hb;exact⟨n,kp5.1 _ _ z e⟩
 exact Qc4 hb (λz=>hT σ4 δ4 H5 z r5 K5 λb=>pots) λz=>hF z H5 K5
structure Lp (σ:L2.St) (δ:Sts) (A1:Addr->Prop) (p:Addr) (H1 H2:Hp) (acc:List Qa):Prop where
 kp:Kp σ δ H1 H2
 at_:∃ys,H2 p=some (.lst ys)/\DAs A1 H2 ys acc
theorem Lp.step{σ:L2.St}{δ:Sts}{A1:Addr->Prop}{p:Addr}{H1 H2 H3:Hp}{acc:List Qa}(hpA:∀a,Yj σ δ a->A1 a)(hpn:¬Yj σ δ p)(h:Lp σ δ A1 p H1 H2 acc)(k:Kp σ δ H2 H3):Lp σ δ A1 p H1 H3 acc:=by
 obtain⟨ys,e,q⟩:=h.at_;exact⟨h.kp.trans k,ys,k.1 _ _ hpn e,q.mv (λa o n e=>k.1 a o (λz=>n (hpA a z)) e) λa z=>.inl z⟩
theorem QrC{K:PySem.W.Frag}{σ σ4:L2.St}{δ δ4:Sts}{H1 H3 H5:Hp}{cap:List (Option Nat)}{we:DE}{A1:Addr->Prop}{p:Addr}{acc:List Qa}{kk:Hp->Prop}{G:Qa->Prop}
  (hpA:A1 p)(hP:∀a,Yj σ δ a->A1 a)(hp1:H1 p=none)(hpn:¬Yj σ δ p)(lp:Lp σ δ A1 p H1 H5 acc)(hl:acc.length<sizeLine)(r5:Rel K (inF A1 cap σ δ H3) σ4 H5 δ4)(pots:∀b,Yj σ4 δ4 b->Yj σ δ b)
  (h:we δ4 G XF)(hk:∀e,G e->∀H',Lp σ δ A1 p H1 H' (acc++[e])->kk H'):QtU p (tX .D K E0 we) σ4 H5 kk:=by
 refine⟨inF A1 cap σ δ H3,δ4,G,XF,r5,h,λe he v H6 r6 kp6 dv=>?_,Qrj⟩;have k56:Kp σ δ H5 H6:=by
  refine⟨λb o n e=>kp6.1 b o (λz=>n (pots b z)) e,λb hb=>?_⟩;by_cases z:Yj σ4 δ4 b
  ·exact kp6.2 b z
  ·obtain⟨n,e⟩:=lp.kp.2 b hb;exact⟨n,kp6.1 _ _ z e⟩
 obtain⟨k6,ys,e6,q6⟩:=lp.step hP hpn k56;have up:∀{b:Addr}{o:HO},¬A1 b->H6 b=some o->upd H6 p (.lst (ys++[v])) b=some o:=λ{b o} n e=>by rw[JK (λz=>n (by rw[z];exact hpA))];exact e
 refine⟨ys,e6,by rw[q6.length];exact hl,hk e he _ ⟨⟨λb o n e=>?_,λb hb=>?_⟩,ys++[v],Jp,DAs.app (q6.mv (λ_ _=>up) λa z=>.inl z) (.cons (DA.mv dv (λa o n e=>up (λz=>n (.inl z)) e) λa z=>.inl (.inl z)) .nil)⟩⟩
 ·rw[JK (λz=>by rw[z,hp1] at e;cases e)];exact k6.1 b o n e
 ·rw[JK (λz=>hpn (by rw[<- z];exact hb))];exact k6.2 b hb
theorem QsT{M:List Str}{cap:List (Option Nat)}{elt tg iter:QZ}{ifs:List QZ}{scope:Yk}{pos:Pos}{ix:List Nat}{wi:DI}{wg:DG}{wt:DT}{we:DE}(hc:X.calm=true)(ok:Qfe X.N X.env.scope M scope cap=true)(hf:QcB cap ix=true)
  (hi:PI X tg iter (tI .P X.K E wi))(hb:∀cl ex s3 H3 C,PG (blk X M scope cl ex s3 H3 C) tg (tG ix X.K wg)/\PTs (blk X M scope cl ex s3 H3 C) ifs (tT X.K E0 wt)/\PE (blk X M scope cl ex s3 H3 C) elt (tX .D X.K E0 we))
  (hs:∀x,foldedSetIterable iter X.env x=pure x:=by intro _;rfl):PE X (.ListComp elt [⟨tg,iter,ifs,0⟩] scope pos) (tX .F X.K E (dComp cap wi wg wt we)):=by
 refine PE.imp (Qeh hc ok hi hb hs) λσ H Q ⟨F,δ,R,EX,rel,hw,k,o⟩=>?_
 refine⟨F,δ,_,EX,rel,hw,λitems hC J H1 rel1 kp1 ⟨ln,it⟩ p hp=>?_,o⟩;unfold QgK at hC;obtain⟨Iv,i0,step,fin⟩:=hC;have hpn:¬Yj σ δ p:=λz=>by obtain⟨xs,e⟩:=rel1.isl (Qak (F:=F) z);rw[hp] at e;cases e
 let A1:Addr->Prop:=λa=>Av F σ δ a∨a=p
 have hP:∀a,Yj σ δ a->A1 a:=λa z=>.inl (Qak z)
 have hN:∀a,A1 a->Av F σ δ a∨H1 a=none:=λa z=>z.elim .inl λz=>.inr (by rw[z];exact hp)
 have dmK:∀{H2:Hp},Kp σ δ H1 H2->(∃ys,H2 p=some (.lst ys))->∀a,A1 a->∃xs,H2 a=some (.lst xs):=λ{H2} k2 e2 a z=>by
  rcases z with z | z
  ·exact(rel1.kp k2).isl z
  ·rw[z];exact e2
 refine Qcx items.length (λi H2=>i<=items.length/\∃acc,Iv i acc/\acc.length<=i/\Lp σ δ A1 p H1 H2 acc) ⟨Qq _,[],i0,Qg _,Kp.same rel1 (Jy hp),[],Jp,.nil⟩ (λi H2 hi ⟨_,acc,iv,hl,lp⟩=>?_) λH2 ⟨_,acc,iv,hl,lp⟩=>?_
 ·obtain⟨k2,ys,e2,q2⟩:=lp;obtain⟨go,_⟩:=it H2 A1 (λb o n e=>k2.1 b o n e) hN (dmK k2 ⟨ys,e2⟩);have hd:items[i]? = some items[i]:=Qd hi;obtain⟨g1,g2⟩:=go i _ hd;refine⟨g1,λx H3 y kk hk=>?_⟩;obtain⟨s3,dx⟩:=g2 x H3 y;have k23:=Kp.same (rel1.kp k2) s3;have lp3:Lp σ δ A1 p H1 H3 acc:=Lp.step hP hpn ⟨k2,ys,e2,q2⟩ k23;refine Qlm hf rel1 (λa z=>.inl z) hN (dmK lp3.kp ⟨ys,s3 _ _ e2⟩) lp3.kp dx (step i acc _ hd iv) (λσ4 δ4 H5 h5 r5 k5 pots=>?_) λh5 H5 k5=>hk _ ⟨hi,acc,h5,by omega,lp3.step hP hpn k5⟩
  exact QrC (.inr rfl) hP hp hpn (lp3.step hP hpn k5) (by omega) r5 pots h5 λe he H' lp'=>hk _ ⟨hi,acc++[e],he,by rw[Qv];show _+1<=_;omega,lp'⟩
 ·obtain⟨k2,ys,e2,q2⟩:=lp;obtain⟨_,st⟩:=it H2 A1 (λb o n e=>k2.1 b o n e) hN (dmK k2 ⟨ys,e2⟩);refine⟨st,k _ (fin acc iv) (.ref p) H2 (rel1.kp k2) (kp1.trans k2) ⟨.lst (λz=>?_) e2 (q2.mv (λ_ _ _ e=>e) λa z=>.inl (.inl z)),λl e1 _=>?_⟩⟩
  ·obtain⟨xs,e⟩:=rel1.isl z;rw[hp] at e;cases e
  ·cases e1;exact QbT kp1 hp
theorem QtM{items:List Qa}{wg:DG}{wt:DT}{we:DE}{δ:Sts}{Q:Qa->Prop}(G:Qa->Option Qa)
  (h:∀d∈items,∀(k1:Prop)(k2:Qa->Prop),(G d=none->k1)->(∀e,G d=some e->k2 e)->wg d δ λδ4=>wt δ4 (λb=>if b=true then we δ4 k2 XF else k1) XF)(q:Q (.list (items.filterMap G))) :
  QgK items wg wt we δ Q:=by
 unfold QgK;refine⟨λi acc=>acc=(items.take i).filterMap G,by simp,λi acc d hd e=>?_,λacc e=>by rw[e,ZD];exact q⟩;have hs:(items.take (i+1)).filterMap G=(items.take i).filterMap G++(G d).toList:=by
  rw[Z6,hd,Zw];cases e2:G d<;>simp[e2]
 have e:acc=(items.take i).filterMap G:=e;refine h d (QD hd) _ _ (λe2=>?_) λe' e2=>?_
 ·show acc=(items.take (i+1)).filterMap G;rw[hs,e2,e];simp
 ·show acc++[e']=(items.take (i+1)).filterMap G;rw[hs,e2,e];rfl
theorem QdY{items:List Qa}{wg:DG}{we:DE}{δ:Sts}{Q:Qa->Prop}(G:Qa->Qa)
  (h:∀d∈items,∀(k2:Qa->Prop),k2 (G d)->wg d δ λδ4=>we δ4 k2 XF)(q:Q (.list (items.map G))) :
  QgK items wg QtG we δ Q:=by
 unfold QgK;refine⟨λi acc=>acc=(items.take i).map G,by simp,λi acc d hd e=>?_,λacc e=>by rw[e,ZD];exact q⟩;have hs:(items.take (i+1)).map G=(items.take i).map G++[G d]:=by
  rw[Z6,hd,Jj];simp
 have e:acc=(items.take i).map G:=e;have hh:=h d (QD hd) (λe=>acc++[e]=(items.take (i+1)).map G) (by show acc++[G d]=_;rw[hs,e]);simp only[QtG,if_true];exact hh
end
mutual
theorem Qnd{A B:Addr->Prop}{H:Hp}:∀(d d':Qa)(x:V),DA A H x d->DA B H x d'->d=d'
 |.none,d',_,.non,h=>by cases h;rfl
 |.bool _,d',_,.bl _,h=>by cases h;rfl
 |.int _,d',_,.int _,h=>by cases h;rfl
 |.str _,d',_,.str _ _,h=>by cases h;rfl
 |.tuple ds,d',_,.tup (xs:=xs) n e q,h=>by
  cases h with
  |@tup a ys es n' e' q'=>
   rw[e] at e';cases e';rw[Qgy ds es xs q q']
  |@lst a ys es n' e' q'=>rw[e] at e';cases e'
  |@dct a n' e'=>rw[e] at e';cases e'
 |.list ds,d',_,.lst (xs:=xs) n e q,h=>by
  cases h with
  |@tup a ys es n' e' q'=>rw[e] at e';cases e'
  |@lst a ys es n' e' q'=>
   rw[e] at e';cases e';rw[Qgy ds es xs q q']
  |@dct a n' e'=>rw[e] at e';cases e'
 |.dict _,d',_,.dct n e,h=>by
  cases h with
  |@tup a ys es n' e' q'=>rw[e] at e';cases e'
  |@lst a ys es n' e' q'=>rw[e] at e';cases e'
  |@dct a n' e'=>rfl
theorem Qgy{A B:Addr->Prop}{H:Hp}:∀(ds es:List Qa)(xs:List V),DAs A H xs ds->DAs B H xs es->ds=es
 |[],es,_,.nil,h=>by cases h;rfl
 |d::ds,es,_,.cons q qs,h=>by
  cases h with
  |@cons x xs e es q' qs'=>rw[Qnd d e _ q q',Qgy ds es _ qs qs']
end
mutual
theorem Qwd{A:Addr->Prop}{H:Hp}{l:Addr}{rs:List Qa}(root:DA A H (.ref l) (.list rs)):∀(d:Qa)(x:V),sizeOf d<sizeOf (QkZ rs)->DA A H x d->DA (λa=>A a∨a=l) H x d
 |.none,_,_,.non=>.non
 |.bool _,_,_,.bl _=>.bl _
 |.int _,_,_,.int _=>.int _
 |.str _,_,_,.str _ c=>.str _ c
 |.tuple ds,_,hs,.tup (a:=a) (xs:=xs) n e q=>.tup (λz=>z.elim n λz=>by subst z;cases root with | @lst _ ys _ n' e' q'=>(rw[e] at e';cases e')) e (Qgz root ds xs (by simp at hs ⊢;omega) q)
 |.list ds,_,hs,.lst (a:=a) (xs:=xs) n e q=>.lst (λz=>z.elim n λz=>by
   subst z;have:=Qnd _ _ _ root (.lst n e q);rw[this] at hs;omega) e (Qgz root ds xs (by simp at hs ⊢;omega) q)
 |.dict _,_,hs,.dct (a:=a) n e=>.dct (λz=>z.elim n λz=>by subst z;cases root with | @lst _ ys _ n' e' q'=>(rw[e] at e';cases e')) e
theorem Qgz{A:Addr->Prop}{H:Hp}{l:Addr}{rs:List Qa}(root:DA A H (.ref l) (.list rs)):∀(ds:List Qa)(xs:List V),sizeOf ds<sizeOf (QkZ rs)->DAs A H xs ds->DAs (λa=>A a∨a=l) H xs ds
 |[],_,_,.nil=>.nil
 |d::ds,_,hs,.cons q qs=>.cons (Qwd root d _ (by simp at hs ⊢;omega) q) (Qgz root ds _ (by simp at hs ⊢;omega) qs)
end
theorem DA.items{A:Addr->Prop}{H:Hp}{l:Addr}{ds:List Qa}(root:DA A H (.ref l) (.list ds)):∃xs,H l=some (.lst xs)/\DAs (λa=>A a∨a=l) H xs ds:=by
 have root':=root;cases root with
 |@lst _ xs _ n e q=>exact⟨xs,e,Qgz root' ds xs (by simp) q⟩
structure Qe1 where
 nx:Sts->Prop
 rt:Qa->Prop
 rtF:Qa->Prop
 bk:Sts->Prop
 ct:Sts->Prop
 ex:XP
abbrev DS:=Qe1->Sts->Prop
structure Nx (K:PySem.W.Frag) (F:Fm) (σ:L2.St) (H:Hp) (δ:Sts) (R:Sts->Prop) (T:L2.St->Hp->Prop):Prop where
 go:∀δ',R δ'->∀σ' H',Rel K F σ' H' δ'->Stp F σ H δ σ' H' δ'->T σ' H'
structure Ends1 (K:PySem.W.Frag) (E:XK) (F:Fm) (σ:L2.St) (H:Hp) (δ:Sts) (DD:Qe1) (D:Ends):Prop where
 nx:Nx K F σ H δ DD.nx D.nx
 rt:∀d,DD.rt d->∀v H',Ke F H'->DA F.A0 H' v d->D.rt v H'
 rtF:∀d,DD.rtF d->∀v H',Ke F H'->DA F.A0 H' v d->FrV F.H0 H' v->D.rt v H'
 bk:Nx K F σ H δ DD.bk D.bk
 ct:Nx K F σ H δ DD.ct D.ct
 ex:Out F E DD.ex
def tS(K:PySem.W.Frag)(E:XK)(w:DS):TS:=λD σ H=>∃(F:Fm)(δ:Sts)(DD:Qe1),Rel K F σ H δ/\w DD δ/\Ends1 K E F σ H δ DD D
theorem Nx.step{K:PySem.W.Frag}{F:Fm}{σ σ1:L2.St}{H H1:Hp}{δ δ1:Sts}{R:Sts->Prop}{T:L2.St->Hp->Prop}(h:Nx K F σ H δ R T)(s:Stp F σ H δ σ1 H1 δ1):Nx K F σ1 H1 δ1 R T:=⟨λδ' hR σ' H' r st=>h.go δ' hR σ' H' r (s.trans st)⟩
theorem Ends1.step{K:PySem.W.Frag}{E:XK}{F:Fm}{σ σ1:L2.St}{H H1:Hp}{δ δ1:Sts}{DD:Qe1}{D:Ends}(h:Ends1 K E F σ H δ DD D)(s:Stp F σ H δ σ1 H1 δ1):Ends1 K E F σ1 H1 δ1 DD D:=⟨h.nx.step s,h.rt,h.rtF,h.bk.step s,h.ct.step s,h.ex⟩
section
variable{X:Cx}{E:XK}
theorem PS.imp{e:Y3}{t t':TS}(h:PS X e t)(i:∀D σ H,t' D σ H->t D σ H):PS X e t':=λpins s σ H D I q=>h pins s σ H D I (i D σ H q)
theorem PSs.imp{e:List Y3}{t t':TS}(h:PSs X e t)(i:∀D σ H,t' D σ H->t D σ H):PSs X e t':=λpins s σ H D I q=>h pins s σ H D I (i D σ H q)
def QyJ(a b:DS):DS:=λD δ=>a { D with nx:=b D } δ
def Qwf:DS:=λD δ=>D.nx δ
theorem QoJ:PSs X [] (tS X.K E Qwf):=PSs.imp QbR λD σ H ⟨F,δ,DD,rel,hw,en⟩=>en.nx.go δ hw σ H rel Stp.refl
theorem QsK{st:Y3}{w:DS}(h:PS X st (tS X.K E w)):PSs X [st] (tS X.K E w):=Yd h
theorem QoO{st:Y3}{rest:List Y3}{w w':DS}(h:PS X st (tS X.K E w))(h':PSs X rest (tS X.K E w')):PSs X (st::rest) (tS X.K E (QyJ w w')):=by
 refine PSs.imp (Zs h h') λD σ H ⟨F,δ,DD,rel,hw,en⟩=>?_
 exact⟨F,δ,_,rel,hw,⟨λδ' h' σ' H' r st=>⟨F,δ',DD,r,h',en.step st⟩⟩,en.rt,en.rtF,en.bk,en.ct,en.ex⟩
def Qyf(i:Nat)(we:DE):DS:=λD δ=>we δ (λd=>D.nx (δ.set i (.v d))) D.ex
def QtE(i:Nat)(we:DE):DS:=λD δ=>we δ (λd=>match d with
 |.list ds=>D.nx (δ.set i (.own ds))
 |_=>False) D.ex
def Qwg(i:Nat)(we:DE):DS:=λD δ=>we δ (λd=>match d with
 |.list [.int _]=>D.nx (δ.set i .pot)
 |_=>False) D.ex
variable{i:Nat}{e:QZ}{st:Y3}{we wi:DE}
theorem QlZ(h:PS X st (QpZ (tX .D X.K E we) (QcA i))):PS X st (tS X.K E (Qyf i we)):=by
 refine PS.imp h λD σ H ⟨F,δ,DD,rel,hw,en⟩=>?_
 refine⟨F,δ,_,DD.ex,rel,hw,λd hd v H' rel' kp vk=>?_,en.ex⟩;exact en.nx.go _ hd _ H' (rel'.setv vk) ((Stp.kp kp).trans Stp.setv)
theorem QrN{F:Fm}{σ:L2.St}{δ:Sts}{i:Nat}{l:Addr}{x:Sl}{a:Addr}(h:Av F (σ.set i (some (.ref l))) (δ.set i x) a):Av F σ δ a∨a=l:=by
 rcases h with h | ⟨j,h1,h2⟩
 ·exact .inl (.inl h)
 ·by_cases z:j=i
  ·subst z;cases set_eq h1;exact .inr rfl
  ·rw[QaB z] at h1 h2;exact .inl (.inr ⟨j,h1,h2⟩)
theorem Rel.seto{K:PySem.W.Frag}{F:Fm}{σ:L2.St}{H H':Hp}{δ:Sts}{l:Addr}{x:Sl}(r:Rel K F σ H δ)(r':Rel K F σ H' δ)(kp:Kp σ δ H H')(n:H l=none)(hx:∀A:Addr->Prop,(∀a,A a->Av F σ δ a∨H a=none)->(∀a,A a->Av F σ δ a∨a=l)->QyU K F H' A (some (.ref l)) x) :
  Rel K F (σ.set i (some (.ref l))) H' (δ.set i x)/\Stp F σ H δ (σ.set i (some (.ref l))) H' (δ.set i x):=by
 have nA:∀a,Av F (σ.set i (some (.ref l))) (δ.set i x) a->Av F σ δ a∨H a=none:=λa z=>(QrN z).elim .inl λz=>.inr (by rw[z];exact n)
 have kk:∀a o,¬Av F σ δ a->H a=some o->H' a=some o:=λa o m e=>kp.1 a o (λz=>m (Qak z)) e
 refine⟨?_,⟨kk,nA⟩⟩;exact{
  len:=by rw[Z9,Z9];exact r.len
  dom:=r'.dom
  dom0:=r'.dom0
  pt0:=r'.pt0
  kx:=r'.kx
  sl:=λj o y h1 h2=>by
   by_cases z:j=i
   ·subst z;cases set_eq h1;cases set_eq h2;exact hx _ nA λa z=>QrN z
   ·rw[QaB z] at h1 h2;have h:=r.sl j o y h1 h2;have h':=r'.sl j o y h1 h2;cases y with
    |no=>trivial
    |v d=>obtain⟨v',e,q'⟩:=h;exact⟨v',e,q'.mv kk nA⟩
    |own ds=>obtain⟨l',xs,rfl,e2,q',f⟩:=h;exact⟨l',xs,rfl,kp.1 _ _ (r.own_pot h2 h1) e2,q'.mv kk nA,f⟩
    |pk ds=>
     obtain⟨l',xs,rfl,e2,q',ys,f,f2⟩:=h;refine⟨l',xs,rfl,kp.1 _ _ ?_ e2,q'.mv kk nA,ys,f,f2⟩;rintro⟨j,j1,j2⟩;obtain⟨p,m,e1,_,w⟩:=r.sl j _ _ j1 j2;cases e1;rcases w with w | w
     ·exact f2 w
     ·rw[w] at f;cases f
    |pot=>exact h'
    |scr=>exact h'
  inj:=λj k a ds h1 h2 ⟨h3,h4⟩=>by
   have ne:∀(k:Nat),k≠i->σ[k]? = some (some (.ref l))->(δ[k]? = some .pot∨∃ds,δ[k]? = some (.own ds))->False:=λk _ h3 h4=>by
    obtain⟨xs,e⟩:=r.isl (a:=l) (.inr ⟨k,h3,h4⟩);rw[n] at e;cases e
   by_cases z:j=i
   ·subst z;cases set_eq h2;by_cases z2:k=j
    ·exact z2.symm
    ·rw[QaB z2] at h3 h4;exact(ne k z2 h3 h4).elim
   ·rw[QaB z] at h1 h2;by_cases z2:k=i
    ·subst z2;cases set_eq h3;exact(ne j z h2 (.inr ⟨ds,h1⟩)).elim
    ·rw[QaB z2] at h3 h4;exact r.inj j k a ds h1 h2 ⟨h3,h4⟩ }
theorem QmR{K:PySem.W.Frag}{F:Fm}{σ:L2.St}{H:Hp}{δ:Sts}(r:Rel K F σ H δ){l:Addr}(n:H l=none):F.H0 l=none:=by
 cases e:F.H0 l with
 |none=>rfl
 |some o=>
  by_cases z:F.pt l
  ·obtain⟨_,m,e'⟩:=r.pt0 l z;rw[n] at e';cases e'
  ·rw[r.kx l o z e] at n;cases n
theorem QjD(h:PS X st (QpZ (tX .F X.K E we) (QcA i))):PS X st (tS X.K E (QtE i we)):=by
 refine PS.imp h λD σ H ⟨F,δ,DD,rel,hw,en⟩=>?_
 refine⟨F,δ,_,DD.ex,rel,hw,λd hd v H' rel' kp ⟨vk,fr⟩=>?_,en.ex⟩;obtain⟨ds,rfl⟩:∃ds,d=.list ds:=by cases d<;>first | exact⟨_,rfl⟩ | exact(show False from hd).elim
 obtain⟨l,rfl⟩:∃l,v=.ref l:=by cases vk;exact⟨_,rfl⟩
 obtain⟨xs,e,q⟩:=DA.items vk;have n:=fr l rfl ⟨xs,e⟩;obtain⟨r2,st⟩:=rel.seto (i:=i) (x:=.own ds) rel' kp n λA hA hB=>⟨l,xs,rfl,e,q.mv (λ_ _ _ e=>e) λa z=>.inl (hB a z),QmR rel n⟩
 exact en.nx.go _ hd _ H' r2 st
theorem QoK(h:PS X st (QpZ (tX .F X.K E we) (QcA i))):PS X st (tS X.K E (Qwg i we)):=by
 refine PS.imp h λD σ H ⟨F,δ,DD,rel,hw,en⟩=>?_
 refine⟨F,δ,_,DD.ex,rel,hw,λd hd v H' rel' kp ⟨vk,fr⟩=>?_,en.ex⟩;split at hd
 ·cases vk with
  |@lst l xs ds na e q=>
   have n:=fr l rfl ⟨xs,e⟩;cases q with
   |cons q1 q2=>
    cases q1;cases q2;obtain⟨r2,st⟩:=rel.seto (i:=i) (x:=.pot) rel' kp n λA hA hB=>⟨l,_,rfl,e,.inr (QmR rel n)⟩
    exact en.nx.go _ hd _ H' r2 st
 ·exact hd.elim
def QyK(we:DE):DS:=λD δ=>we δ D.rt D.ex
def Qwi(we:DE):DS:=λD δ=>we δ D.rtF D.ex
theorem QtD{F:Fm}{σ:L2.St}{δ:Sts}{H:Hp}{v:V}{d:Qa}(h:DA (Av F σ δ) H v d):DA F.A0 H v d:=h.mv (λ_ _ _ e=>e) λa z=>.inl (.inl z)
theorem QsI{e:QZ}{pos:Pos}(h:PE X e (tX .D X.K E we)):PS X (.Return (some e) pos) (tS X.K E (QyK we)):=by
 refine PS.imp (Qar h) λD σ H ⟨F,δ,DD,rel,hw,en⟩=>?_
 exact⟨F,δ,_,DD.ex,rel,hw,λd hd v H' rel' kp vk=>en.rt d hd v H' rel'.ke (QtD vk),en.ex⟩
theorem QoM{e:QZ}{pos:Pos}(h:PE X e (tX .F X.K E we)):PS X (.Return (some e) pos) (tS X.K E (Qwi we)):=by
 refine PS.imp (Qar h) λD σ H ⟨F,δ,DD,rel,hw,en⟩=>?_
 exact⟨F,δ,_,DD.ex,rel,hw,λd hd v H' rel' kp vk=>en.rtF d hd v H' rel'.ke (QtD vk.1) λl e1 e2=>QmR rel (vk.2 l e1 e2),en.ex⟩
def QtF(i:Nat):DS:=λD δ=>match δ[i]? with
 |some (.own ds)=>D.rtF (.list ds)
 |some (.v d)=>D.rt d
 |_=>False
theorem QoL{e:QZ}{pos:Pos}(h:PE X e (Qfa i)):PS X (.Return (some e) pos) (tS X.K E (QtF i)):=by
 refine PS.imp (Qar h) λD σ H ⟨F,δ,DD,rel,hw,en⟩=>?_
 unfold QtF at hw;split at hw
 ·rename_i ds hd
  obtain⟨x,hx⟩:=rel.lt hd;obtain⟨l,xs,rfl,e,q,f⟩:=rel.sl i _ _ hx hd;refine⟨_,hx,en.rtF _ hw _ H rel.ke (.lst (λz=>?_) e (q.mv (λ_ _ _ e=>e) λa z=>.inl (.inl z))) λl' e1 _=>by cases e1;exact f⟩;obtain⟨ys,e'⟩:=rel.dom0 l z;rw[f] at e';cases e'
 ·rename_i d hd
  obtain⟨x,hx⟩:=rel.lt hd;obtain⟨v,rfl,q⟩:=rel.sl i _ _ hx hd;exact⟨v,hx,en.rt _ hw _ H rel.ke (QtD q)⟩
 ·exact hw.elim
def dIf(t:DT)(a b:DS):DS:=λD δ=>t δ (λc=>if c=true then a D δ else b D δ) D.ex
theorem Qvd{c:QZ}{a b:List Y3}{pos:Pos}{t:DT}{w w':DS}(hc:PT X c (tT X.K E t))(ha:PSs X a (tS X.K E w))(hb:PSs X b (tS X.K E w')):PS X (.If c a b pos) (tS X.K E (dIf t w w')):=by
 refine PS.imp (Qho hc ha hb) λD σ H ⟨F,δ,DD,rel,hw,en⟩=>?_
 exact⟨F,δ,_,DD.ex,rel,hw,λb hb H' rel' kp=>Qc4 hb (λz=>⟨F,δ,DD,rel',z,en.step (Stp.kp kp)⟩) λz=>⟨F,δ,DD,rel',z,en.step (Stp.kp kp)⟩,en.ex⟩
theorem Ql0{sts:List Y3}:PSs X sts (tS X.K E λ_ _=>False):=λpins s σ H D I ⟨F,δ,DD,rel,hw,en⟩=>hw.elim
theorem PIp.len{op:QnZ}{t:TIp}(h:PIp X op t):PIp X op (λx y H Q=>QcH H->t x y H Q):=λpins s σ H x y v u Q I rx ry q=>h pins s σ H x y v u Q I rx ry (q (Inv.lens I))
theorem Rel.mut{K:PySem.W.Frag}{F:Fm}{σ:L2.St}{H:Hp}{δ:Sts}(r:Rel K F σ H δ){l:Addr}{ds ds':List Qa}{ys:List V}(h:δ[i]? = some (.own ds))(hx:σ[i]? = some (some (.ref l)))(q:DAs (Av F σ δ) H ys ds') :
  Rel K F σ (upd H l (.lst ys)) (δ.set i (.own ds'))/\Stp F σ H δ σ (upd H l (.lst ys)) (δ.set i (.own ds')):=by
 have hl:Av F σ δ l:=.inr ⟨i,hx,.inr ⟨ds,h⟩⟩;obtain⟨l',xs0,e0,el,_,f⟩:=r.sl i _ _ hx h;cases e0;have lt:i < δ.length:=(QQ.mp h).1;have ge:(δ.set i (.own ds'))[i]? = some (.own ds'):=by rw[Qaw lt]
 have kk:∀a o,¬Av F σ δ a->H a=some o->upd H l (.lst ys) a=some o:=λa o n e=>by rw[JK (λz=>n (by rw[z];exact hl))];exact e
 have av:∀a,Av F σ (δ.set i (.own ds')) a->Av F σ δ a:=λa z=>by
  rcases z with z | ⟨j,h1,h2⟩
  ·exact .inl z
  ·by_cases z:j=i
   ·subst z;exact .inr ⟨j,h1,.inr ⟨ds,h⟩⟩
   ·rw[QaB z] at h2;exact .inr ⟨j,h1,h2⟩
 have up:∀{b:Addr}{o:HO},b≠l->H b=some o->upd H l (.lst ys) b=some o:=λn e=>by rw[JK n];exact e
 refine⟨?_,⟨kk,λa z=>.inl (av a z)⟩⟩;exact{
  len:=by rw[Z9];exact r.len
  dom:=λa ha=>by
   by_cases z:a=l
   ·rw[z];exact⟨_,Jp⟩
   ·obtain⟨xs,e⟩:=r.dom a ha;exact⟨xs,up z e⟩
  dom0:=r.dom0
  pt0:=λp hp=>by
   obtain⟨h1,n,e⟩:=r.pt0 p hp;refine⟨h1,n,up (λz=>?_) e⟩;obtain⟨xs,e'⟩:=r.dom0 p h1;rw[z,f] at e';cases e'
  kx:=λb o n e=>up (λz=>by rw[z,f] at e;cases e) (r.kx b o n e)
  sl:=λj o y h1 h2=>by
   by_cases z:j=i
   ·subst z;rw[ge] at h2;cases h2;rw[hx] at h1;cases h1;exact⟨l,ys,rfl,Jp,q.mv kk λa z=>.inl (av a z),f⟩
   ·rw[QaB z] at h2;have hh:=r.sl j o y h1 h2;cases y with
    |no=>trivial
    |v d=>obtain⟨v',e,q'⟩:=hh;exact⟨v',e,q'.mv kk λa z=>.inl (av a z)⟩
    |own es=>
     obtain⟨l',xs,rfl,e2,q',f'⟩:=hh;exact⟨l',xs,rfl,up (λz2=>z (r.inj j i l' es h2 h1 ⟨by rw[z2];exact hx,.inr ⟨ds,h⟩⟩)) e2,q'.mv kk λa z=>.inl (av a z),f'⟩
    |pk es=>
     obtain⟨l',xs,rfl,e2,q',ys',f',f2⟩:=hh;exact⟨l',xs,rfl,up (λz2=>by rw[z2,f] at f';cases f') e2,q'.mv kk λa z=>.inl (av a z),ys',f',f2⟩
    |pot=>
     obtain⟨p,n,rfl,e2,w⟩:=hh;refine⟨p,n,rfl,up (λz2=>?_) e2,w⟩;subst z2;exact r.own_pot h hx ⟨j,h1,h2⟩
    |scr=>exact hh
  inj:=λj k a es h1 h2 ⟨h3,h4⟩=>by
   have h4':δ[k]? = some .pot∨∃ds,δ[k]? = some (.own ds):=by
    by_cases z:k=i
    ·subst z;exact .inr ⟨ds,h⟩
    ·rw[QaB z] at h4;exact h4
   by_cases z:j=i
   ·subst z;exact r.inj j k a ds h h2 ⟨h3,h4'⟩
   ·rw[QaB z] at h1;exact r.inj j k a es h1 h2 ⟨h3,h4'⟩ }
def Qyg(i:Nat)(we:DE):DS:=λD δ=>match δ[i]? with
 |some (.own ds)=>we δ (λd=>ds.length<1000000/\D.nx (δ.set i (.own (ds++[d])))) D.ex
 |_=>False
theorem QsN(h:PS X st (Qsf (tBM X.K "list" QlO (Qfa i) (Qd4 (tX .D X.K E we) QpX)))):PS X st (tS X.K E (Qyg i we)):=by
 refine PS.imp h λD σ H ⟨F,δ,DD,rel,hw,en⟩=>?_
 unfold Qyg at hw;split at hw
 ·rename_i ds hd
  obtain⟨x,hx⟩:=rel.lt hd;obtain⟨l,xs,rfl,e,q,f⟩:=rel.sl i _ _ hx hd;have np:=rel.own_pot hd hx;refine⟨.ref l,hx,.inl ⟨rfl,_,SqL.of e⟩,F,δ,_,DD.ex,rel,hw,λd ⟨hl,hn⟩ v H' rel' kp vk=>?_,en.ex⟩;have q':=kp.das q;refine⟨l,xs,v,rfl,rfl,kp.1 _ _ np e,QN (by rw[q.length];exact hl) QkM,?_⟩;obtain⟨r2,st⟩:=rel'.mut hd hx (q'.app (.cons vk .nil));exact en.nx.go _ hn _ _ r2 ((Stp.kp kp).trans st)
 ·exact hw.elim
@[irreducible] def Qt5(items:List Qa)(wg:DG)(wb:DS)(D:Qe1)(δ:Sts):Prop:=∃Iv:Nat->Sts->Prop,Iv 0 δ/\(∀(i:Nat) d δ,items[i]? = some d->Iv i δ->wg d δ λδ2=>wb { D with nx:=Iv (i+1),ct:=Iv (i+1),bk:=D.nx } δ2)/\∀δ,Iv items.length δ->D.nx δ
def dFor(wi:DI)(wg:DG)(wb:DS):DS:=λD δ=>wi δ (λitems=>Qt5 items wg wb D δ) D.ex
theorem QsM{tg iter:QZ}{body:List Y3}{pos:Pos}{ix:List Nat}{wi:DI}{wg:DG}{wb:DS}(hp:PassesOwn (model X.prog X.w) X.A X.env X.xe)(hc:X.calm=true)(hi:PI X tg iter (tI .D X.K E wi))(hg:PG X tg (tG ix X.K wg))(hb:PSs X body (tS X.K E wb))
  (hs:∀x,foldedSetIterable iter X.env x=pure x:=by intro _;rfl):PS X (.For tg iter body [] pos) (tS X.K E (dFor wi wg wb)):=by
 refine PS.imp (QjB hp hc hi hg hb hs) λD σ H ⟨F,δ,DD,rel,hw,en⟩=>?_
 refine⟨F,δ,_,DD.ex,rel,hw,λitems hC J H1 rel1 kp1 ⟨ln,it⟩=>?_,en.ex⟩;unfold Qt5 at hC;obtain⟨Iv,i0,step,fin⟩:=hC;have en1:=en.step (Stp.kp (F:=F) kp1);refine⟨λi m σ' H'=>m=items.length - i/\i<=items.length/\∃δ',Iv i δ'/\Rel X.K F σ' H' δ'/\Stp F σ H1 δ σ' H' δ',⟨_,rfl,Qq _,δ,i0,rel1,Stp.refl⟩,?_⟩;rintro i m σ' H' ⟨rfl,hi',δ',iv,r',st'⟩;obtain⟨go,stop⟩:=it H' (Av F σ' δ') st'.1 st'.2 λa ha=>r'.isl ha
 by_cases hlt:i<items.length
 ·have hd:items[i]? = some items[i]:=Qd hlt;obtain⟨g1,g2⟩:=go i _ hd;refine .inr ⟨g1,λσ2 H2=>∃δ2,Iv (i+1) δ2/\Rel X.K F σ2 H2 δ2/\Stp F σ H1 δ σ2 H2 δ2,λσ2 H2 ⟨δ2,h2,r2,s2⟩=>⟨_,by omega,rfl,hlt,δ2,h2,r2,s2⟩,λx H3 y=>?_⟩;obtain⟨s3,dx⟩:=g2 x H3 y;have r3:=r'.same s3;have st3:Stp F σ H1 δ σ' H3 δ':=st'.trans (Stp.kp (Kp.same r' s3));refine⟨F,δ',_,_,r3,dx,step i _ δ' hd iv,λδ4 h4 σ4 r4 st4 _ _=>⟨F,δ4,_,r4,h4,?_⟩⟩;have st5:=st3.trans st4;exact⟨⟨λδ6 h6 σ6 H6 r6 s6=>⟨δ6,h6,r6,st5.trans s6⟩⟩,en.rt,en.rtF,(en1.step st5).nx,⟨λδ6 h6 σ6 H6 r6 s6=>⟨δ6,h6,r6,st5.trans s6⟩⟩,en.ex⟩
 ·have e:i=items.length:=by omega
  subst e;exact .inl ⟨stop,(en1.step st').nx.go δ' (fin δ' iv) σ' H' r' Stp.refl⟩
theorem Qgs{lo:Int}{n:Nat}{wg:DG}{wb:DS}{D:Qe1}{δ:Sts}(Iv:Nat->Sts->Prop)(h0:Iv 0 δ)
  (hs:∀(i:Nat) δ,i<n->Iv i δ->wg (.int (lo+i)) δ λδ2=>wb { D with nx:=Iv (i+1),ct:=Iv (i+1),bk:=D.nx } δ2)(hd:∀δ,Iv n δ->D.nx δ):Qt5 (Qos lo n) wg wb D δ:=by
 unfold Qt5;exact⟨Iv,h0,λi d δ hd iv=>by obtain⟨hi,rfl⟩:=QiD hd;exact hs i δ hi iv,λδ iv=>hd δ (by rw[QiC] at iv;exact iv)⟩
theorem QhK{items:List Qa}{wg:DG}{wb:DS}{D:Qe1}{δ:Sts}(Iv:Nat->Sts->Prop)(h0:Iv 0 δ)
  (hs:∀(i:Nat) d δ,items[i]? = some d->Iv i δ->wg d δ λδ2=>wb { D with nx:=Iv (i+1),ct:=Iv (i+1),bk:=D.nx } δ2)(hd:∀δ,Iv items.length δ->D.nx δ):Qt5 items wg wb D δ:=by
 unfold Qt5;exact⟨Iv,h0,hs,hd⟩
def Qwl(we:DE):DS:=λD δ=>we δ (λ_=>D.nx δ) D.ex
theorem QoN(h:PS X st (Qsf (tX .P X.K E we))):PS X st (tS X.K E (Qwl we)):=by
 refine PS.imp h λD σ H ⟨F,δ,DD,rel,hw,en⟩=>?_
 exact⟨F,δ,_,DD.ex,rel,hw,λd hd v H' rel' kp vk=>en.nx.go δ hd σ H' rel' (Stp.kp kp),en.ex⟩
end
def stD(N:List Str)(args:List Sl):Sts:=args++JC (N.length - args.length) .no
theorem Qfz{α β:Type}{R:α->β->Prop}:∀{xs:List α}{ys:List β},Qam R xs ys->∀(i:Nat) x y,xs[i]? = some x->ys[i]? = some y->R x y
 |_,_,.nil,i,x,y,h,_=>by simp at h
 |_,_,.cons a b,0,x,y,h,h'=>by simp at h h';subst h h';exact a
 |_,_,.cons a b,i+1,x,y,h,h'=>Qfz b i x y (by simpa using h) (by simpa using h')
theorem Qls{K:PySem.W.Frag}{N:List Str}{A pt:Addr->Prop}{H:Hp}{vs:List V}{args:List Sl}(dm:∀a,A a->∃xs,H a=some (.lst xs))(hp:∀p,pt p->A p/\∃n,H p=some (.lst [.int n]))(q:Qam (Qjk A pt H) vs args):Rel K ⟨H,A,pt⟩ (L2.start N vs) H (stD N args):=by
 have hl:vs.length=args.length:=q.length;have no:∀(i:Nat) x,(stD N args)[i]? = some x->(i<args.length/\args[i]? = some x)∨x=.no:=λi x h=>by
  unfold stD at h;by_cases z:i<args.length
  ·rw[Zp z] at h;exact .inl ⟨z,h⟩
  ·rw[Jd (by omega),Qb2] at h;split at h
   ·exact .inr (Qw h).symm
   ·cases h
 have arg:∀(i:Nat) o x,(L2.start N vs)[i]? = some o->(stD N args)[i]? = some x->x≠.no->∃v,o=some v/\Qjk A pt H v x:=λi o x h1 h2 hx=>by
  rcases no i x h2 with⟨z,e⟩ | e
  ·unfold L2.start at h1;rw[Zp (by rw[Qf];omega),Qy] at h1;obtain⟨v,hv,rfl⟩:=Yg.mp h1;exact⟨v,rfl,Qfz q i v x hv e⟩
  ·exact absurd e hx
 have av:∀a,Av ⟨H,A,pt⟩ (L2.start N vs) (stD N args) a->A a:=λa z=>by
  rcases z with z | ⟨i,h1,h2⟩
  ·exact z
  ·rcases h2 with h2 | ⟨ds,h2⟩
   ·obtain⟨v,e,p,rfl,hp'⟩:=arg i _ _ h1 h2 (λz=>by cases z);cases e;exact(hp _ hp').1
   ·obtain⟨v,e,hh⟩:=arg i _ _ h1 h2 (λz=>by cases z);exact hh.elim
 exact{
  len:=by unfold L2.start stD;rw[Qv,Qv,Qf,QcJ,QcJ,hl]
  dom:=dm
  dom0:=dm
  pt0:=hp
  kx:=λ_ _ _ e=>e
  sl:=λi o x h1 h2=>by
   cases x with
   |no=>trivial
   |v d=>
    obtain⟨v,e,hh⟩:=arg i _ _ h1 h2 (λz=>by cases z);exact⟨v,e,DA.mv hh (λ_ _ _ e=>e) λa z=>.inl (av a z)⟩
   |pot=>
    obtain⟨v,e,p,rfl,hp'⟩:=arg i _ _ h1 h2 (λz=>by cases z);obtain⟨_,n,en⟩:=hp p hp';exact⟨p,n,e,en,.inl hp'⟩
   |own ds=>obtain⟨v,e,hh⟩:=arg i _ _ h1 h2 (λz=>by cases z);exact hh.elim
   |pk ds=>obtain⟨v,e,hh⟩:=arg i _ _ h1 h2 (λz=>by cases z);exact hh.elim
   |scr=>obtain⟨v,e,hh⟩:=arg i _ _ h1 h2 (λz=>by cases z);exact hh.elim
  inj:=λi j a ds h1 h2 _=>by
   obtain⟨v,e,hh⟩:=arg i _ _ h2 h1 (λz=>by cases z);exact hh.elim }
def Qzg:Qa->Bool
 |.list _=>false
 |_=>true
def rtD:Bool->(Qa->Prop)->Qa->Prop
 |true,R,d=>Qzg d=true/\R d
 |false,R,d=>R d
def QtA(fr:Bool)(R:Qa->Prop)(EX:XP):Qe1:=⟨λ_=>R .none,rtD fr R,R,λ_=>False,λ_=>False,EX⟩
theorem Qtz{K:PySem.W.Frag}{E Ex:XK}{fr:Bool}{A pt:Addr->Prop}{H:Hp}{R:Qa->Prop}{EX EX':XP}{Q:VK}{σ:L2.St}{δ:Sts}(k:∀d,R d->∀v H',Kq pt H H'->DA A H' v d->(fr=true->FrV H H' v)->Q v H')(o:Out ⟨H,A,pt⟩ E EX') :
  Ends1 K E ⟨H,A,pt⟩ σ H δ (QtA fr R EX') { nx:=λ_ H'=>Q .non H',rt:=Q } where
 nx:=⟨λδ' hR σ' H' r st=>k _ hR _ H' r.ke .non λ_=>Qtx⟩
 rt:=λd h v H' ke dv=>by
  cases fr with
  |false=>exact k d h v H' ke dv λz=>by cases z
  |true=>
   obtain⟨h1,h2⟩:=h;refine k d h2 v H' ke dv λz l e1 ⟨xs,e2⟩=>?_
   subst e1;cases dv with
   |@tup a ys ds n e q=>rw[e] at e2;cases e2
   |@lst a ys ds n e q=>cases h1
   |@dct a n e=>rw[e] at e2;cases e2
 rtF:=λd h v H' ke dv fr'=>k d h v H' ke dv λ_=>fr'
 bk:=⟨λ_ h=>h.elim⟩
 ct:=⟨λ_ h=>h.elim⟩
 ex:=o
section
variable{P:QB}{w:Q8}{K:PySem.W.Frag}{mg:Str->Option Value}{base:Heap}
theorem okD{x qual:Str}{st:Y3}{f:Addr}{fd:Q1}{N ps:List Str}{k:Nat}{fD:DF}(fr:Bool)(F:Fun K x qual st f fd)(S:J3 N ps (QJ st))(len:∀args R EX,fD args R EX->args.length=ps.length)
  (hbody:∀(cdv:Value)(A:Q2)(outer:List Env)(s:Shared)(H:Hp)(E:XK),Room k (A.deeper (envOfC qual (QJ st) s.heap.objs.size f cdv)) ->
   ∃wd,PSs (QnU CX0 P w K mg base N qual (QJ st) f cdv A outer s H E).nox (JW st) (tS K E0 wd)/\∀args R EX,fD args R EX->wd (QtA fr R XF) (stD N args)):FnOk P w K mg base CX0 (k+1) f fd ps (ZW fr fD):=by
 refine F.ok S (λvs H Q E h=>?_) λcdv A outer s H vs Q E hr h=>?_
 ·obtain⟨A,pt,args,R,EX,_,_,q,h,_⟩:=h;rw[q.length];exact len _ _ _ h
 ·obtain⟨wd,hp,hw⟩:=hbody cdv A outer s H E hr;obtain⟨A',pt,args,R,EX,dm,hpt,q,h,k,_⟩:=h;exact⟨_,hp,⟨H,A',pt⟩,_,_,Qls dm hpt q,hw args R EX h,Qtz (Ex:=E) (EX:=EX) k Qrj⟩
end
end Dl
namespace L2
def Qym(i j:Int):Prop:=0<j/\j<=10^40
theorem Qo2{X:Cx}:OpR X (binaryOp .FloorDiv) (rI Qym λi j=>.int (i / j)):=opI λi j _ _ _ _ _ hc q=>by
 have h1:(0:Int)<j:=hc.1;have h2:j<=10^40:=hc.2;refine floordiv_int (by omega) (by rw[Int.fdiv_eq_ediv_of_nonneg i (by omega)];exact q) (.inl (PyProof.noPylong_of_log2 ?_));have h3:j.natAbs<2^200:=by
  have:(10:Int)^40<2^200:=by decide
  omega
 have:=(Nat.log2_lt (by omega:j.natAbs≠0)).mpr h3;omega
end L2
namespace Rk
open L2 _root_.Rd
def Qjw:Sp:=λvs H Q _=>∃p n f,vs=[.ref p,.int f]/\H p=some (.lst [.int n])/\0<f/\f<=10^40/\∀r m,0<=r->r<f->Q (.int r) (upd H p (.lst [.int m]))
end Rk
namespace Dl
open L2 _root_.Rd Rk
theorem Yw{X:Cx}{E:XK}:Qcu CX0 X E:=λ_ _ _ _ _ _ _ h=>h.elim
theorem Room.u60{k:Nat}{A:Q2}(r:Room k A):A.units+60<cLine:=by have:=r.un;omega
theorem Room.i60{k:Nat}{A:Q2}(r:Room k A):A.in1.units+60<cLine:=by
 have:=r.un;show A.units+1+60<cLine;omega
section
variable{X:Cx}{E:XK}{CX:CXT}{k:Nat}{f:Addr}{fd:Q1}{ps:List Str}{x:Str}{p pos:Pos}{e:QZ}{es:List QZ}{fD:DF}
def Qi8(f:DF)(wa:DAr):DE:=λδ Q EX=>wa δ (λds=>f (ds.map Sl.v) (λd=>scal d=true/\Q d) EX) EX
theorem Qje{n:Nat}{fr:Bool}{K:PySem.W.Frag}{f:DF}{wa:DAr}(σ:L2.St)(H:Hp)(Q:VK)(h:tX .F K E (Qi8 f wa) σ H Q):Qks (ZW fr f) [] E (tAr n .P K E wa) σ H Q:=by
 obtain⟨F,δ,R,EX,rel,hw,k,o⟩:=h;refine⟨F,δ,_,EX,rel,hw,λargs ha _ vs H1 rel1 kp1 q=>?_,o⟩;show ZW fr f (vs++[]) H1 Q E;rw[JA];refine⟨λa=>Av F σ δ a/\¬QyX (Yj σ δ) H1 vs a,λ_=>False,args.map Sl.v,_,EX,λa ha=>rel1.isl ha.1,λp hp=>hp.elim,QhC vs (λ_ h=>h) q,ha,λd hd v H' kq dv fr=>?_,λC hC H' kq=>o C hC H' (rel1.same λb o e=>kq.1 b o (λz=>z) e).ke⟩;have s:Same H1 H':=λb o e=>kq.1 b o (λz=>z) e
 refine k d hd.2 v H' (rel1.same s) (kp1.trans (Kp.same rel1 s)) ⟨Qsm dv hd.1,λl e1 e2=>?_⟩;subst e1;have hf:=hd.1;cases dv<;>cases hf
theorem Ql5{n:Nat}{fr:Bool}{wr:DAr}(G:FnOk X.prog X.w X.K X.mg X.base CX k f fd ps (ZW fr fD))(hr:Room k X.A)(hg:Gl X x)(hm:X.mg x=some (.ref f))(hk:PySem.W.keepIn X.K (.ref f)=true)(hb:Binds X.K fd ps [])(hx:Qcu CX X E)
  (ha:PA X (e::es) (tAr n .P X.K E wr))(hdb:(x == ("__debug__" : Str))=false:=by decide)(he:starEach (e::es) X.env=(false,eval e X.env)::starEach es X.env:=by rfl)(hpl:(backTo pos (starEach es X.env)).any (·.1)=false:=by rfl) :
  PE X (.Call (.Name x p) (e::es) [] pos) (tX .F X.K E (Qi8 fD wr)):=PE.imp (Qa9 G hr hg hm hk hb .nil hx ha hdb he hpl) Qje
def Qoa:DF:=λargs R _=>∃f,args=[.pot,.v (.int f)]/\0<f/\f<=10^40/\∀r,0<=r->r<f->R (.int r)
theorem Qut{vs:List V}{H:Hp}{Q:VK}{Ex:XK}(h:ZW true Qoa vs H Q Ex):Qjw vs H Q Ex:=by
 obtain⟨A,pt,args,R,EX,dm,hp,q,⟨f,rfl,f0,f1,hR⟩,k,_⟩:=h;cases q with
 |cons q1 q2=>cases q2 with
  |cons q2 q3=>
   cases q3;obtain⟨p,rfl,pp⟩:=q1;cases q2;obtain⟨_,n,e⟩:=hp p pp;refine⟨p,n,f,rfl,e,f0,f1,λr m r0 r1=>k _ (hR r r0 r1) _ _ ⟨λb o nb eb=>?_,λz hz=>?_⟩ (.int _) λ_=>Qae⟩
   ·rw[JK (λz=>nb (by rw[z];exact pp))];exact eb
   ·by_cases y:z=p
    ·rw[y];exact⟨m,Jp⟩
    ·obtain⟨_,n',e'⟩:=hp z hz;exact⟨n',by rw[JK y];exact e'⟩
def QxJ:DF:=λargs R _=>∃c,args=[.v (.int c)]/\∀n,R (.list [.int n])
theorem QxI{vs:List V}{H:Hp}{Q:VK}{Ex:XK}(h:ZW true QxJ vs H Q Ex):Qux vs H Q Ex:=by
 obtain⟨A,pt,args,R,EX,dm,hp,q,⟨c,rfl,hR⟩,k,_⟩:=h;cases q with
 |cons q1 q2=>
  cases q2;cases q1;refine⟨c,rfl,λp n hn=>k _ (hR n) _ _ ⟨λb o _ eb=>Jy hn b o eb,λz hz=>?_⟩ (.lst (λz=>?_) Jp (.cons (.int _) .nil)) λ_=>Qay hn⟩
  ·obtain⟨_,n',e'⟩:=hp z hz;exact⟨n',Jy hn _ _ e'⟩
  ·obtain⟨xs,e⟩:=dm p z;rw[hn] at e;cases e
def isW:Qa->Bool
 |.int _=>true
 |_=>false
def Qg6:DF:=λargs R _=>∃d,args=[.v d]/\R (.bool (isW d))
def Qsp(n:Nat):DF:=λargs R _=>∃d,args=[.v d,.v d]/\nd d=true/\Qc5 n d=true/\R (.bool true)
theorem QuJ{n:Nat}{vs:List V}{H:Hp}{Q:VK}{Ex:XK}(h:ZW false (Qsp n) vs H Q Ex):Qiy (n+1) vs H Q Ex:=by
 obtain⟨A,pt,args,R,EX,dm,hp,q,⟨d,rfl,hn,hf,hR⟩,k,_⟩:=h;cases q with
 |cons q1 q2=>cases q2 with
  |cons q2 q3=>
   cases q3;exact⟨_,_,d,rfl,QhN d _ hn q1,QhN d _ hn q2,hf,λH' s=>k _ hR _ H' ⟨λb o _ e=>s b o e,λp hp'=>let ⟨_,n,e⟩:=hp p hp';⟨n,s _ _ e⟩⟩ (.bl _) λz=>by cases z⟩
theorem QlA{K:PySem.W.Frag}{F:Fm}{σ:L2.St}{H:Hp}{δ:Sts}(r:Rel K F σ H δ){a:Addr}{xs:List V}(h:SqL K F.H0 a xs)(n:¬F.pt a):SqL K H a xs:=by
 rcases h with h | h
 ·rcases h with h | ⟨o,h⟩
  ·exact .inl (.inl (r.kx _ _ n h))
  ·exact .inl (.inr ⟨o,r.kx _ _ n h⟩)
 ·exact .inr h
def QtH(i:Nat):DE:=λδ Q _=>match δ[i]? with
 |some .scr=>∀n:Nat,n<=63->Q (.int n)
 |_=>False
theorem QsR{i:Nat}{a:QZ}(hg:Gl X "len")(hm:X.mg "len" = none)(h:PE X a (Qfa i))(hs:notStar a=true:=by rfl):PE X (.Call (.Name "len" p) [a] [] pos) (tX .F X.K E (QtH i)):=by
 refine PE.imp (Zo Y2 hg hm QbZ (Qfc h JN hs) (he:=by rw[YD hs])) λσ H Q ⟨F,δ,R,EX,rel,hw,k,o⟩=>?_
 unfold QtH at hw;split at hw
 ·rename_i hd
  obtain⟨x,hx⟩:=rel.lt hd;obtain⟨l,ns,rfl,sq,np,n63⟩:=rel.sl i _ _ hx hd;refine⟨_,hx,l,_,rfl,.inl (QlA rel sq np),?_⟩;rw[Qf];exact k _ (hw _ n63) _ H rel (Kp.refl rel) ⟨.int _,Qae⟩
 ·exact hw.elim
def QtI(i:Nat)(wb:DE):DE:=λδ Q EX=>match δ[i]? with
 |some .scr=>wb δ (λd=>match d with
  |.int k=>0<=k/\∀c,Q (.int c)
  |_=>False) EX
 |_=>False
theorem QsU{i:Nat}{a b:QZ}{wb:DE}(G:FnOk X.prog X.w X.K X.mg X.base CX0 k f fd ps (QcY X.K))(hr:Room k X.A)(hg:Gl X x)(hm:X.mg x=some (.ref f))(hk:PySem.W.keepIn X.K (.ref f)=true)(hb:Binds X.K fd ps [])
  (ha:PE X a (Qfa i))(h:PE X b (tX .P X.K E wb))(h1:notStar a=true:=by rfl)(h2:notStar b=true:=by rfl)(hdb:(x == ("__debug__" : Str))=false:=by decide) :
  PE X (.Call (.Name x p) [a,b] [] pos) (tX .F X.K E (QtI i wb)):=by
 refine PE.imp (Qa9 (E:=E) G hr hg hm hk hb .nil Yw (Qfc ha (Qfc h JN h2) h1) hdb (YD h1) (by rw[YD h2];rfl)) λσ H Q ⟨F,δ,R,EX,rel,hw,k,o⟩=>?_
 unfold QtI at hw;split at hw
 ·rename_i hd
  obtain⟨x,hx⟩:=rel.lt hd;obtain⟨l,ns,rfl,sq,np,n63⟩:=rel.sl i _ _ hx hd;refine⟨_,hx,F,δ,_,EX,rel,hw,λd hd2 v H' rel' kp vk=>?_,o⟩;cases d<;>first | exact(show False from hd2).elim | skip
  rw[DP.int vk];exact⟨l,ns,_,rfl,QlA rel' sq np,Qaq n63 (by decide),hd2.1,λc=>k _ (hd2.2 c) _ H' rel' kp ⟨.int _,Qae⟩⟩
 ·exact hw.elim
end
section
variable{P:QB}{w:Q8}{K:PySem.W.Frag}{mg:Str->Option Value}{base:Heap}
def Qfn(K:PySem.W.Frag):Sp:=λvs H Q _=>∃(a:Addr)(ns:List Int),vs=[.ref a]/\SqL K H a (ns.map V.int)/\ns.length<=63/\∀H',Q (.bl true) H'
def Qv6:Qe1:=⟨λ_=>False,λd=>d=.bool true,λd=>d=.bool true,λ_=>False,λ_=>False,XF⟩
theorem QxW{x qual:Str}{st:Y3}{f:Addr}{fd:Q1}{N:List Str}{p:Str}{k:Nat}(F:Fun K x qual st f fd)(S:J3 N [p] (QJ st))
  (hbody:∀(cdv:Value)(A:Q2)(outer:List Env)(s:Shared)(H:Hp)(E:XK),Room k (A.deeper (envOfC qual (QJ st) s.heap.objs.size f cdv)) ->
   ∃wd,PSs (QnU CX0 P w K mg base N qual (QJ st) f cdv A outer s H E).nox (JW st) (tS K E0 wd)/\wd Qv6 (stD N [.scr])):FnOk P w K mg base CX0 (k+1) f fd [p] (Qfn K):=by
 refine F.ok S (λvs H Q E h=>?_) λcdv A outer s H vs Q E hr h=>?_
 ·obtain⟨a,ns,rfl,_⟩:=h;rfl
 ·obtain⟨wd,hp,hw⟩:=hbody cdv A outer s H E hr;obtain⟨a,ns,rfl,sq,n63,k⟩:=h;have get0:∀(i:Nat) o y,(L2.start N [V.ref a])[i]? = some o->(stD N [.scr])[i]? = some y->y≠.no->o=some (.ref a)/\y=.scr:=λi o y h1 h2 hy=>by
   cases i with
   |zero=>cases h1;cases h2;exact⟨rfl,rfl⟩
   |succ i=>
    unfold stD at h2;rw[Jd (by simp),Qb2] at h2;split at h2
    ·exact absurd (Qw h2).symm hy
    ·cases h2
  have noav:∀b,¬Av (⟨H,λ_=>False,λ_=>False⟩:Fm) (L2.start N [V.ref a]) (stD N [.scr]) b:=λb z=>by
   rcases z with z | ⟨i,h1,h2⟩
   ·exact z
   ·rcases h2 with h2 | ⟨ds,h2⟩
    ·cases(get0 i _ _ h1 h2 (λz=>by cases z)).2
    ·cases(get0 i _ _ h1 h2 (λz=>by cases z)).2
  refine⟨_,hp,⟨H,λ_=>False,λ_=>False⟩,_,_,?_,hw,?_⟩
  ·exact{
    len:=by unfold L2.start stD;simp
    dom:=λ_ h=>h.elim
    dom0:=λ_ h=>h.elim
    pt0:=λ_ h=>h.elim
    kx:=λ_ _ _ e=>e
    sl:=λi o y h1 h2=>by
     cases y with
     |no=>trivial
     |scr=>
      obtain⟨rfl,_⟩:=get0 i _ _ h1 h2 (λz=>by cases z);exact⟨a,ns,rfl,sq,λz=>z,n63⟩
     |v d=>cases(get0 i _ _ h1 h2 (λz=>by cases z)).2
     |own d=>cases(get0 i _ _ h1 h2 (λz=>by cases z)).2
     |pk d=>cases(get0 i _ _ h1 h2 (λz=>by cases z)).2
     |pot=>cases(get0 i _ _ h1 h2 (λz=>by cases z)).2
    inj:=λi j b ds h1 h2 _=>by cases(get0 i _ _ h2 h1 (λz=>by cases z)).2 }
  ·exact{
    nx:=⟨λ_ h=>h.elim⟩
    rt:=λd h v H' ke dv=>by cases(show d=.bool true from h);cases dv;exact k H'
    rtF:=λd h v H' ke dv _=>by cases(show d=.bool true from h);cases dv;exact k H'
    bk:=⟨λ_ h=>h.elim⟩
    ct:=⟨λ_ h=>h.elim⟩
    ex:=Qrj }
end
theorem Qww{α:Type}{p:α->Prop}:∀x∈([]:List α),p x:=λ_ h=>nomatch h
theorem QnB{α:Type}{p:α->Prop}{a:α}{l:List α}(h:p a)(t:∀x∈l,p x):∀x∈a::l,p x:=λx hx=>by
 rcases Qs.mp hx with z | z
 ·rw[z];exact h
 ·exact t x z
theorem Qwt{b c:Bool}{R:Qa->Prop}(h:R (.bool (b&&c))):if b=true then R (.bool c) else R (.bool false):=by
 cases b
 ·exact QdW h
 ·exact QeM h
theorem QtW{b c:Bool}{R:Qa->Prop}{Pk:Prop}(h:R (.bool (b&&c)))(k:b=true->R (.bool c)->Pk):if b=true then Pk else R (.bool false):=by
 cases b
 ·exact QdW h
 ·exact QeM (k rfl h)
theorem ifF{c:Bool}{A B:Prop}(h:c=false)(k:B):if c=true then A else B:=by subst h;exact k
theorem ifC{c:Bool}{A B:Prop}(t:c=true->A)(f:c=false->B):if c=true then A else B:=by
 cases c
 ·exact f rfl
 ·exact t rfl
theorem all_map{α:Type}(l:List α)(g:α->Bool):(l.map g).all id=l.all g:=by
 rw[List.all_map];rfl
theorem QgJ{ds:List Qa}{Q:Qa->Prop}{g:Qa->Bool}{items:List Qa}(h:ds=[.list (items.map λd=>.bool (g d))])(q:Q (.bool (items.all g))):QwS ds Q:=by
 subst h;unfold QwS;refine⟨items.map g,?_,by rw[all_map];exact q⟩;rw[show items.map (λd=>Yx (g d))=(items.map g).map Yx by rw[Je];rfl,Qns]
end Dl
namespace L2
section
variable{X:Cx}
end
end L2
namespace Dl
open L2 _root_.Rd Rk
section
variable{X:Cx}{E:XK}
variable{e:QZ}{w:DE}{p p2 pos pos2:Pos}
end
theorem Qws{ds:List Qa}{i:Int}(h0:0<=i)(h1:i<ds.length):∃d,d∈ds/\atI ds i=some d:=by
 obtain⟨j,rfl⟩:∃j:Nat,i=j:=⟨i.toNat,by omega⟩
 have hj:j<ds.length:=by omega
 exact⟨ds[j],Yi hj,Qb0 (Qd hj)⟩
theorem QxY{ds:List Qa}{i:Int}{Q:Qa->Prop}(h0:0<=i)(h1:i<ds.length)(q:∀d∈ds,Q d):∃d,atI ds i=some d/\Q d:=by
 obtain⟨d,hd,e⟩:=Qws h0 h1;exact⟨d,e,q d hd⟩
theorem QgA{xs:List Qa}{lo hi:Option Int}{d:Qa}(h:d∈cutD xs lo hi):d∈xs:=QaW (Qdj h)
structure QE (m:Md) (X:Cx) (E:XK) (e:QZ) (w:DE):Prop where h:PE X e (tX m X.K E w)
structure QT (X:Cx) (E:XK) (e:QZ) (w:DT):Prop where h:PT X e (tT X.K E w)
structure QW (X:Cx) (E:XK) (e:QZ) (w:DT):Prop where h:PW X e (tT X.K E w)
structure QTs (X:Cx) (E:XK) (es:List QZ) (w:DT):Prop where h:PTs X es (tT X.K E w)
structure QA (n:Nat) (m:Md) (X:Cx) (E:XK) (es:List QZ) (w:DAr):Prop where h:PA X es (tAr n m X.K E w)
structure QAs (X:Cx) (E:XK) (es:List QZ) (w:DSl):Prop where h:PA X es (tAs X.K E w)
structure QO (X:Cx) (E:XK) (o:Option QZ) (w:DO):Prop where h:PO X o (tO X.K E w)
structure QG (ix:List Nat) (X:Cx) (tg:QZ) (w:DG):Prop where h:PG X tg (tG ix X.K w)
structure QI (m:Md) (X:Cx) (E:XK) (tg it:QZ) (w:DI):Prop where h:PI X tg it (tI m X.K E w)
structure QS (X:Cx) (E:XK) (st:Y3) (w:DS):Prop where h:PS X st (tS X.K E w)
structure QSs (X:Cx) (E:XK) (sts:List Y3) (w:DS):Prop where h:PSs X sts (tS X.K E w)
section
variable{X:Cx}{E:XK}
theorem Qao{e:QZ}{w:DE}(h:QE .F X E e w):QE .D X E e w:=⟨toD h.h⟩
theorem Yc{e:QZ}{w:DE}(h:QE .D X E e w):QE .P X E e w:=⟨toP h.h⟩
theorem JL{e:QZ}{w:DE}(h:QE .F X E e w):QE .P X E e w:=⟨Qy0 h.h⟩
theorem qv(i:Nat){x:Str}{pos:Pos}(hN:X.N[i]? = some x:=by rfl)(hv:Vis X.env.scope x:=by first | exact Jw rfl | exact Ju (Jw rfl) | exact Ju (Ju rfl))(hd:(x == ("__debug__" : Str))=false:=by decide)(hcd:(x == ("__classdict__" : Str))=false:=by decide):QE .D X E (.Name x pos) (Qye i):=⟨Qve (pv i hN hv hd hcd)⟩
theorem qp(i:Nat){x:Str}{pos:Pos}(hN:X.N[i]? = some x:=by rfl)(hv:Vis X.env.scope x:=by first | exact Jw rfl | exact Ju (Jw rfl) | exact Ju (Ju rfl))(hd:(x == ("__debug__" : Str))=false:=by decide)(hcd:(x == ("__classdict__" : Str))=false:=by decide):QE .P X E (.Name x pos) (dPk i):=⟨QxO (pv i hN hv hd hcd)⟩
theorem Qac{i:Int}{j pos}:QE .D X E (.Constant (.int i) j pos) (dC (.int i)):=⟨Qvk⟩
theorem Qu2{b:Bool}{j pos}:QE .D X E (.Constant (.bool b) j pos) (dC (.bool b)):=⟨QxT⟩
theorem Qrb{x:Str}(i:Int){u:Value}{pos:Pos}(hg:Gl X x)(hm:X.mg x=some u)(r:RelV (.int i) u)(hd:(x == ("__debug__" : Str))=false:=by decide):QE .D X E (.Name x pos) (dC (.int i)):=⟨QxS (QsC hg hm r hd) λ_ _=>.int i⟩
theorem Qfb{a b:QZ}{wa wb:DE}{pos:Pos}{r:R2}{rD:Qa->Qa->(Qa->Prop)->Prop}{op:QnZ}(ho:OpR X (binaryOp op) r)(hd:OpD r rD)(ha:QE .P X E a wa)(hb:QE .P X E b wb):QE .F X E (.BinOp a op b pos) (dOp rD wa wb):=⟨Qvm ho hd ha.h hb.h⟩
theorem Qga{a b:QZ}{wa wb:DE}{pos:Pos}{r:R2}{rD:Qa->Qa->(Qa->Prop)->Prop}{op:QfV}(ho:OpR X (compareOp op) r)(hd:OpD r rD)(ha:QE .P X E a wa)(hb:QE .P X E b wb)(hm:behindInMarks op b=false):QE .F X E (.Compare a [op] [b] pos) (dOp rD wa wb):=⟨Qvl ho hd ha.h hb.h hm⟩
theorem Qey{a b:QZ}{wa wb:DE}{pos:Pos}{r:R2}{rD:Qa->Qa->(Qa->Prop)->Prop}{op:QfV}(ho:OpR X (compareOp op) r)(hd:OpD r rD)(ha:QE .P X E a wa)(hb:QE .P X E b wb)(hm:behindInMarks op b=false):QT X E (.Compare a [op] [b] pos) (dTst (dOp rD wa wb)):=⟨QsH ho hd ha.h hb.h hm⟩
theorem Qsy{a b:QZ}{wa wb:DE}{pos:Pos}{r:R2}{rD:Qa->Qa->(Qa->Prop)->Prop}(ho:IxR X r)(hd:QwU r rD)(ha:QE .P X E a wa)(hb:QE .P X E b wb)(hs:Qjj b):QE .D X E (.Subscript a b pos) (dOp rD wa wb):=⟨QxQ ho hd ha.h hb.h hs⟩
theorem QxH{a:QZ}{wa:DE}{pos:Pos}(ha:QE .P X E a wa):QE .F X E (.UnaryOp .USub a pos) (dUn QyD wa):=⟨Qvi ha.h⟩
theorem Qzd{a b c:QZ}{wa wb wc:DE}{pos:Pos}{op op':QfV}{p q:Int->Int->Bool}(ho:OpR X (compareOp op) (rI0 λi j=>.bl (p i j)))(ho':OpR X (compareOp op') (rI0 λi j=>.bl (q i j)))(ha:QE .P X E a wa)(hb:QE .P X E b wb)(hc:QE .P X E c wc)(hm:lastMarks [op,op'] [b,c]=false:=by with_unfolding_all rfl):QE .F X E (.Compare a [op,op'] [b,c] pos) (dCh p q wa wb wc):=⟨QxR ho ho' ha.h hb.h hc.h hm⟩
theorem QxE{a b c:QZ}{wa wb wc:DE}{pos:Pos}{op op':QfV}{p q:Int->Int->Bool}(ho:OpR X (compareOp op) (rI0 λi j=>.bl (p i j)))(ho':OpR X (compareOp op') (rI0 λi j=>.bl (q i j)))(ha:QE .P X E a wa)(hb:QE .P X E b wb)(hc:QE .P X E c wc)(hm:lastMarks [op,op'] [b,c]=false:=by with_unfolding_all rfl):QT X E (.Compare a [op,op'] [b,c] pos) (dTst (dCh p q wa wb wc)):=⟨Qvc ho ho' ha.h hb.h hc.h hm⟩
theorem Qex{e:QZ}{w:DE}(h:QE .P X E e w)(he:∀whole,isTrue e X.env whole=(do let v <- whole;standAt e.pos;holding [v] (truthy v)):=by intro _;rfl):QT X E e (dTst w):=⟨QsF h.h he⟩
theorem Qsu{a:QZ}{pos:Pos}{ta:DT}(ha:QT X E a ta):QW X E (.BoolOp .And [a] pos) ta:=⟨QoG ha.h⟩
theorem QuW{a b:QZ}{rest:List QZ}{pos:Pos}{ta tb:DT}(ha:QT X E a ta)(hb:QW X E (.BoolOp .And (b::rest) pos) tb):QW X E (.BoolOp .And (a::b::rest) pos) (QyS ta tb):=⟨QsE ha.h hb.h⟩
theorem Qox{a b:QZ}{rest:List QZ}{pos:Pos}{wa wb:DE}(ha:QE .P X E a wa)(hb:QE .D X E (.BoolOp .And (b::rest) pos) wb):QE .D X E (.BoolOp .And (a::b::rest) pos) (Qwm wa wb):=⟨Qvn ha.h hb.h⟩
theorem Qp9{a:QZ}{pos:Pos}{ta:DT}(ha:QT X E a ta):QW X E (.BoolOp .Or [a] pos) ta:=⟨QsD ha.h⟩
theorem QuV{a b:QZ}{rest:List QZ}{pos:Pos}{ta tb:DT}(ha:QT X E a ta)(hb:QW X E (.BoolOp .Or (b::rest) pos) tb):QW X E (.BoolOp .Or (a::b::rest) pos) (dOr ta tb):=⟨Qvb ha.h hb.h⟩
theorem QxG{a b:QZ}{rest:List QZ}{pos:Pos}{wa wb:DE}(ha:QE .P X E a wa)(hb:QE .D X E (.BoolOp .Or (b::rest) pos) wb):QE .D X E (.BoolOp .Or (a::b::rest) pos) (QyL wa wb):=⟨QxP ha.h hb.h⟩
theorem QxF{e:QZ}{t:DT}(h:QW X E e t):QT X E e t:=⟨PW.pt h.h⟩
theorem Qfv{a:QZ}{pos:Pos}{ta:DT}(ha:QT X E a ta):QT X E (.UnaryOp .Not a pos) (QyM ta):=⟨QsG ha.h⟩
theorem QiK{op}{a:QZ}{pos:Pos}{w:DE}(h:QE .D X E a w):QE .D X E (.BoolOp op [a] pos) w:=⟨Qvg h.h⟩
theorem QuZ{a:QZ}{pos:Pos}{wa:DE}(ha:QE .P X E a wa):QE .D X E (.UnaryOp .Not a pos) (Qwj wa):=⟨Qvh ha.h⟩
theorem ZI{m:Md}:QA 0 m X E [] QyN:=⟨QsQ⟩
theorem QuY{n:Nat}{e:QZ}{es:List QZ}{we:DE}{wr:DAr}(he:QE .D X E e we)(hr:QA n .D X E es wr)(hs:notStar e=true:=by rfl):QA (n+1) .D X E (e::es) (Qne we wr):=⟨Ql3 he.h hr.h hs⟩
theorem Qc1{n:Nat}{e:QZ}{es:List QZ}{we:DE}{wr:DAr}(he:QE .P X E e we)(hr:QA n .P X E es wr)(hs:notStar e=true:=by rfl):QA (n+1) .P X E (e::es) (Qne we wr):=⟨Ql2 he.h hr.h hs⟩
theorem QlR{n:Nat}{es:List QZ}{w:DAr}{x1}{pos:Pos}(h:QA n .D X E es w)(hn:n<=1000:=by decide):QE .F X E (.Tuple es x1 pos) (QyI w):=⟨Qvf h.h hn⟩
theorem Qsx{n:Nat}{es:List QZ}{w:DAr}{pos:Pos}(h:QA n .D X E es w)(hn:n<=1000:=by decide):QE .F X E (.List es pos) (QyO w):=⟨Qvj h.h hn⟩
theorem YF{x:Str}{bid:String}{p pos:Pos}{e:QZ}{es:List QZ}{n:Nat}{wr:DAr}{r:List V->Hp->VK->Prop}{rD:List Qa->(Qa->Prop)->Prop}(hc:CallR X (.builtin bid) r)(hd:Qde r rD)(hg:Gl X x)(hm:X.mg x=none)(hv:bootBuiltins x=some (.builtin bid))(ha:QA n .P X E (e::es) wr)(hn:x ≠ "__name__" := by decide)(hdb:(x == ("__debug__" : Str))=false:=by decide)(he:starEach (e::es) X.env=(false,eval e X.env)::starEach es X.env:=by rfl)(hpl:(backTo pos (starEach es X.env)).any (·.1)=false:=by rfl):QE .F X E (.Call (.Name x p) (e::es) [] pos) (dCB rD wr):=⟨QoX hc hd hg hm hv ha.h hn hdb he hpl⟩
theorem Qef{x:Str}{T:String}{p pos:Pos}{e:QZ}{es:List QZ}{n:Nat}{wr:DAr}{r:List V->Hp->VK->Prop}{rD:List Qa->(Qa->Prop)->Prop}(hc:CallR X (.type T) r)(hd:Qde r rD)(hg:Gl X x)(hm:X.mg x=none)(hv:bootBuiltins x=some (.type T))(ha:QA n .P X E (e::es) wr)(hn:x ≠ "__name__" := by decide)(hdb:(x == ("__debug__" : Str))=false:=by decide)(he:starEach (e::es) X.env=(false,eval e X.env)::starEach es X.env:=by rfl)(hpl:(backTo pos (starEach es X.env)).any (·.1)=false:=by rfl):QE .F X E (.Call (.Name x p) (e::es) [] pos) (dCB rD wr):=⟨Ql4 hc hd hg hm hv ha.h hn hdb he hpl⟩
theorem Qhm{e:QZ}{we:DE}{p pos pos2:Pos}{x:Str}(tn:Tn)(hg:Gl X "isinstance")(hm:X.mg "isinstance" = none)(he:QE .P X E e we)(hg2:Gl X x)(hm2:X.mg x=none)(hv:bootBuiltins x=some (.type tn.s))(hn:x ≠ "__name__" := by decide)(hd:(x == ("__debug__" : Str))=false:=by decide)(h1:notStar e=true:=by rfl):QE .F X E (.Call (.Name "isinstance" p) [e,.Name x pos2] [] pos) (Qwk tn we):=⟨QsS tn hg hm he.h (QxU tn hg2 hm2 hv hn hd) h1 rfl⟩
theorem QiH  : QO X E none dNo:=⟨QoQ⟩
theorem QiG{e:QZ}{we:DE}(he:QE .P X E e we):QO X E (some e) (dSo we):=⟨QoP he.h⟩
theorem QiJ{e:QZ}{lo hi:Option QZ}{we:DE}{wl wh:DO}{p2 pos:Pos}(he:QE .P X E e we)(hl:QO X E lo wl)(hh:QO X E hi wh):QE .F X E (.Subscript e (.Slice lo hi none p2) pos) (dSl we wl wh):=⟨QoV he.h hl.h hh.h⟩
theorem ZL  : QAs X E [] Qyp:=⟨QsL⟩
theorem QbH{e:QZ}{es:List QZ}{we:DE}{wr:DSl}(he:QE .D X E e we)(hr:QAs X E es wr)(hs:notStar e=true:=by rfl):QAs X E (e::es) (sV we wr):=⟨QxN he.h hr.h hs⟩
theorem QdS(i:Nat){x:Str}{pos:Pos}{es:List QZ}{wr:DSl}(hr:QAs X E es wr)(hN:X.N[i]? = some x:=by rfl)(hv:Vis X.env.scope x:=by first | exact Jw rfl | exact Ju (Jw rfl) | exact Ju (Ju rfl))(hd:(x == ("__debug__" : Str))=false:=by decide)(hcd:(x == ("__classdict__" : Str))=false:=by decide):QAs X E (.Name x pos::es) (Qxw i wr):=⟨QsJ (pv i hN hv hd hcd) hr.h rfl⟩
theorem QaZ{CX:CXT}{k:Nat}{f:Addr}{fd:Q1}{ps:List Str}{x:Str}{p pos:Pos}{e:QZ}{es:List QZ}{fD:DF}{wa:DSl}(G:FnOk X.prog X.w X.K X.mg X.base CX k f fd ps (ZW false fD))(hr:Room k X.A)(hg:Gl X x)(hm:X.mg x=some (.ref f))(hk:PySem.W.keepIn X.K (.ref f)=true)(hb:Binds X.K fd ps [])(hx:Qcu CX X E)(ha:QAs X E (e::es) wa)(hdb:(x == ("__debug__" : Str))=false:=by decide)(he:starEach (e::es) X.env=(false,eval e X.env)::starEach es X.env:=by rfl)(hpl:(backTo pos (starEach es X.env)).any (·.1)=false:=by rfl):QE .D X E (.Call (.Name x p) (e::es) [] pos) (Qnf fD wa):=⟨QsV G hr hg hm hk hb hx ha.h hdb he hpl⟩
theorem YE{CX:CXT}{k:Nat}{f:Addr}{fd:Q1}{ps:List Str}{x:Str}{p pos:Pos}{e:QZ}{es:List QZ}{fD:DF}{wa:DSl}(G:FnOk X.prog X.w X.K X.mg X.base CX k f fd ps (ZW true fD))(hr:Room k X.A)(hg:Gl X x)(hm:X.mg x=some (.ref f))(hk:PySem.W.keepIn X.K (.ref f)=true)(hb:Binds X.K fd ps [])(hx:Qcu CX X E)(ha:QAs X E (e::es) wa)(hdb:(x == ("__debug__" : Str))=false:=by decide)(he:starEach (e::es) X.env=(false,eval e X.env)::starEach es X.env:=by rfl)(hpl:(backTo pos (starEach es X.env)).any (·.1)=false:=by rfl):QE .F X E (.Call (.Name x p) (e::es) [] pos) (Qnf fD wa):=⟨QoW G hr hg hm hk hb hx ha.h hdb he hpl⟩
theorem Qgb{CX:CXT}{k:Nat}{f:Addr}{fd:Q1}{ps:List Str}{x:Str}{p pos:Pos}{e:QZ}{es:List QZ}{fD:DF}{n:Nat}{fr:Bool}{wr:DAr}(G:FnOk X.prog X.w X.K X.mg X.base CX k f fd ps (ZW fr fD))(hr:Room k X.A)(hg:Gl X x)(hm:X.mg x=some (.ref f))(hk:PySem.W.keepIn X.K (.ref f)=true)(hb:Binds X.K fd ps [])(hx:Qcu CX X E)(ha:QA n .P X E (e::es) wr)(hdb:(x == ("__debug__" : Str))=false:=by decide)(he:starEach (e::es) X.env=(false,eval e X.env)::starEach es X.env:=by rfl)(hpl:(backTo pos (starEach es X.env)).any (·.1)=false:=by rfl):QE .F X E (.Call (.Name x p) (e::es) [] pos) (Qi8 fD wr):=⟨Ql5 G hr hg hm hk hb hx ha.h hdb he hpl⟩
theorem Qu1{k:Nat}{f:Addr}{fd:Q1}{ps:List Str}{x y:Str}{p pos pos2:Pos}{b:QZ}{wb:DE}(i:Nat)(G:FnOk X.prog X.w X.K X.mg X.base CX0 k f fd ps (QcY X.K))(hr:Room k X.A)(hg:Gl X x)(hm:X.mg x=some (.ref f))(hk:PySem.W.keepIn X.K (.ref f)=true)(hb:Binds X.K fd ps [])(h:QE .P X E b wb)(hN:X.N[i]? = some y:=by rfl)(hv:Vis X.env.scope y:=by first | exact Jw rfl | exact Ju (Jw rfl) | exact Ju (Ju rfl))(hd:(y == ("__debug__" : Str))=false:=by decide)(hcd:(y == ("__classdict__" : Str))=false:=by decide)(h2:notStar b=true:=by rfl)(hdb:(x == ("__debug__" : Str))=false:=by decide):QE .F X E (.Call (.Name x p) [.Name y pos2,b] [] pos) (QtI i wb):=⟨QsU G hr hg hm hk hb (pv i hN hv hd hcd) h.h rfl h2 hdb⟩
theorem Qu0{y:Str}{p pos pos2:Pos}(i:Nat)(hg:Gl X "len")(hm:X.mg "len" = none)(hN:X.N[i]? = some y:=by rfl)(hv:Vis X.env.scope y:=by first | exact Jw rfl | exact Ju (Jw rfl) | exact Ju (Ju rfl))(hd:(y == ("__debug__" : Str))=false:=by decide)(hcd:(y == ("__classdict__" : Str))=false:=by decide):QE .F X E (.Call (.Name "len" p) [.Name y pos2] [] pos) (QtH i):=⟨QsR hg hm (pv i hN hv hd hcd) rfl⟩
theorem Qan(i:Nat){x:Str}{pos:Pos}(hN:X.N.Nodup)(hi:X.N[i]? = some x)(hx:Loc X.env.scope x)(hf:X.fn x=true∨X.env.scope.names.lookup x=some .local:=by first | exact .inl rfl | exact .inr rfl | assumption):QG [i] X (.Name x pos) (gN i):=⟨QoU (Qa8 hN hi hx hf)⟩
structure QGs (X:Cx) (es:List QZ) (is:List Nat):Prop where h:PGs X es (gNs is)
theorem QeB  : QGs X [] []:=⟨QlW⟩
theorem Qab(i:Nat){is:List Nat}{x:Str}{pos:Pos}{es:List QZ}(h:QGs X es is)(hN:X.N.Nodup)(hi:X.N[i]? = some x)(hx:Loc X.env.scope x)(hf:X.fn x=true∨X.env.scope.names.lookup x=some .local:=by first | exact .inl rfl | exact .inr rfl | assumption)(hs:(assignEach (.Name x pos::es) X.env).map (·.2)=assign (.Name x pos) X.env::(assignEach es X.env).map (·.2):=by rfl):QGs X (.Name x pos::es) (i::is):=⟨Qgd (Qa8 hN hi hx hf) h.h hs⟩
theorem QeA{es:List QZ}{k:Nat}{pos:Pos}{is:List Nat}(hc:X.calm=true)(h:QGs X es is)(hn:(assignEach es X.env).length=is.length:=by rfl)(hst:(assignEach es X.env).findIdx? (·.1)=none:=by rfl):QG is X (.Tuple es k pos) (gTN is):=⟨QsP (Qrf hc h.h hn hst) rfl⟩
theorem Qcv{m:Md}{tg e:QZ}{w:DE}(h:QE m X E e w):QI m X E tg e (QyQ w):=⟨QoT h.h⟩
theorem QuX{m:Md}{tg e:QZ}{w:DE}(h:QE m X E e w):QI m X E tg e (QyP w):=⟨QsO h.h⟩
theorem Qez{m:Md}{tg e:QZ}{w:DE}{p pos:Pos}(hg:Gl X "range")(hm:X.mg "range" = none)(h:QE .P X E e w)(hs:notStar e=true:=by rfl):QI m X E tg (.Call (.Name "range" p) [e] [] pos) (Qwh w):=⟨QoS hg hm h.h hs⟩
theorem Qee{m:Md}{e:QZ}{w:DE}{p pos tpos:Pos}{elts:List QZ}{x1}(hg:Gl X "enumerate")(hm:X.mg "enumerate" = none)(h:QE m X E e w)(hs:notStar e=true:=by rfl):QI m X E (.Tuple elts x1 tpos) (.Call (.Name "enumerate" p) [e] [] pos) (QyR w):=⟨Ql1 hg hm h.h hs⟩
theorem QiI{m:Md}{e e':QZ}{w w':DE}{p pos tpos:Pos}{elts:List QZ}{x1}(hg:Gl X "zip")(hm:X.mg "zip" = none)(h:QE m X E e w)(h':QE m X E e' w')(hs:notStar e=true:=by rfl)(hs':notStar e'=true:=by rfl):QI m X E (.Tuple elts x1 tpos) (.Call (.Name "zip" p) [e,e'] [] pos) (QyH w w'):=⟨QoR hg hm h.h h'.h hs hs'⟩
theorem Qa7  : QTs X E [] QtG:=⟨QoI⟩
theorem Qf9{c:QZ}{t:DT}(h:QT X E c t):QTs X E [c] t:=⟨QoH h.h⟩
theorem Qcr(M:List Str)(cap:List (Option Nat)){elt tg iter:QZ}{ifs:List QZ}{scope:Yk}{pos:Pos}{ix:List Nat}{wi:DI}{wg:DG}{wt:DT}{we:DE}(hi:QI .P X E tg iter wi)(hb:∀cl ex s3 H3 C,QG ix (blk X M scope cl ex s3 H3 C) tg wg/\QTs (blk X M scope cl ex s3 H3 C) E0 ifs wt/\QE .D (blk X M scope cl ex s3 H3 C) E0 elt we)(hc:X.calm=true:=by rfl)(ok:Qfe X.N X.env.scope M scope cap=true:=by rfl)(hf:QcB cap ix=true:=by rfl)(hs:∀x,foldedSetIterable iter X.env x=pure x:=by intro _;rfl):QE .F X E (.ListComp elt [⟨tg,iter,ifs,0⟩] scope pos) (dComp cap wi wg wt we):=⟨QsT hc ok hf hi.h (λcl ex s3 H3 C=>⟨(hb cl ex s3 H3 C).1.h,(hb cl ex s3 H3 C).2.1.h,(hb cl ex s3 H3 C).2.2.h⟩) hs⟩
theorem QbN  : QSs X E [] Qwf:=⟨QoJ⟩
theorem Zb{st:Y3}{w:DS}(h:QS X E st w):QSs X E [st] w:=⟨QsK h.h⟩
theorem JQ{st:Y3}{rest:List Y3}{w w':DS}(h:QS X E st w)(h':QSs X E rest w'):QSs X E (st::rest) (QyJ w w'):=⟨QoO h.h h'.h⟩
theorem Qhk{sts:List Y3}:QSs X E sts (λ_ _=>False):=⟨Ql0⟩
theorem QbO(i:Nat){x:Str}{e:QZ}{pos pos':Pos}{we:DE}(he:QE .D X E e we)(hN:X.N.Nodup)(hi:X.N[i]? = some x:=by rfl)(hx:Loc X.env.scope x:=by first | exact Jw rfl | exact Ju rfl)(hs:swapsWith e (some (.Name x pos')) pos.line X.env=pure false:=by rfl)(hf:X.fn x=true∨X.env.scope.names.lookup x=some .local:=by first | exact .inl rfl | exact .inr rfl | assumption):QS X E (.Assign [.Name x pos'] e pos) (Qyf i we):=⟨QlZ (Qbx hN hi hx he.h hs hf)⟩
theorem QiE(i:Nat){x:Str}{e:QZ}{pos pos':Pos}{we:DE}(he:QE .F X E e we)(hN:X.N.Nodup)(hi:X.N[i]? = some x:=by rfl)(hx:Loc X.env.scope x:=by first | exact Jw rfl | exact Ju rfl)(hs:swapsWith e (some (.Name x pos')) pos.line X.env=pure false:=by rfl)(hf:X.fn x=true∨X.env.scope.names.lookup x=some .local:=by first | exact .inl rfl | exact .inr rfl | assumption):QS X E (.Assign [.Name x pos'] e pos) (QtE i we):=⟨QjD (Qbx hN hi hx he.h hs hf)⟩
theorem Qsv(i:Nat){x:Str}{e:QZ}{pos pos':Pos}{we:DE}(he:QE .F X E e we)(hN:X.N.Nodup)(hi:X.N[i]? = some x:=by rfl)(hx:Loc X.env.scope x:=by first | exact Jw rfl | exact Ju rfl)(hs:swapsWith e (some (.Name x pos')) pos.line X.env=pure false:=by rfl)(hf:X.fn x=true∨X.env.scope.names.lookup x=some .local:=by first | exact .inl rfl | exact .inr rfl | assumption):QS X E (.Assign [.Name x pos'] e pos) (Qwg i we):=⟨QoK (Qbx hN hi hx he.h hs hf)⟩
theorem QbP{e:QZ}{pos:Pos}{we:DE}(h:QE .D X E e we):QS X E (.Return (some e) pos) (QyK we):=⟨QsI h.h⟩
theorem Qbp{e:QZ}{pos:Pos}{we:DE}(h:QE .F X E e we):QS X E (.Return (some e) pos) (Qwi we):=⟨QoM h.h⟩
theorem Qsw(i:Nat){x:Str}{pos pos2:Pos}(hN:X.N[i]? = some x:=by rfl)(hv:Vis X.env.scope x:=by first | exact Jw rfl | exact Ju (Jw rfl) | exact Ju (Ju rfl))(hd:(x == ("__debug__" : Str))=false:=by decide)(hcd:(x == ("__classdict__" : Str))=false:=by decide):QS X E (.Return (some (.Name x pos)) pos2) (QtF i):=⟨QoL (pv i hN hv hd hcd)⟩
theorem Qhl{c:QZ}{a b:List Y3}{pos:Pos}{t:DT}{w w':DS}(hc:QT X E c t)(ha:QSs X E a w)(hb:QSs X E b w'):QS X E (.If c a b pos) (dIf t w w'):=⟨Qvd hc.h ha.h hb.h⟩
theorem Qra{y:Str}{e:QZ}{we:DE}{apos cpos pos npos:Pos}(i:Nat)(he:QE .D X E e we)(hN:X.N[i]? = some y:=by rfl)(hv:Vis X.env.scope y:=by first | exact Jw rfl | exact Ju (Jw rfl) | exact Ju (Ju rfl))(hd:(y == ("__debug__" : Str))=false:=by decide)(hcd:(y == ("__classdict__" : Str))=false:=by decide)(hst:notStar e=true:=by rfl)(hbase:attributeBase (.Name y npos) "append" X.env (eval (.Name y npos) X.env)=eval (.Name y npos) X.env:=by rfl)(hfew:((backTo cpos (starEach [e] X.env)).all (λx => !x.1)&&(backToKw cpos (keywordEach [] X.env)).all (λx=>x.1.isSome)&&decide ([e].length+([]:List Quh).length+(if([]:List Quh).isEmpty then 0 else 1)<30))=true:=by rfl)(hline:(apos.endLine == cpos.line)=true:=by rfl)(hsw:swapsWith (.Call (.Attribute (.Name y npos) "append" apos) [e] [] cpos) none pos.line X.env=pure false:=by rfl):QS X E (.Expr (.Call (.Attribute (.Name y npos) "append" apos) [e] [] cpos) pos) (Qyg i we):=⟨QsN (QiN (Qu9 PySem.F.plainAttrs_list PySem.F.slot_list_append PySem.F.type_list_append QhB (pv i hN hv hd hcd) (Qfc he.h JN hst) hbase hfew hline (YD hst) rfl) hsw)⟩
theorem Qfw{tg iter:QZ}{body:List Y3}{pos:Pos}{ix:List Nat}{wi:DI}{wg:DG}{wb:DS}(hp:PassesOwn (model X.prog X.w) X.A X.env X.xe)(hc:X.calm=true)(hi:QI .D X E tg iter wi)(hg:QG ix X tg wg)(hb:QSs X E body wb)(hs:∀x,foldedSetIterable iter X.env x=pure x:=by intro _;rfl):QS X E (.For tg iter body [] pos) (dFor wi wg wb):=⟨QsM hp hc hi.h hg.h hb.h hs⟩
theorem QiF{e:QZ}{we:DE}{pos:Pos}(he:QE .P X E e we)(hs:swapsWith e none pos.line X.env=pure false:=by rfl):QS X E (.Expr e pos) (Qwl we):=⟨QoN (QiN he.h hs)⟩
end
section
variable{P:QB}{w:Q8}{K:PySem.W.Frag}{mg:Str->Option Value}{base:Heap}
theorem okQ{x qual:Str}{st:Y3}{f:Addr}{fd:Q1}{N ps:List Str}{k:Nat}{fD:DF}(fr:Bool)(F:Fun K x qual st f fd)(S:J3 N ps (QJ st))(len:∀args R EX,fD args R EX->args.length=ps.length)
  (hbody:∀(cdv:Value)(A:Q2)(outer:List Env)(s:Shared)(H:Hp)(E:XK),Room k (A.deeper (envOfC qual (QJ st) s.heap.objs.size f cdv)) ->
   ∃wd,QSs (QnU CX0 P w K mg base N qual (QJ st) f cdv A outer s H E).nox E0 (JW st) wd/\∀args R EX,fD args R EX->wd (QtA fr R XF) (stD N args)):FnOk P w K mg base CX0 (k+1) f fd ps (ZW fr fD):=
 okD fr F S len λcdv A outer s H E hr=>let ⟨wd,h,q⟩:=hbody cdv A outer s H E hr;⟨wd,h.h,q⟩
theorem Qzf{x qual:Str}{st:Y3}{f:Addr}{fd:Q1}{N:List Str}{p:Str}{k:Nat}(F:Fun K x qual st f fd)(S:J3 N [p] (QJ st))
  (hbody:∀(cdv:Value)(A:Q2)(outer:List Env)(s:Shared)(H:Hp)(E:XK),Room k (A.deeper (envOfC qual (QJ st) s.heap.objs.size f cdv)) ->
   ∃wd,QSs (QnU CX0 P w K mg base N qual (QJ st) f cdv A outer s H E).nox E0 (JW st) wd/\wd Qv6 (stD N [.scr])):FnOk P w K mg base CX0 (k+1) f fd [p] (Qfn K):=
 QxW F S λcdv A outer s H E hr=>let ⟨wd,h,q⟩:=hbody cdv A outer s H E hr;⟨wd,h.h,q⟩
end
structure GOk (wg:DG):Prop where h:∀d δ Q,wg d δ Q->wg d δ λδ'=>(∀(j:Nat) x,δ'[j]? = some x->(∃e,x=.v e)∨δ[j]? = some x)/\Q δ'
theorem Qpo(i:Nat):GOk (gN i):=⟨λd δ Q h=>⟨λj x e=>by
 by_cases z:j=i
 ·subst z;exact .inl ⟨d,set_eq e⟩
 ·rw[QaB z] at e;exact .inr e,h⟩⟩
theorem QmT{cap:List (Option Nat)}{ix:List Nat}(hf:QcB cap ix=true){i:Nat}(hi:i∈ix):cap[i]? = some none:=by
 have:=Jm.mp hf i hi;split at this
 ·assumption
 ·cases this
theorem Qej{cap:List (Option Nat)}{ix:List Nat}(hf:QcB cap ix=true){δ:Sts}{i:Nat}{x:Sl}(h:(Qem cap δ)[i]? = some x)(hx:x≠.no):i∉ix:=λz=>by
 rcases QgE h with⟨_,e⟩ | ⟨j,hj,_⟩
 ·exact hx e
 ·rw[QmT hf z] at hj;cases hj
section
variable{K:PySem.W.Frag}{σ σ4:L2.St}{δ δ4:Sts}{cap:List (Option Nat)}{ix:List Nat}{A1:Addr->Prop}{H3 H5 H6:Hp}
theorem Qrw(hP:∀a,Yj σ δ a->A1 a)(hf:QcB cap ix=true)(j4:∀j,j∉ix->σ4[j]? = (Qdo cap σ)[j]?)(gk:∀(j:Nat) x,δ4[j]? = some x->(∃e,x=.v e)∨(Qem cap δ)[j]? = some x){a:Addr}(h:Av (inF A1 cap σ δ H3) σ4 δ4 a):A1 a:=by
 rcases h with z | ⟨i,h1,h2⟩
 ·exact z
 ·refine(QjX (cap:=cap) (H:=H3) hP).mp ?_
  rcases h2 with h2 | ⟨ds,h2⟩
  ·rcases gk i _ h2 with⟨e,z⟩ | z
   ·cases z
   ·exact .inr ⟨i,by rw[<- j4 i (Qej hf z (λz=>by cases z))];exact h1,.inl z⟩
  ·rcases gk i _ h2 with⟨e,z⟩ | z
   ·cases z
   ·exact .inr ⟨i,by rw[<- j4 i (Qej hf z (λz=>by cases z))];exact h1,.inr ⟨ds,z⟩⟩
theorem Qts(hP:∀a,Yj σ δ a->A1 a)(hf:QcB cap ix=true)(j4:∀j,j∉ix->σ4[j]? = (Qdo cap σ)[j]?)(gk:∀(j:Nat) x,δ4[j]? = some x->(∃e,x=.v e)∨(Qem cap δ)[j]? = some x)
  (ri:Rel K (inF A1 cap σ δ H6) (Qdo cap σ) H6 (Qem cap δ))(r5:Rel K (inF A1 cap σ δ H3) σ4 H5 δ4)(kk:∀a o,¬A1 a->H5 a=some o->H6 a=some o):Rel K (inF A1 cap σ δ H6) σ4 H6 δ4 where
 len:=r5.len
 dom:=ri.dom
 dom0:=ri.dom0
 pt0:=ri.pt0
 kx:=ri.kx
 sl:=λi o x h1 h2=>by
  have iv:∀{a:Addr},Av (inF A1 cap σ δ H6) σ4 δ4 a->A1 a:=λ{a} z=>Qrw hP hf j4 gk z
  rcases gk i x h2 with⟨d,rfl⟩ | hx
  ·obtain⟨v,e,q⟩:=r5.sl i o _ h1 h2;exact⟨v,e,q.mv (λa o n e=>kk a o (λz=>n (.inl z)) e) λa z=>.inl (.inl (iv z))⟩
  ·by_cases hn:x=.no
   ·subst hn;trivial
   ·have h1':(Qdo cap σ)[i]? = some o:=by rw[<- j4 i (Qej hf hx hn)];exact h1
    have h:=ri.sl i o x h1' hx;cases x with
    |no=>trivial
    |v d=>obtain⟨v',e,q'⟩:=h;exact⟨v',e,q'.mv (λ_ _ _ e=>e) λa z=>.inl (.inl (iv z))⟩
    |own ds=>obtain⟨l,xs,e,e2,q',f⟩:=h;exact⟨l,xs,e,e2,q'.mv (λ_ _ _ e=>e) λa z=>.inl (.inl (iv z)),f⟩
    |pk ds=>obtain⟨l,xs,e,e2,q',f⟩:=h;exact⟨l,xs,e,e2,q'.mv (λ_ _ _ e=>e) λa z=>.inl (.inl (iv z)),f⟩
    |pot=>exact h
    |scr=>exact h
 inj:=λi j a ds h1 h2 _=>by
  rcases gk i _ h1 with⟨e,z⟩ | z
  ·cases z
  ·rcases QgE z with⟨_,e⟩ | ⟨j,hj,e⟩
   ·cases e
   ·exfalso
    cases e2:δ[j]? with
    |none=>rw[e2] at e;cases e
    |some y=>rw[e2] at e;cases y<;>cases e
end
theorem Qn8{K:PySem.W.Frag}{F:Fm}{σ:L2.St}{δ:Sts}{H1 H3:Hp}{cap:List (Option Nat)}{ix:List Nat}{wg:DG}{wt:DT}{A1:Addr->Prop}{x:V}{d:Qa}{inner:L2.St->Hp->(Hp->Prop)->Prop}{kk:Hp->Prop}{T:Sts->Prop}{N:Prop}(gok:GOk wg)
  (hf:QcB cap ix=true)(rel:Rel K F σ H1 δ)(hA:∀a,Av F σ δ a->A1 a)(hN:∀a,A1 a->Av F σ δ a∨H1 a=none)(dm:∀a,A1 a->∃xs,H3 a=some (.lst xs))(kp:Kp σ δ H1 H3)(dx:DA A1 H3 x d)
  (h:wg d (Qem cap δ) λδ4=>wt δ4 (λb=>if b=true then T δ4 else N) XF)
  (hT:∀σ4 δ4 H5,T δ4->Rel K (inF A1 cap σ δ H3) σ4 H5 δ4->Kp σ δ H3 H5->(∀j,j∉ix->σ4[j]? = (Qdo cap σ)[j]?)->σ4.length=(Qdo cap σ).length->(∀(j:Nat) x,δ4[j]? = some x->(∃e,x=.v e)∨(Qem cap δ)[j]? = some x)->inner σ4 H5 kk)(hF:N->∀H5,Kp σ δ H3 H5->kk H5) :
  bOf (Qdo cap σ) (tG ix K wg) (tT K E0 wt) inner x H3 kk:=by
 have ri:=QmI (cap:=cap) rel hA hN dm kp;have iv:∀{a:Addr},Av (inF A1 cap σ δ H3) (Qdo cap σ) (Qem cap δ) a->A1 a:=λ{a}=>(QjX λa z=>hA a (Qak z)).mp
 refine⟨inF A1 cap σ δ H3,Qem cap δ,d,_,ri,dx.mv (λ_ _ _ e=>e) λa z=>.inl (iv z),gok.h _ _ _ h,λδ4 ⟨g4,h4⟩ σ4 r4 st4 l4 j4=>⟨QrJ hf l4 j4,inF A1 cap σ δ H3,δ4,_,XF,r4,h4,λb hb H5 r5 kp5=>?_,Qrj⟩⟩;have pots:∀{b:Addr},Yj σ4 δ4 b->Yj σ δ b:=λz=>Qi7 r4 (λb o _ e1 e2=>by rw[e2] at e1;cases e1) z
 have K5:Kp σ δ H3 H5:=by
  refine⟨λb o n e=>kp5.1 b o (λz=>n (pots z)) e,λb hb=>?_⟩;by_cases z:Yj σ4 δ4 b
  ·exact kp5.2 b z
  ·obtain⟨n,e⟩:=kp.2 b hb;exact⟨n,kp5.1 _ _ z e⟩
 exact Qc4 hb (λz=>hT σ4 δ4 H5 z r5 K5 j4 l4 g4) λz=>hF z H5 K5
theorem QtC{K:PySem.W.Frag}{σ σ4:L2.St}{δ δ4:Sts}{H1 H3 H5:Hp}{cap:List (Option Nat)}{we:DE}{A1:Addr->Prop}{p:Addr}{acc:List Qa}{kk:Hp->Prop}{G:Qa->Prop}
  (hpA:A1 p)(hP:∀a,Yj σ δ a->A1 a)(hp1:H1 p=none)(hpn:¬Yj σ δ p)(lp:Lp σ δ A1 p H1 H5 acc)(hl:acc.length<sizeLine)(r5:Rel K (inF A1 cap σ δ H3) σ4 H5 δ4)(pots:∀b,Yj σ4 δ4 b->Yj σ δ b)
  (h:we δ4 G XF)(hk:∀e,G e->∀H',Lp σ δ A1 p H1 H' (acc++[e])->(∀b o,¬A1 b->H5 b=some o->H' b=some o)->kk H'):QtU p (tX .D K E0 we) σ4 H5 kk:=by
 refine⟨inF A1 cap σ δ H3,δ4,G,XF,r5,h,λe he v H6 r6 kp6 dv=>?_,Qrj⟩;have k56:Kp σ δ H5 H6:=by
  refine⟨λb o n e=>kp6.1 b o (λz=>n (pots b z)) e,λb hb=>?_⟩;by_cases z:Yj σ4 δ4 b
  ·exact kp6.2 b z
  ·obtain⟨n,e⟩:=lp.kp.2 b hb;exact⟨n,kp6.1 _ _ z e⟩
 obtain⟨k6,ys,e6,q6⟩:=lp.step hP hpn k56;have up:∀{b:Addr}{o:HO},¬A1 b->H6 b=some o->upd H6 p (.lst (ys++[v])) b=some o:=λ{b o} n e=>by rw[JK (λz=>n (by rw[z];exact hpA))];exact e
 refine⟨ys,e6,by rw[q6.length];exact hl,hk e he _ ⟨⟨λb o n e=>?_,λb hb=>?_⟩,ys++[v],Jp,DAs.app (q6.mv (λ_ _=>up) λa z=>.inl z) (.cons (DA.mv dv (λa o n e=>up (λz=>n (.inl z)) e) λa z=>.inl (.inl z)) .nil)⟩ λb o n e=>up n (kp6.1 b o (λz=>n (hP b (pots b z))) e)⟩
 ·rw[JK (λz=>by rw[z,hp1] at e;cases e)];exact k6.1 b o n e
 ·rw[JK (λz=>hpn (by rw[<- z];exact hb))];exact k6.2 b hb
def Qpe:Nat:=1000000
@[irreducible] def InR(items2:List Qa)(wg2:DG)(wt2:DT)(we:DE)(δ4:Sts)(acc:List Qa)(N:List Qa->Prop):Prop:=∃Jv:Nat->List Qa->Prop,Jv 0 acc /\
 (∀(j:Nat) acc2 d2,items2[j]? = some d2->Jv j acc2->acc2.length<Qpe/\wg2 d2 δ4 λδ5=>wt2 δ5 (λb=>if b=true then we δ5 (λe=>Jv (j+1) (acc2++[e])) XF else Jv (j+1) acc2) XF)/\∀acc2,Jv items2.length acc2->N acc2
@[irreducible] def Qki(items:List Qa)(wg:DG)(wt:DT)(wi2:DI)(wg2:DG)(wt2:DT)(we:DE)(δ:Sts)(Q:Qa->Prop):Prop:=∃Iv:Nat->List Qa->Prop,Iv 0 [] /\
 (∀(i:Nat) acc d,items[i]? = some d->Iv i acc->wg d δ λδ4=>wt δ4 (λb=>if b=true then wi2 δ4 (λitems2=>InR items2 wg2 wt2 we δ4 acc (Iv (i+1))) XF else Iv (i+1) acc) XF)/\∀acc,Iv items.length acc->Q (.list acc)
def QrF(cap:List (Option Nat))(wi:DI)(wg:DG)(wt:DT)(wi2:DI)(wg2:DG)(wt2:DT)(we:DE):DE:=λδ Q EX=>wi δ (λitems=>Qki items wg wt wi2 wg2 wt2 we (Qem cap δ) Q) EX
section
variable{X:Cx}{E:XK}
theorem Qpd:Qpe<=sizeLine:=Q4 (by decide) QkM
end
section
variable{X:Cx}{E:XK}
end
theorem Qx2{items2:List Qa}{wg2:DG}{wt2:DT}{we:DE}{δ4:Sts}{acc:List Qa}{N:List Qa->Prop}(G:Qa->Option Qa)(hl:acc.length+items2.length<Qpe)
  (h:∀d∈items2,∀(k1:Prop)(k2:Qa->Prop),(G d=none->k1)->(∀e,G d=some e->k2 e)->wg2 d δ4 λδ5=>wt2 δ5 (λb=>if b=true then we δ5 k2 XF else k1) XF)(q:N (acc++items2.filterMap G)) :
  InR items2 wg2 wt2 we δ4 acc N:=by
 unfold InR;refine⟨λi acc2=>acc2=acc++(items2.take i).filterMap G,by simp,λi acc2 d hd e=>?_,λacc2 e=>by rw[e,ZD];exact q⟩;have e:acc2=acc++(items2.take i).filterMap G:=e;have hs:(items2.take (i+1)).filterMap G=(items2.take i).filterMap G++(G d).toList:=by
  rw[Z6,hd,Zw];cases e2:G d<;>simp[e2]
 refine⟨?_,h d (QD hd) _ _ (λe2=>?_) λe' e2=>?_⟩
 ·have:=Qaf G (items2.take i);have h2:(items2.take i).length<=items2.length:=by rw[Jl];exact QfT _ _
  rw[e,Qv];omega
 ·show acc2=acc++(items2.take (i+1)).filterMap G;rw[hs,e2,e];simp
 ·show acc2++[e']=acc++(items2.take (i+1)).filterMap G;rw[hs,e2,e];simp
theorem Qv0{items2:List Qa}{wg2:DG}{we:DE}{δ4:Sts}{acc:List Qa}{N:List Qa->Prop}(G:Qa->Qa)(hl:acc.length+items2.length<Qpe)
  (h:∀d∈items2,∀(k2:Qa->Prop),k2 (G d)->wg2 d δ4 λδ5=>we δ5 k2 XF)(q:N (acc++items2.map G)):InR items2 wg2 QtG we δ4 acc N:=by
 refine Qx2 (λd=>some (G d)) hl (λd hd k1 k2 _ h2=>?_) (by rw[show items2.filterMap (λd=>some (G d))=items2.map G from by rw[<- List.filterMap_eq_map];rfl];exact q);have hh:=h d hd k2 (h2 _ rfl);simp only[QtG,if_true];exact hh
def QlM:List V->Hp->VK->Prop:=λxs H Q=>∃l ns,xs=[.ref l]/\H l=some (.lst ((ns:List Int).map V.int))/\ns.length<64 /\
 ∀t ms H2,Same H H2->H t=none->H2 t=some (.lst ((ms:List Int).map V.int))->ms.Perm ns->ms.Pairwise (·<=·)->Q (.ref t) H2
section
open Rs PySem.W PySem.Calls
variable{X:Cx}
theorem Qjd:CallR X (.builtin "sorted") QlM:=by
 intro pins s σ H xs us Q I r h;obtain⟨l,ns,rfl,hl,h64,q⟩:=h;obtain⟨u,rfl,ru⟩:=vals1 r;cases ru;obtain⟨hz,its,n,rv,ho⟩:=I.hok l _ hl;have li:=rv.length;rw[Qf] at li;refine QdR (.inl rfl) ho rfl rfl (by omega) λh' kp P E' hP=>?_
 have hn:(h'.push (seqObj "list" its.toArray 0)).get? h'.objs.size=some (seqObj "list" its.toArray 0):=Qu _ rfl;refine list_sort_tree (s:={ s with heap:=h'.push (seqObj "list" its.toArray 0) }) hn (Qgr rv) (by omega) λout ns' ia pm pw=>hP _ ?_
 have I1:Inv X pins σ H { s with heap:=h' }:=I.kept (t':=s.toks) kp;have hf:H h'.objs.size=none:=I1.hok.fresh (Qg _);obtain⟨e,he⟩:∃e,(sortedHeap (h'.push (seqObj "list" its.toArray 0)) h'.objs.size its out).get? h'.objs.size=some (seqObj "list" out e):=sortedHeap_at hn
 have rv':=QgI ia;have lp:=pm.length_eq;have I2:Inv X pins σ (upd H h'.objs.size (.lst (ns'.map V.int))) { s with heap:=sortedHeap (h'.push (seqObj "list" its.toArray 0)) h'.objs.size its out }:=
  I1.laid (t':=s.toks) (λb x e'=>(sortedHeap_old (QC (Qo e')) (QN (Qo e') (by rw[size_push'];exact Qn1 _))).trans (Qc _ e')) (Qg _) (show ObjOk X.prog X.w _ _ _ (.lst _) from⟨by rw[Qf];exact Zz (Rk.QaN (by omega)),out.toList,e,rv',by rw[he]⟩)
 exact⟨.ref h'.objs.size,_,I2,rfl,q _ ns' _ (Jy hf) hf Jp pm pw⟩
def Qp8(K:PySem.W.Frag):List V->Hp->VK->Prop:=λxs H Q=>Qp7 K xs H Q∨QlM xs H Q
theorem QdJ:CallR X (.builtin "sorted") (Qp8 X.K):=by
 intro pins s σ H xs us Q I r h;rcases h with h | h
 ·exact QkU pins s σ H xs us Q I r h
 ·exact Qjd pins s σ H xs us Q I r h
end
@[irreducible] def Qlw:List Qa->(Qa->Prop)->Prop
 |[.list ds],Q=>∃ns,Qct ds=some ns/\ns.length<64/\∀ms:List Int,ms.Perm ns->ms.Pairwise (·<=·)->Q (.list (ms.map .int))
 |[.tuple ds],Q=>∃ns,Qct ds=some ns/\ns.length<64/\∀ms:List Int,ms.Perm ns->ms.Pairwise (·<=·)->Q (.list (ms.map .int))
 |_,_=>False
theorem Qce{A:Addr->Prop}{H:Hp}:∀ms:List Int,DAs A H (ms.map V.int) (ms.map .int)
 |[]=>.nil
 |m::ms=>.cons (.int m) (Qce ms)
theorem Qjc{K:PySem.W.Frag}:Qde (Qp8 K) Qlw:=λA P H vs ds R Q ln dm q h k=>by
 unfold Qlw at h;split at h
 ·obtain⟨v,rfl,hv⟩:=pd1 q;obtain⟨bs,hb,h64,hR⟩:=h;rw[Qi6 hb] at hv;obtain⟨l,xs,rfl,e,qq⟩:=hv.list;rw[Qbs qq] at e;exact .inr ⟨l,bs,rfl,e,h64,λt ms H2 s n e2 pm pw=>k _ (hR ms pm pw) _ H2 s (QdU dm s n e2 (Qce ms)) (Qay n)⟩
 ·obtain⟨v,rfl,hv⟩:=pd1 q;obtain⟨bs,hb,h64,hR⟩:=h;rw[Qi6 hb] at hv;obtain⟨l,xs,rfl,e,qq⟩:=hv.tuple;rw[Qbs qq] at e;exact .inl ⟨l,bs,rfl,SqT.of e,h64,λt ms H2 s n e2 pm pw=>k _ (hR ms pm pw) _ H2 s (QdU dm s n e2 (Qce ms)) (Qay n)⟩
 ·exact h.elim
theorem Qiz{ds:List Qa}{Q:Qa->Prop}{ns:List Int}(h:Qct ds=some ns)(h64:ns.length<64)(k:∀ms:List Int,ms.Perm ns->ms.Pairwise (·<=·)->Q (.list (ms.map .int))):Qlw [.list ds] Q/\Qlw [.tuple ds] Q:=by
 unfold Qlw;exact⟨⟨ns,h,h64,k⟩,ns,h,h64,k⟩
end Dl
namespace PySem
namespace AutoSeq1
open PyProof
end AutoSeq1
end PySem
namespace L2
end L2
namespace Dl
open L2 _root_.Rd Rk
section
variable{X:Cx}{E:XK}
end
theorem Qnh{K:PySem.W.Frag}{E:XK}{cap:List (Option Nat)}{ix:List Nat}{wi:DI}{wg:DG}{wt:DT}{we:DE}(hf:QcB cap ix=true)(σ:L2.St)(H:Hp)(Q:VK)(h:tX .F K E (dComp cap wi wg wt we) σ H Q) :
  tComp cap (tI .P K E wi) (tG ix K wg) (tT K E0 wt) (tX .D K E0 we) σ H Q:=by
 obtain⟨F,δ,R,EX,rel,hw,k,o⟩:=h;refine⟨F,δ,_,EX,rel,hw,λitems hC J H1 rel1 kp1 ⟨ln,it⟩ p hp=>?_,o⟩;unfold QgK at hC;obtain⟨Iv,i0,step,fin⟩:=hC;have hpn:¬Yj σ δ p:=λz=>by obtain⟨xs,e⟩:=rel1.isl (Qak (F:=F) z);rw[hp] at e;cases e
 let A1:Addr->Prop:=λa=>Av F σ δ a∨a=p
 have hP:∀a,Yj σ δ a->A1 a:=λa z=>.inl (Qak z)
 have hN:∀a,A1 a->Av F σ δ a∨H1 a=none:=λa z=>z.elim .inl λz=>.inr (by rw[z];exact hp)
 have dmK:∀{H2:Hp},Kp σ δ H1 H2->(∃ys,H2 p=some (.lst ys))->∀a,A1 a->∃xs,H2 a=some (.lst xs):=λ{H2} k2 e2 a z=>by
  rcases z with z | z
  ·exact(rel1.kp k2).isl z
  ·rw[z];exact e2
 refine Qcx items.length (λi H2=>i<=items.length/\∃acc,Iv i acc/\acc.length<=i/\Lp σ δ A1 p H1 H2 acc) ⟨Qq _,[],i0,Qg _,Kp.same rel1 (Jy hp),[],Jp,.nil⟩ (λi H2 hi ⟨_,acc,iv,hl,lp⟩=>?_) λH2 ⟨_,acc,iv,hl,lp⟩=>?_
 ·obtain⟨k2,ys,e2,q2⟩:=lp;obtain⟨go,_⟩:=it H2 A1 (λb o n e=>k2.1 b o n e) hN (dmK k2 ⟨ys,e2⟩);have hd:items[i]? = some items[i]:=Qd hi;obtain⟨g1,g2⟩:=go i _ hd;refine⟨g1,λx H3 y kk hk=>?_⟩;obtain⟨s3,dx⟩:=g2 x H3 y;have k23:=Kp.same (rel1.kp k2) s3;have lp3:Lp σ δ A1 p H1 H3 acc:=Lp.step hP hpn ⟨k2,ys,e2,q2⟩ k23;refine Qlm hf rel1 (λa z=>.inl z) hN (dmK lp3.kp ⟨ys,s3 _ _ e2⟩) lp3.kp dx (step i acc _ hd iv) (λσ4 δ4 H5 h5 r5 k5 pots=>?_) λh5 H5 k5=>hk _ ⟨hi,acc,h5,by omega,lp3.step hP hpn k5⟩
  exact QrC (.inr rfl) hP hp hpn (lp3.step hP hpn k5) (by omega) r5 pots h5 λe he H' lp'=>hk _ ⟨hi,acc++[e],he,by rw[Qv];show _+1<=_;omega,lp'⟩
 ·obtain⟨k2,ys,e2,q2⟩:=lp;obtain⟨_,st⟩:=it H2 A1 (λb o n e=>k2.1 b o n e) hN (dmK k2 ⟨ys,e2⟩);refine⟨st,k _ (fin acc iv) (.ref p) H2 (rel1.kp k2) (kp1.trans k2) ⟨.lst (λz=>?_) e2 (q2.mv (λ_ _ _ e=>e) λa z=>.inl (.inl z)),λl e1 _=>?_⟩⟩
  ·obtain⟨xs,e⟩:=rel1.isl z;rw[hp] at e;cases e
  ·cases e1;exact QbT kp1 hp
theorem Qzq{K:PySem.W.Frag}{E:XK}{w:DE}(σ:L2.St)(H:Hp)(Q:VK)(h:tX .D K E w σ H Q):tX .F K E w σ H Q:=by
 obtain⟨F,δ,R,EX,rel,hw,k,o⟩:=h;exact⟨F,δ,R,EX,rel,hw,λd hd v H' r kp vk=>k d hd v H' r kp vk.1,o⟩
section
variable{X:Cx}{E:XK}
theorem QlQ(M:List Str)(cap:List (Option Nat))(i:Nat){elt tg iter:QZ}{ifs:List QZ}{scope:Yk}{pos py spos:Pos}{y:Str}{ix:List Nat}{wi:DI}{wg:DG}{wt:DT}{we:DE}(hN:X.N.Nodup)(hi:QI .P X E tg iter wi)(hb:∀cl ex s3 H3 C,QG ix (blk X M scope cl ex s3 H3 C) tg wg/\QTs (blk X M scope cl ex s3 H3 C) E0 ifs wt/\QE .D (blk X M scope cl ex s3 H3 C) E0 elt we)(hiy:X.N[i]? = some y:=by rfl)(hly:X.env.scope.names.lookup y=some .local:=by rfl)(hc:X.calm=true:=by rfl)(ok:Qfe X.N X.env.scope M scope cap=true:=by rfl)(hf:QcB cap ix=true:=by rfl)(hs:∀x,foldedSetIterable iter X.env x=pure x:=by intro _;rfl)(hsw:swapsWith (.ListComp elt [⟨tg,iter,ifs,0⟩] scope pos) (some (.Name y py)) spos.line X.env=pure true:=by rfl):QS X E (.Assign [.Name y py] (.ListComp elt [⟨tg,iter,ifs,0⟩] scope pos) spos) (Qyf i (dComp cap wi wg wt we)):=
 ⟨QlZ (PS.imp (PS.imp (QoA hN hiy hly hc ok hi.h (λcl ex s3 H3 C=>⟨(hb cl ex s3 H3 C).1.h,(hb cl ex s3 H3 C).2.1.h,(hb cl ex s3 H3 C).2.2.h⟩) hs hsw) λD σ H q=>Qnh (E:=E) hf σ H _ q) λD σ H q=>Qzq σ H _ q)⟩
end
theorem QkR{K:PySem.W.Frag}{E:XK}{cap:List (Option Nat)}{ix ix2:List Nat}{wi wi2:DI}{wg wg2:DG}{wt wt2:DT}{we:DE}(gok:GOk wg)(hf:QcB cap ix=true)(hf2:QcB cap ix2=true)(hd:ix2.all (λi => !ix.contains i)=true)(σ:L2.St)(H:Hp)(Q:VK)(h:tX .F K E (QrF cap wi wg wt wi2 wg2 wt2 we) σ H Q) :
  QpY cap (tI .P K E wi) (tG ix K wg) (tT K E0 wt) (tI .D K E0 wi2) (tG ix2 K wg2) (tT K E0 wt2) (tX .D K E0 we) σ H Q:=by
 obtain⟨F,δ,R,EX,rel,hw,k,o⟩:=h;refine⟨F,δ,_,EX,rel,hw,λitems hC J H1 rel1 kp1 ⟨ln,it⟩ p hp=>?_,o⟩;unfold Qki at hC;obtain⟨Iv,i0,step,fin⟩:=hC;have hpn:¬Yj σ δ p:=λz=>by obtain⟨xs,e⟩:=rel1.isl (Qak (F:=F) z);rw[hp] at e;cases e
 let A1:Addr->Prop:=λa=>Av F σ δ a∨a=p
 have hP:∀a,Yj σ δ a->A1 a:=λa z=>.inl (Qak z)
 have hN:∀a,A1 a->Av F σ δ a∨H1 a=none:=λa z=>z.elim .inl λz=>.inr (by rw[z];exact hp)
 have dmK:∀{H2:Hp},Kp σ δ H1 H2->(∃ys,H2 p=some (.lst ys))->∀a,A1 a->∃xs,H2 a=some (.lst xs):=λ{H2} k2 e2 a z=>by
  rcases z with z | z
  ·exact(rel1.kp k2).isl z
  ·rw[z];exact e2
 refine Qcx items.length (λi H2=>i<=items.length/\∃acc,Iv i acc/\Lp σ δ A1 p H1 H2 acc) ⟨Qq _,[],i0,Kp.same rel1 (Jy hp),[],Jp,.nil⟩ (λi H2 hi ⟨_,acc,iv,lp⟩=>?_) λH2 ⟨_,acc,iv,lp⟩=>?_
 ·obtain⟨k2,ys,e2,q2⟩:=lp;obtain⟨go,_⟩:=it H2 A1 (λb o n e=>k2.1 b o n e) hN (dmK k2 ⟨ys,e2⟩);have hd':items[i]? = some items[i]:=Qd hi;obtain⟨g1,g2⟩:=go i _ hd';refine⟨g1,λx H3 y kk hk=>?_⟩;obtain⟨s3,dx⟩:=g2 x H3 y;have k23:=Kp.same (rel1.kp k2) s3;have lp3:Lp σ δ A1 p H1 H3 acc:=Lp.step hP hpn ⟨k2,ys,e2,q2⟩ k23;refine Qn8 gok hf rel1 (λa z=>.inl z) hN (dmK lp3.kp ⟨ys,s3 _ _ e2⟩) lp3.kp dx (step i acc _ hd' iv) (λσ4 δ4 H5 h5 r5 k5 j4 l4 g4=>?_) λh5 H5 k5=>hk _ ⟨hi,acc,h5,lp3.step hP hpn k5⟩
  have av4:∀{H:Hp}{a:Addr},Av (inF A1 cap σ δ H) σ4 δ4 a->A1 a:=λ{H a} z=>Qrw hP hf j4 g4 z
  refine⟨inF A1 cap σ δ H3,δ4,_,XF,r5,h5,λitems2 hJ J2 H7 rel7 kp7 ⟨ln2,it2⟩=>?_,Qrj⟩;unfold InR at hJ;obtain⟨Jv,z0,step2,fin2⟩:=hJ;have pots4:∀{b:Addr},Yj σ4 δ4 b->Yj σ δ b:=λ{b} z=>by
   obtain⟨j,z1,z2⟩:=z;rcases g4 j _ z2 with⟨e,z⟩ | z
   ·cases z
   ·exact QcE ⟨j,by rw[<- j4 j (Qej hf z (λz=>by cases z))];exact z1,z⟩
  have k57:Kp σ δ H5 H7:=by
   refine⟨λb o n e=>kp7.1 b o (λz=>n (pots4 z)) e,λb hb=>?_⟩;by_cases z:Yj σ4 δ4 b
   ·exact kp7.2 b z
   ·obtain⟨n,e⟩:=k5.2 b hb;exact⟨n,kp7.1 _ _ z e⟩
  refine Qcx items2.length (λj H8=>j<=items2.length/\∃acc2,Jv j acc2/\Lp σ δ A1 p H1 H8 acc2/\∀b o,¬A1 b->H7 b=some o->H8 b=some o) ⟨Qq _,acc,z0,(lp3.step hP hpn k5).step hP hpn k57,λ_ _ _ e=>e⟩ (λj H8 hj ⟨_,acc2,jv,lp8,s78⟩=>?_) λH8 ⟨_,acc2,jv,lp8,s78⟩=>?_
  ·obtain⟨ys8,e8,q8⟩:=lp8.at_;obtain⟨go2,_⟩:=it2 H8 A1 (λb o n e=>s78 b o (λz=>n (.inl z)) e) (λb z=>.inl (.inl z)) (dmK lp8.kp ⟨ys8,e8⟩);have hd2:items2[j]? = some items2[j]:=Qd hj;obtain⟨g3,g5⟩:=go2 j _ hd2;refine⟨g3,λx2 H9 y2 kk2 hk2=>?_⟩;obtain⟨s9,dx2⟩:=g5 x2 H9 y2;have k89:=Kp.same (rel1.kp lp8.kp) s9;have lp9:Lp σ δ A1 p H1 H9 acc2:=lp8.step hP hpn k89;have ri:=QmI (cap:=cap) rel1 (λa z=>.inl z) hN (dmK lp9.kp ⟨ys8,s9 _ _ e8⟩) lp9.kp;have r9:=Qts hP hf j4 g4 ri r5 λa o n e=>s9 _ _ (s78 a o n (k57.1 a o (λz=>n (hP a z)) e))
   obtain⟨hl2,hw2⟩:=step2 j acc2 _ hd2 jv;refine⟨inF A1 cap σ δ H9,δ4,_,_,r9,dx2.mv (λ_ _ _ e=>e) λa z=>.inl (av4 z),hw2,λδ5 h6 σ5 r10 st5 l5 j5=>⟨Qn5 l5 λi v e=>?_,inF A1 cap σ δ H9,δ5,_,XF,r10,h6,λb hb H10 r11 kp11=>?_,Qrj⟩⟩
   ·by_cases z:i∈ix2
    ·have n1:i∉ix:=λz2=>by
      have:=Jm.mp hd i z;simp[z2] at this
     rw[j4 i n1] at e;rcases QgD e with⟨_,e2⟩ | ⟨j,hj2,_⟩
     ·cases e2
     ·rw[QmT hf2 z] at hj2;cases hj2
    ·rw[j5 i z];exact e
   ·have pots:∀{b:Addr},Yj σ5 δ5 b->Yj σ δ b:=λz=>Qi7 r10 (λb o _ e1 e2=>by rw[e2] at e1;cases e1) z
    have K10:Kp σ δ H9 H10:=by
     refine⟨λb o n e=>kp11.1 b o (λz=>n (pots z)) e,λb hb=>?_⟩;by_cases z:Yj σ5 δ5 b
     ·exact kp11.2 b z
     ·obtain⟨n,e⟩:=lp9.kp.2 b hb;exact⟨n,kp11.1 _ _ z e⟩
    have s710:∀b o,¬A1 b->H7 b=some o->H10 b=some o:=λb o n e=>K10.1 b o (λz=>n (hP b z)) (s9 _ _ (s78 b o n e))
    refine Qc4 hb (λz=>?_) λz=>hk2 _ ⟨hj,acc2,z,lp9.step hP hpn K10,s710⟩
    exact QtC (.inr rfl) hP hp hpn (lp9.step hP hpn K10) (QN hl2 Qpd) r11 (λb=>pots) z λe he H' lp' kk'=>hk2 _ ⟨hj,acc2++[e],he,lp',λb o n e=>kk' b o n (s710 b o n e)⟩
  ·obtain⟨ys8,e8,q8⟩:=lp8.at_;obtain⟨_,st2⟩:=it2 H8 A1 (λb o n e=>s78 b o (λz=>n (.inl z)) e) (λb z=>.inl (.inl z)) (dmK lp8.kp ⟨ys8,e8⟩);exact⟨st2,hk _ ⟨hi,acc2,fin2 acc2 jv,lp8⟩⟩
 ·obtain⟨k2,ys,e2,q2⟩:=lp;obtain⟨_,st⟩:=it H2 A1 (λb o n e=>k2.1 b o n e) hN (dmK k2 ⟨ys,e2⟩);refine⟨st,k _ (fin acc iv) (.ref p) H2 (rel1.kp k2) (kp1.trans k2) ⟨.lst (λz=>?_) e2 (q2.mv (λ_ _ _ e=>e) λa z=>.inl (.inl z)),λl e1 _=>?_⟩⟩
  ·obtain⟨xs,e⟩:=rel1.isl z;rw[hp] at e;cases e
  ·cases e1;exact QbT kp1 hp
section
variable{X:Cx}{E:XK}
theorem QlP(M:List Str)(cap:List (Option Nat))(i:Nat){elt tg iter tg2 iter2:QZ}{ifs ifs2:List QZ}{scope:Yk}{pos py spos:Pos}{y:Str}{ix ix2:List Nat}{wi wi2:DI}{wg wg2:DG}{wt wt2:DT}{we:DE}(hN:X.N.Nodup)(gok:GOk wg)(hi:QI .P X E tg iter wi)(hb:∀cl ex s3 H3 C,QG ix (blk X M scope cl ex s3 H3 C) tg wg/\QTs (blk X M scope cl ex s3 H3 C) E0 ifs wt/\QI .D (blk X M scope cl ex s3 H3 C) E0 tg2 iter2 wi2/\QG ix2 (blk X M scope cl ex s3 H3 C) tg2 wg2/\QTs (blk X M scope cl ex s3 H3 C) E0 ifs2 wt2/\QE .D (blk X M scope cl ex s3 H3 C) E0 elt we)(hiy:X.N[i]? = some y:=by rfl)(hly:X.env.scope.names.lookup y=some .local:=by rfl)(hc:X.calm=true:=by rfl)(ok:Qfe X.N X.env.scope M scope cap=true:=by rfl)(hf:QcB cap ix=true:=by rfl)(hf2:QcB cap ix2=true:=by rfl)(hd:ix2.all (λi => !ix.contains i)=true:=by rfl)(hs:∀x,foldedSetIterable iter X.env x=pure x:=by intro _;rfl)(hs2:∀env x,foldedSetIterable iter2 env x=pure x:=by intro _ _;rfl)(hsw:swapsWith (.ListComp elt [⟨tg,iter,ifs,0⟩,⟨tg2,iter2,ifs2,0⟩] scope pos) (some (.Name y py)) spos.line X.env=pure true:=by rfl):QS X E (.Assign [.Name y py] (.ListComp elt [⟨tg,iter,ifs,0⟩,⟨tg2,iter2,ifs2,0⟩] scope pos) spos) (QtE i (QrF cap wi wg wt wi2 wg2 wt2 we)):=
 ⟨QjD (PS.imp (QlT hN hiy hly hc ok hi.h (λcl ex s3 H3 C=>⟨(hb cl ex s3 H3 C).1.h,(hb cl ex s3 H3 C).2.1.h,(hb cl ex s3 H3 C).2.2.1.h,(hb cl ex s3 H3 C).2.2.2.1.h,(hb cl ex s3 H3 C).2.2.2.2.1.h,(hb cl ex s3 H3 C).2.2.2.2.2.h⟩) hs hs2 hsw) λD σ H q=>QkR (E:=E) gok hf hf2 hd σ H _ q)⟩
end
def rkD:Qa->Nat
 |.int _=>0
 |.tuple _=>1
 |_=>2
def QhQ(i j:Int):Ordering:=if i<j then .lt else if i=j then .eq else .gt
def Qzs(i j:Nat):Ordering:=if i<j then .lt else if i=j then .eq else .gt
def thn(o:Ordering)(p:Ordering):Ordering:=match o with
 |.eq=>p
 |o=>o
mutual
def QcD:Qa->Qa->Ordering
 |.int i,.int j=>QhQ i j
 |.tuple a,.tuple b=>QaX a b
 |x,y=>Qzs (rkD x) (rkD y)
def QaX:List Qa->List Qa->Ordering
 |[],[]=>.eq
 |[],_::_=>.lt
 |_::_,[]=>.gt
 |x::xs,y::ys=>thn (QcD x y) (QaX xs ys)
end
def isL:Ordering->Bool
 |.lt=>true
 |_=>false
def ltD(x y:Qa):Bool:=isL (QcD x y)
def Qtj(x y:List Qa):Bool:=isL (QaX x y)
def sw:Ordering->Ordering
 |.lt=>.gt
 |.gt=>.lt
 |.eq=>.eq
def Qfd:Ordering->Bool
 |.gt=>false
 |_=>true
theorem Qus(a b:Ordering):sw (thn a b)=thn (sw a) (sw b):=by cases a<;>rfl
theorem QtJ(i j:Int):QhQ j i=sw (QhQ i j):=by
 unfold QhQ;by_cases h:i<j
 ·rw[if_neg (by omega),if_neg (by omega),if_pos h];rfl
 ·by_cases h2:i=j
  ·rw[if_neg (by omega),if_pos h2.symm,if_neg h,if_pos h2];rfl
  ·rw[if_pos (by omega),if_neg h,if_neg h2];rfl
theorem QtK(i j:Int):Qfd (QhQ i j)=decide (i<=j):=by
 unfold QhQ;by_cases h:i<j
 ·rw[if_pos h];exact(decide_eq_true (by omega)).symm
 ·by_cases h2:i=j
  ·rw[if_neg h,if_pos h2];exact(decide_eq_true (by omega)).symm
  ·rw[if_neg h,if_neg h2];exact(decide_eq_false (by omega)).symm
mutual
theorem QdI:∀(x y:Qa),QcD y x=sw (QcD x y)
 |.int i,.int j=>QtJ i j
 |.tuple a,.tuple b=>Qkc a b
 |.int _,.tuple _=>rfl
 |.tuple _,.int _=>rfl
 |.int _,.none=>rfl
 |.int _,.bool _=>rfl
 |.int _,.str _=>rfl
 |.int _,.list _=>rfl
 |.int _,.dict _=>rfl
 |.tuple _,.none=>rfl
 |.tuple _,.bool _=>rfl
 |.tuple _,.str _=>rfl
 |.tuple _,.list _=>rfl
 |.tuple _,.dict _=>rfl
 |.none,y=>by cases y<;>rfl
 |.bool _,y=>by cases y<;>rfl
 |.str _,y=>by cases y<;>rfl
 |.list _,y=>by cases y<;>rfl
 |.dict _,y=>by cases y<;>rfl
theorem Qkc:∀(xs ys:List Qa),QaX ys xs=sw (QaX xs ys)
 |[],[]=>rfl
 |[],_::_=>rfl
 |_::_,[]=>rfl
 |x::xs,y::ys=>by
  show thn (QcD y x) (QaX ys xs)=sw (thn (QcD x y) (QaX xs ys));rw[QdI x y,Qkc xs ys,Qus]
end
theorem QvN{a c:Ordering}(hab:Qfd a=true)(h:Qfd (sw c)=true->Qfd (sw a)=true)(ha:a=.lt):c=.lt:=by
 subst ha;cases c with
 |lt=>rfl
 |eq=>cases h rfl
 |gt=>cases h rfl
mutual
theorem QgB:∀(x y z:Qa),Qfd (QcD x y)=true->Qfd (QcD y z)=true->Qfd (QcD x z)=true
 |.int i,.int j,.int k,h1,h2=>by
  have h1:Qfd (QhQ i j)=true:=h1;have h2:Qfd (QhQ j k)=true:=h2;show Qfd (QhQ i k)=true;rw[QtK] at h1 h2 ⊢;have a:=of_decide_eq_true h1;have b:=of_decide_eq_true h2;exact decide_eq_true (by omega)
 |.tuple a,.tuple b,.tuple c,h1,h2=>Qkb a b c h1 h2
 |.int _,y,.tuple _,h1,h2=>rfl
 |.int _,.tuple _,.int _,h1,h2=>by cases h2
 |.tuple _,.int _,z,h1,h2=>by cases h1
 |.tuple _,.tuple _,.int _,h1,h2=>by cases h2
 |.int _,y,.none,_,_=>rfl
 |.int _,y,.bool _,_,_=>rfl
 |.int _,y,.str _,_,_=>rfl
 |.int _,y,.list _,_,_=>rfl
 |.int _,y,.dict _,_,_=>rfl
 |.tuple _,y,.none,_,_=>rfl
 |.tuple _,y,.bool _,_,_=>rfl
 |.tuple _,y,.str _,_,_=>rfl
 |.tuple _,y,.list _,_,_=>rfl
 |.tuple _,y,.dict _,_,_=>rfl
 |.int _,.none,.int _,h1,h2=>by cases h2
 |.int _,.bool _,.int _,h1,h2=>by cases h2
 |.int _,.str _,.int _,h1,h2=>by cases h2
 |.int _,.list _,.int _,h1,h2=>by cases h2
 |.int _,.dict _,.int _,h1,h2=>by cases h2
 |.tuple _,.none,.int _,h1,h2=>by cases h2
 |.tuple _,.bool _,.int _,h1,h2=>by cases h2
 |.tuple _,.str _,.int _,h1,h2=>by cases h2
 |.tuple _,.list _,.int _,h1,h2=>by cases h2
 |.tuple _,.dict _,.int _,h1,h2=>by cases h2
 |.tuple _,.none,.tuple _,h1,h2=>by cases h2
 |.tuple _,.bool _,.tuple _,h1,h2=>by cases h2
 |.tuple _,.str _,.tuple _,h1,h2=>by cases h2
 |.tuple _,.list _,.tuple _,h1,h2=>by cases h2
 |.tuple _,.dict _,.tuple _,h1,h2=>by cases h2
 |.none,y,z,h1,h2=>by cases y<;>cases z<;>first | rfl | (cases h1;done) | (cases h2;done)
 |.bool _,y,z,h1,h2=>by cases y<;>cases z<;>first | rfl | (cases h1;done) | (cases h2;done)
 |.str _,y,z,h1,h2=>by cases y<;>cases z<;>first | rfl | (cases h1;done) | (cases h2;done)
 |.list _,y,z,h1,h2=>by cases y<;>cases z<;>first | rfl | (cases h1;done) | (cases h2;done)
 |.dict _,y,z,h1,h2=>by cases y<;>cases z<;>first | rfl | (cases h1;done) | (cases h2;done)
 termination_by x y z=>sizeOf x+sizeOf y+sizeOf z
theorem Qkb:∀(xs ys zs:List Qa),Qfd (QaX xs ys)=true->Qfd (QaX ys zs)=true->Qfd (QaX xs zs)=true
 |[],_,[],_,_=>rfl
 |[],_,_::_,_,_=>rfl
 |_::_,[],_,h1,_=>by cases h1
 |_::_,_::_,[],_,h2=>by cases h2
 |x::xs,y::ys,z::zs,h1,h2=>by
  have h1:Qfd (thn (QcD x y) (QaX xs ys))=true:=h1;have h2:Qfd (thn (QcD y z) (QaX ys zs))=true:=h2;show Qfd (thn (QcD x z) (QaX xs zs))=true;have a1:Qfd (QcD x y)=true:=by cases e:QcD x y<;>rw[e] at h1<;>first | rfl | cases h1
  have a2:Qfd (QcD y z)=true:=by cases e:QcD y z<;>rw[e] at h2<;>first | rfl | cases h2
  have a3:=QgB x y z a1 a2;cases e1:QcD x y with
  |gt=>rw[e1] at a1;cases a1
  |lt=>
   have:QcD x z=.lt:=QvN (a:=QcD x y) a1 (λq=>by
    rw[<- QdI x z] at q;rw[<- QdI x y];exact QgB y z x a2 q) e1
   rw[this];rfl
  |eq=>
   cases e2:QcD y z with
   |gt=>rw[e2] at a2;cases a2
   |lt=>
    have:QcD x z=.lt:=QvN (a:=QcD y z) a2 (λq=>by
     rw[<- QdI x z] at q;rw[<- QdI y z];exact QgB z x y q a1) e2
    rw[this];rfl
   |eq=>
    rw[e1] at h1;rw[e2] at h2;cases e3:QcD x z with
    |gt=>rw[e3] at a3;cases a3
    |lt=>rfl
    |eq=>exact Qkb xs ys zs h1 h2
 termination_by x y z=>sizeOf x+sizeOf y+sizeOf z
end
theorem QvZ(o:Ordering):isL (sw o) = !Qfd o:=by cases o<;>rfl
theorem Qmv(x y:Qa):ltD y x = !Qfd (QcD x y):=by unfold ltD;rw[QdI x y,QvZ]
theorem Qpc(x y:Qa)(h:ltD x y=true):ltD y x=false:=by
 rw[Qmv];unfold ltD at h;cases e:QcD x y<;>rw[e] at h<;>first | rfl | cases h
theorem QvL(x y z:Qa)(h1:ltD y x=false)(h2:ltD z y=false):ltD z x=false:=by
 rw[Qmv] at h1 h2 ⊢;rw[QgB x y z (by simpa using h1) (by simpa using h2)];rfl
mutual
def Qk6:Qa->Qa->Bool
 |.int _,.int _=>true
 |.tuple a,.tuple b=>Qc9 a b
 |_,_=>false
def Qc9:List Qa->List Qa->Bool
 |x::xs,y::ys=>Qk6 x y&&Qc9 xs ys
 |_,_=>true
end
def isE:Ordering->Bool
 |.eq=>true
 |_=>false
theorem Qtq(a b:Ordering):isE (thn a b)=(isE a&&isE b):=by cases a<;>rfl
mutual
theorem Qm2:∀(x y:Qa),Qk6 x y=true->JB x y=isE (QcD x y)
 |.int i,.int j,_=>by
  show(i == j)=isE (QhQ i j);unfold QhQ;by_cases h:i=j
  ·subst h;simp[isE]
  ·rw[beq_eq_false_iff_ne.mpr h];split
   ·rfl
   ·rfl
 |.tuple a,.tuple b,h=>Qm1 a b h
 |.int _,.tuple _,h=>by cases h
 |.tuple _,.int _,h=>by cases h
 |.int _,.none,h=>by cases h
 |.int _,.bool _,h=>by cases h
 |.int _,.str _,h=>by cases h
 |.int _,.list _,h=>by cases h
 |.int _,.dict _,h=>by cases h
 |.tuple _,.none,h=>by cases h
 |.tuple _,.bool _,h=>by cases h
 |.tuple _,.str _,h=>by cases h
 |.tuple _,.list _,h=>by cases h
 |.tuple _,.dict _,h=>by cases h
 |.none,y,h=>by cases y<;>cases h
 |.bool _,y,h=>by cases y<;>cases h
 |.str _,y,h=>by cases y<;>cases h
 |.list _,y,h=>by cases y<;>cases h
 |.dict _,y,h=>by cases y<;>cases h
theorem Qm1:∀(xs ys:List Qa),Qc9 xs ys=true->QtY xs ys=isE (QaX xs ys)
 |[],[],_=>rfl
 |[],_::_,_=>rfl
 |_::_,[],_=>rfl
 |x::xs,y::ys,h=>by
  have h:=Qz.mp (show(Qk6 x y&&Qc9 xs ys)=true from h);show(JB x y&&QtY xs ys)=isE (thn (QcD x y) (QaX xs ys));rw[Qm2 x y h.1,Qm1 xs ys h.2,Qtq]
end
end Dl
namespace Rt
open PySem.Calls Dl
theorem QeR:∀{ds:List Qa}{d:Qa},d∈ds->d.depth<=Jg ds
 |x::ds,d,h=>by
  show d.depth<=max x.depth (Jg ds);rcases Qs.mp h with z | z
  ·subst z;exact Nat.le_max_left _ _
  ·exact Q4 (QeR z) (QfU _ _)
theorem readsAll_len{h:Heap}:∀{vs:List Value}{ds:List Qa}{as:List Addr},YN h vs ds as->vs.length=ds.length
 |_,_,_,.nil=>rfl
 |_,_,_,.cons _ r=>by rw[Qr,Qr,readsAll_len r]
section
open PySem.SeqAt
open PySem.AutoSeq1 (wpAny_loadPart')
open PySem.MeetsSeq PySem.MeetsSeq2 PySem.MeetsSeq3
theorem QdQ{l b:Addr}{items items2:Array Value}{n n2:Nat}{dd dd2:Option Addr}{sl sl2:Array (Option Value)}{ds es:List Qa}{as bs:List Addr}{N:Nat}(hk:Qc9 ds es=true)(hc1:Q6 ds=true)(hc2:Q6 es=true)(hd:Jg ds<=N)
  (ih:∀(x y:Qa)(A:Q2)(s:Shared)(v u:Value)(p q:List Addr),Qbc s.heap v x p->Qbc s.heap u y q->x.canLay0=true->y.canLay0=true->Qk6 x y=true->x.depth<=N->A.units+2*N+2<cLine->∀(prog:QB)(w:Q8)(E Q:Value->Shared->Prop),Q (.bool (ltD x y)) s->wpAny (model prog w) A (richCompare .Lt v u) Q E s) :
  Meets (Y4.«tuple.__lt__» ⟨[.ref l,.ref b],[]⟩)
   (λA R s=>s.heap.get? l=some { cls:=.type "tuple",dict:=dd,data:=.seq items n,slots:=sl }/\s.heap.get? b=some { cls:=.type "tuple",dict:=dd2,data:=.seq items2 n2,slots:=sl2 }/\YN s.heap items.toList ds as/\YN s.heap items2.toList es bs/\A.units+2*N+4<cLine /\
    R (.ok (.ret (.bool (Qtj ds es)))) s):=
 .of_wp λprog w A R s h=>by
  obtain⟨hp,g,d,tk,os⟩:=s;obtain⟨hl,hb,hr1,hr2,hu,h⟩:=h;have f2:=AutoSeq1.sub_tuple_tuple;have hu1:A.in1.units+2*N+2<cLine:=by show A.units+1+2*N+2<cLine;omega
  have z1:items.size=ds.length:=by rw[<- readsAll_len hr1];simp
  have z2:items2.size=es.length:=by rw[<- readsAll_len hr2];simp
  wp_walk using QaC hl,QaC hb,Qdg _ (λrest b s'=>b.1=none/\s'=⟨hp,g,d,tk,os⟩/\∃(vs ws:List Value)(xs ys:List Qa)(p q:List Addr),rest=vs.zip ws /\
   YN hp vs xs p/\YN hp ws ys q/\Qc9 xs ys=true/\Q6 xs=true/\Q6 ys=true/\Jg xs<=N/\xs.length+items2.size=ys.length+items.size/\R (.ok (.ret (.bool (Qtj xs ys)))) ⟨hp,g,d,tk,os⟩) _
  case turn=>
   rintro⟨y,x⟩ rest b s' ⟨hb',rfl,vs,ws,xs,ys,p,q,hz,hvi,hwi,hkk,c1,c2,hdd,hlen,hR⟩;cases hvi with
   |nil=>rw[List.zip_nil_left] at hz;cases hz
   |@cons v0 vs0 d1 ds1 as1 as2 r1 hvi'=>
    cases hwi with
    |nil=>rw[List.zip_nil_right] at hz;cases hz
    |@cons u0 us0 d2 ds2 bs1 bs2 r2 hwi'=>
     rw[Qd9] at hz;injection hz with hyx hrest
     injection hyx with hy hx
     subst hy hx;have hkk:=Qz.mp (show(Qk6 d1 d2&&Qc9 ds1 ds2)=true from hkk);simp only[Q6,JF] at c1 c2;have dm1:d1.depth<=N:=Q4 (QeR (ds:=d1::ds1) (.head _)) hdd;have dm2:Jg ds1<=N:=Q4 (show Jg ds1<=max d1.depth (Jg ds1) from QfU _ _) hdd;simp only[Qr] at hlen;have he:=Qe4 d1 d2 A.in1 ⟨hp,g,d,tk,os⟩ y x _ _ r1 r2 c1.1 c2.1 (by omega);have hR:R (.ok (.ret (.bool (isL (thn (QcD d1 d2) (QaX ds1 ds2)))))) ⟨hp,g,d,tk,os⟩:=hR;rw[Qm2 d1 d2 hkk.1] at he;have hri:=λE Q=>ih d1 d2 A.in1 ⟨hp,g,d,tk,os⟩ y x _ _ r1 r2 c1.1 c2.1 hkk.1 dm1 hu1 prog w E Q
     unfold ltD at hri;cases e1:QcD d1 d2 with
     |lt=>
      rw[e1] at he hR hri;refine wpAny_bind (he prog w _ _ ?_)
      wp_walk using hri
      exact⟨_,rfl,hR⟩
     |gt=>
      rw[e1] at he hR hri;refine wpAny_bind (he prog w _ _ ?_)
      wp_walk using hri
      exact⟨_,rfl,hR⟩
     |eq=>
      rw[e1] at he hR;refine wpAny_bind (he prog w _ _ ?_)
      wp_walk
      exact⟨rfl,rfl,_,_,_,_,_,_,hrest,hvi',hwi',hkk.2,c1.2,c2.2,dm2,by omega,hR⟩
  case fin=>
   rintro⟨b1,b2⟩ s' ⟨hb',rfl,vs,ws,xs,ys,p,q,hz,hvi,hwi,hkk,c1,c2,hdd,hlen,hR⟩;simp only at hb';subst hb';have hv:Qtj xs ys=decide (items.size<items2.size):=by
    cases hvi with
    |nil=>
     cases hwi with
     |nil=>
      simp only[QcK] at hlen;exact(decide_eq_false (by omega)).symm
     |cons r2 hw=>
      simp only[QcK,Qr] at hlen;exact(decide_eq_true (by omega)).symm
    |cons r1 hv=>
     cases hwi with
     |nil=>
      simp only[QcK,Qr] at hlen;exact(decide_eq_false (by omega)).symm
     |cons r2 hw=>
      rw[Qd9] at hz;cases hz
   rw[hv] at hR
   wp_walk
   exact⟨_,rfl,by simpa [Qxk] using hR⟩
  case h=>
   exact⟨rfl,rfl,items.toList,items2.toList,ds,es,as,bs,rfl,hr1,hr2,hk,hc1,hc2,hd,by omega,h⟩
end
end Rt
namespace Rt
open PySem.Calls PySem.W Dl
mutual
def okK:Qa->Bool
 |.int _=>true
 |.tuple ds=>Qhv ds
 |_=>false
def Qhv:List Qa->Bool
 |[]=>true
 |d::ds=>okK d&&Qhv ds
end
mutual
theorem Qdy{h h':Heap}(k:∀b o,h.get? b=some o->h'.get? b=some o):∀(d:Qa)(v:Value)(as:List Addr),okK d=true->Qbc h v d as->Qbc h' v d as
 |.int _,_,_,_,.int i t=>.int i t
 |.tuple ds,_,_,hk,.tuple (vs:=vs) e c d r=>.tuple (k _ _ e) c d (QaE k ds _ _ hk r)
 |.none,_,_,hk,_=>by cases hk
 |.bool _,_,_,hk,_=>by cases hk
 |.str _,_,_,hk,_=>by cases hk
 |.list _,_,_,hk,_=>by cases hk
 |.dict _,_,_,hk,_=>by cases hk
theorem QaE{h h':Heap}(k:∀b o,h.get? b=some o->h'.get? b=some o):∀(ds:List Qa)(vs:List Value)(as:List Addr),Qhv ds=true->YN h vs ds as->YN h' vs ds as
 |[],_,_,_,.nil=>.nil
 |d::ds,_,_,hk,.cons r rs=>by
  have hk:=Qz.mp (show(okK d&&Qhv ds)=true from hk);exact .cons (Qdy k d _ _ hk.1 r) (QaE k ds _ _ hk.2 rs)
end
theorem QuN:∀(N:Nat)(x y:Qa)(A:Q2)(s:Shared)(v u:Value)(p q:List Addr),Qbc s.heap v x p->Qbc s.heap u y q->x.canLay0=true->y.canLay0=true->Qk6 x y=true->x.depth<=N->A.units+2*N+2<cLine->∀(prog:QB)(w:Q8)(E Q:Value->Shared->Prop),Q (.bool (ltD x y)) s->wpAny (model prog w) A (richCompare .Lt v u) Q E s:=by
 intro N;have intz:∀(i j:Int)(A:Q2)(s:Shared)(v u:Value)(p q:List Addr),Qbc s.heap v (.int i) p->Qbc s.heap u (.int j) q->∀(prog:QB)(w:Q8)(E Q:Value->Shared->Prop),Q (.bool (ltD (.int i) (.int j))) s->wpAny (model prog w) A (richCompare .Lt v u) Q E s:=by
  intro i j A s v u p q r1 r2 prog w E Q h;cases r1;cases r2;refine HT.Qov A s i _ j _ prog w E Q ?_
  have e:ltD (.int i) (.int j)=decide (i<j):=by
   show isL (QhQ i j)=_;unfold QhQ;by_cases z:i<j
   ·rw[if_pos z,decide_eq_true z];rfl
   ·rw[if_neg z,decide_eq_false z];split<;>rfl
  rw[e] at h;exact h
 induction N with
 |zero=>
  intro x y A s v u p q r1 r2 c1 c2 hk hd hu prog w E Q h;cases x<;>cases y<;>first | (cases hk;done) | skip
  ·exact intz _ _ A s v u p q r1 r2 prog w E Q h
  ·unfold Zc at hd;omega
 |succ N ih=>
  intro x y A s v u p q r1 r2 c1 c2 hk hd hu prog w E Q h;cases x<;>cases y<;>first | (cases hk;done) | skip
  ·exact intz _ _ A s v u p q r1 r2 prog w E Q h
  ·rename_i ds es
   cases r1 with
   |@tuple a o vs n _ _ ho hc hd' ra=>
    cases r2 with
    |@tuple b o2 vs2 n2 _ _ ho2 hc2 hd2 rb=>
     obtain⟨cls,dd,data,sl⟩:=o;obtain⟨cls2,dd2,data2,sl2⟩:=o2;simp only at hc hd' hc2 hd2;subst hc hd' hc2 hd2;have dd3:Jg ds<=N:=by unfold Zc at hd;omega
     exact richCompare_meets_room (op:=.Lt) ⟨_,ho,rfl⟩ ⟨_,ho2,rfl⟩ PySem.F.slot_tuple_lt PySem.F.entry_tuple_lt (PySem.F.args_tuple_lt_2 _ _) (QdQ (N:=N) hk c1 c2 dd3 ih)
      ⟨ho,ho2,ra,rb,by omega,show QbB (Qtj ds es)≠Value.notImplemented/\Q (.bool (Qtj ds es)) s from⟨(λx=>nomatch x),h⟩⟩ (by omega)
theorem QkG{N:Nat}{ds es:List Qa}{A:Q2}{s:Shared}{v u:Value}{p q:List Addr}(r1:Qbc s.heap v (.tuple ds) p)(r2:Qbc s.heap u (.tuple es) q)(c1:Q6 ds=true)(c2:Q6 es=true)(hk:Qc9 ds es=true)(hd:Jg ds<=N)(hu:A.units+2*N+4<cLine){prog:QB}{w:Q8}{E:Value->Shared->Prop}{C:Bool->Shared->Prop}(h:C (Qtj ds es) s):wpAny (model prog w) A (oneLt' true v u) C E s:=by
 cases r1 with
 |@tuple a o vs n _ _ ho hc hd' ra=>
  cases r2 with
  |@tuple b o2 vs2 n2 _ _ ho2 hc2 hd2 rb=>
   obtain⟨cls,dd,data,sl⟩:=o;obtain⟨cls2,dd2,data2,sl2⟩:=o2;simp only at hc hd' hc2 hd2;subst hc hd' hc2 hd2;rw[oneLt'_eq];simp only[if_true];refine wpAny_bind (wpAny_cRoomFor (by omega) ?_);refine wpAny_bind (wpAny_callSpecialIfBound?_slot ⟨_,ho,rfl⟩ PySem.F.slot_tuple_lt (QgU PySem.F.slot_tuple_lt ⟨_,ho,rfl⟩ PySem.F.entry_tuple_lt (PySem.F.args_tuple_lt_2 _ _) (QdQ (N:=N) hk c1 c2 hd λx y=>QuN N x y) ⟨ho,ho2,ra,rb,hu,?_⟩));exact J5 h
section
variable{prog:QB}{w:Q8}{A:Q2}{E:Value->Shared->Prop}{s:Shared}
theorem Qro{N:Nat}{x y:Qa}{v u:Value}{p q:List Addr}(r1:Qbc s.heap v x p)(r2:Qbc s.heap u y q)(c1:x.canLay0=true)(c2:y.canLay0=true)(hk:Qk6 x y=true)(hd:x.depth<=N)(hu:A.units+2*N+2<cLine){C:Bool->Shared->Prop}(h:C (ltD x y) s):wpAny (model prog w) A (oneLt' false v u) C E s:=by
 refine kat_one v u ?_
 exact QuN N x y A s v u p q r1 r2 c1 c2 hk hd hu prog w E _ h
theorem Qmw(i j:Int):ltD (.int i) (.int j)=decide (i<j):=by
 show isL (QhQ i j)=_;unfold QhQ;by_cases z:i<j
 ·rw[if_pos z,decide_eq_true z];rfl
 ·rw[if_neg z,decide_eq_false z];split<;>rfl
def Qtu:List Qa->Prop
 |.int _::_=>True
 |_=>False
theorem Qrr{b:Bool}{n1 n2 N:Nat}{C:Bool->Shared->Prop}(hu:A.units+2*N+2<cLine):∀(vs us:List Value)(xs ys:List Qa)(p q:List Addr)(i:Nat),YN s.heap vs xs p->YN s.heap us ys q->Q6 xs=true->Q6 ys=true->Qc9 xs ys=true->Jg xs<=N->(b=true->i=0->Qtu xs)->xs.length+n2=ys.length+n1 ->
  C (Qtj xs ys) s->KatLex prog w A b (decide (n1<n2)) C (vs.zip us) i s
 |[],us,xs,ys,p,q,i,r1,r2,c1,c2,hk,hd,hb,hl,h=>by
  cases r1;refine kat_nil ?_
  cases r2 with
  |nil=>rw[show decide (n1<n2)=false from decide_eq_false (by simp at hl;omega)];exact h
  |cons r rs=>rw[show decide (n1<n2)=true from decide_eq_true (by simp at hl;omega)];exact h
 |v::vs,[],xs,ys,p,q,i,r1,r2,c1,c2,hk,hd,hb,hl,h=>by
  cases r2;cases r1;refine kat_nil ?_
  rw[show decide (n1<n2)=false from decide_eq_false (by simp at hl;omega)];exact h
 |v::vs,u::us,xs,ys,p,q,i,r1,r2,c1,c2,hk,hd,hb,hl,h=>by
  cases r1 with
  |@cons _ _ d1 ds1 as1 as2 r1 rs1=>
   cases r2 with
   |@cons _ _ d2 ds2 bs1 bs2 r2 rs2=>
    have hk:=Qz.mp (show(Qk6 d1 d2&&Qc9 ds1 ds2)=true from hk);simp only[Q6,JF] at c1 c2;have dm1:d1.depth<=N:=Q4 (QeR (ds:=d1::ds1) (.head _)) hd;have dm2:Jg ds1<=N:=Q4 (show Jg ds1<=max d1.depth (Jg ds1) from QfU _ _) hd;have h:C (isL (thn (QcD d1 d2) (QaX ds1 ds2))) s:=h;have one:C (ltD d1 d2) s->wpAny (model prog w) A (oneLt' (b&&i == 0) v u) C (λ_ _=>False) s:=λhc=>by
     cases e:(b&&i == 0) with
     |false=>exact Qro (N:=N) r1 r2 c1.1 c2.1 hk.1 dm1 hu hc
     |true=>
      have e:=Qz.mp e;have hh:=hb e.1 (beq_iff_eq.mp e.2);cases d1<;>first | exact hh.elim | skip
      cases d2<;>first | (cases hk.1;done) | skip
      cases r1;cases r2;rw[Qmw] at hc;exact oneLt_int hc
    refine kat_cons (Qe4 d1 d2 A s v u _ _ r1 r2 c1.1 c2.1 (by omega) prog w _ _ ?_);rw[Qm2 d1 d2 hk.1];cases e1:QcD d1 d2 with
    |lt=>rw[e1] at h;exact kat_no (one (by unfold ltD;rw[e1];exact h))
    |gt=>rw[e1] at h;exact kat_no (one (by unfold ltD;rw[e1];exact h))
    |eq=>
     rw[e1] at h;refine kat_yes (Qrr hu vs us ds1 ds2 _ _ (i+1) rs1 rs2 c1.2 c2.2 hk.2 dm2 (λ_ z=>by omega) (by simp only[Qr] at hl;omega) h)
def QpF(ds:List Qa)(κ:Z2):Prop:=κ=general'∨κ=oneType'∨κ=tuples' false∨(κ=tuples' true/\∀d∈ds,∃es,d=.tuple es/\Qtu es)
theorem QvT{N:Nat}{ds:List Qa}{κ:Z2}{x y:Qa}{v u:Value}{p q:List Addr}(su:QpF ds κ)(hx:x∈ds)(r1:Qbc s.heap v x p)(r2:Qbc s.heap u y q)(c1:x.canLay0=true)(c2:y.canLay0=true)(hk:Qk6 x y=true)(tb:∀b,κ=tuples' b->∃es,x=.tuple es)(hd:x.depth<=N)(hu:A.units+2*N+4<cLine){C:Bool->Shared->Prop}(h:C (ltD x y) s) :
  wpAny (model prog w) A (keyLt' κ v u) C E s:=by
 have tup:∀b,κ=tuples' b->(b=true->∃es,x=.tuple es/\Qtu es)->wpAny (model prog w) A (keyLt' κ v u) C E s:=λb hb hh=>by
  subst hb;obtain⟨es,rfl⟩:=tb b rfl;cases y<;>first | (cases hk;done) | skip
  rename_i fs
  cases r1 with
  |@tuple a o vs n _ _ ho hc hd' ra=>
   cases r2 with
   |@tuple b2 o2 vs2 n2 _ _ ho2 hc2 hd2 rb=>
    have dd3:Jg es<=N:=by unfold Zc at hd;omega
    refine kat_lt ho hd' ho2 hd2 (Qrr (N:=N) (by omega) _ _ es fs _ _ 0 ra rb c1 c2 hk dd3 (λe _=>?_) ?_ h)
    ·obtain⟨es',e',hh⟩:=hh e;cases e';exact hh
    ·have e1:=readsAll_len ra;have e2:=readsAll_len rb;rw[Qe] at e1 e2;omega
 rcases su with rfl | rfl | rfl | ⟨rfl,hall⟩
 ·exact Qro (N:=N) r1 r2 c1 c2 hk hd (by omega) h
 ·cases x<;>cases y<;>first | (cases hk;done) | skip
  ·cases r1;cases r2;rw[Qmw] at h;exact oneLt_int h
  ·have dd3:∀{es:List Qa},(Zk es).depth<=N->Jg es<=N:=λ{es} h=>by unfold Zc at h;omega
   exact QkG (N:=N) r1 r2 c1 c2 hk (dd3 hd) hu h
 ·exact tup false rfl λe=>by cases e
 ·exact tup true rfl λ_=>hall x hx
end
section
variable{M:Qxd}{A:Q2}{E:Value->Shared->Prop}{s:Shared}
theorem QfF{α β:Type}{f:α->Sem β}{g:α->β}:∀(l:List α){Q:List β->Shared->Prop},(∀v∈l,∀(Q':β->Shared->Prop),Q' (g v) s->wpAny M A (f v) Q' E s)->Q (l.map g) s->wpAny M A (l.mapM f) Q E s
 |[],_,_,h=>by rw[List.mapM_nil];exact wpAny_pure h
 |x::l,Q,hf,h=>by
  rw[List.mapM_cons];exact wpAny_bind (hf x (.head _) _ (wpAny_bind (QfF l (Q:=λbs s'=>wpAny M A (pure (g x::bs)) Q E s') (λv hv=>hf v (.tail _ hv)) (wpAny_pure h))))
end
def Qie(h:Heap)(v:Value):Option Value:=match v with
 |.ref a=>(match h.get? a with
  |some o=>(match o.data with
   |.seq xs _=>xs[0]?
   |_=>none)
  |none=>none)
 |_=>none
def tyV(h:Heap)(v:Value):Value:=match v with
 |.int _ _=>.type "int"
 |.ref a=>(match h.get? a with
  |some o=>o.cls
  |none=>.none)
 |_=>.none
theorem YT:∀{ds:List Qa},Qhv ds=true->∀d∈ds,okK d=true
 |x::ds,h,d,hd=>by
  have h:=Qz.mp (show(okK x&&Qhv ds)=true from h);rcases Qs.mp hd with z | z
  ·rw[z];exact h.1
  ·exact YT h.2 d z
theorem Qmj:∀{ds:List Qa},(∀d∈ds,okK d=true)->Qhv ds=true
 |[],_=>rfl
 |x::ds,h=>by
  show(okK x&&Qhv ds)=true;rw[h x (.head _),Qmj λd hd=>h d (.tail _ hd)];rfl
theorem ZR{h:Heap}:∀{vs:List Value}{ds:List Qa}{as:List Addr},YN h vs ds as->∀v∈vs,∃d∈ds,∃bs,Qbc h v d bs
 |_,_,_,.cons (d:=d) r rs,v,hv=>by
  rcases Qs.mp hv with z | z
  ·rw[z];exact⟨d,.head _,_,r⟩
  ·obtain⟨d',hd,bs,r'⟩:=ZR rs v z;exact⟨d',.tail _ hd,bs,r'⟩
theorem Qc0{h:Heap}:∀{vs:List Value}{ds:List Qa}{as:List Addr},YN h vs ds as->∀d∈ds,∃v∈vs,∃bs,Qbc h v d bs
 |_,_,_,.cons (d:=d) (v:=v) r rs,d',hd=>by
  rcases Qs.mp hd with z | z
  ·rw[z];exact⟨v,.head _,_,r⟩
  ·obtain⟨v',hv,bs,r'⟩:=Qc0 rs d' z;exact⟨v',.tail _ hv,bs,r'⟩
section
variable{prog:QB}{w:Q8}{A:Q2}{E:Value->Shared->Prop}{s:Shared}
theorem Qit{v:Value}{d:Qa}{bs:List Addr}(r:Qbc s.heap v d bs)(hk:okK d=true){Q:Value->Shared->Prop}(q:Q (tyV s.heap v) s):wpAny (model prog w) A (typeOf v) Q E s:=by
 cases r<;>first | (cases hk;done) | skip
 ·exact wpAny_pure q
 ·rename_i a o vs n xs ho hc hd ra
  refine wpAny_typeOf_ref ho ?_
  have e:tyV s.heap (.ref a)=o.cls:=by unfold tyV;simp only[ho]
  rw[e] at q;exact q
theorem QjT{vs:List Value}{ds:List Qa}{as:List Addr}{Q:Z2->Shared->Prop}(ra:YN s.heap vs ds as)(hk:Qhv ds=true)(ht:∀d∈ds,∃es,d=.tuple es)(h:∀κ,QpF ds κ->Q κ s):wpAny (model prog w) A (keyKind' vs.toArray) Q E s:=by
 have rd:=ZR ra;have fs:∀v∈vs,∀(Q':Option Value->Shared->Prop),Q' (Qie s.heap v) s->wpAny (model prog w) A (firstOfTuple' v) Q' E s:=λv hv Q' q=>by
  obtain⟨d,hd,bs,r⟩:=rd v hv;obtain⟨es,rfl⟩:=ht d hd;cases r with
  |@tuple a o xs n _ _ ho hc hd' r'=>
   rw[kas_first_eq];refine wpAny_bind (wpAny_typeOf_ref ho ?_);rw[hc];rw[if_neg (by decide)];refine wpAny_bind (QrS ho hd' (wpAny_pure ?_));have e:Qie s.heap (.ref a)=xs[0]? := by unfold Qie;simp only[ho,hd']
   rw[<- e];exact q
 rw[keyKind'_eq,Qaz,map_eq_pure_bind];refine wpAny_bind (wpAny_bind (QfF (g:=Qie s.heap) vs fs (wpAny_pure ?_)));by_cases z:((vs.map (Qie s.heap)).toArray.all λx=>x.isSome)=true
 ·rw[if_pos z];refine wpAny_bind (wpAny_rule ?_);have hfm:((vs.map (Qie s.heap)).toArray.filterMap id)=(vs.filterMap (Qie s.heap)).toArray:=by simp[Qeb]
  have heads:∀u∈vs.filterMap (Qie s.heap),∃d bs,Qbc s.heap u d bs/\okK d=true:=λu hu=>by
   obtain⟨v,hv,e⟩:=ZA.mp hu;obtain⟨d,hd,bs,r⟩:=rd v hv;obtain⟨es,rfl⟩:=ht d hd;have ko:=YT hk _ hd;cases r with
   |@tuple a o xs n _ _ ho hc hd' r'=>
    have e2:Qie s.heap (.ref a)=xs[0]? := by unfold Qie;simp only[ho,hd']
    rw[e2] at e;have hm:u∈xs.toList:=by rw[<- QY] at e;exact QD e
    obtain⟨d2,hd2,bs2,r2⟩:=ZR r' u hm;exact⟨d2,bs2,r2,YT ko _ hd2⟩
  rw[hfm,Qkl,Qaz,map_eq_pure_bind];refine wpAny_bind (wpAny_bind (wpAny_bind (QfF (g:=tyV s.heap) _ (λu hu Q' q=>?_) (wpAny_pure ?_))))
  ·obtain⟨d,bs,r,ko⟩:=heads u hu;exact Qit r ko q
  ·have fin:∀o:Option Value,(o.any (· != ZV "tuple")=true->∀u∈vs.filterMap (Qie s.heap),tyV s.heap u≠ZV "tuple")->Q (tuples' (o.any (· != ZV "tuple"))) s:=λo ho=>by
    cases e:o.any (· != ZV "tuple") with
    |false=>exact h _ (.inr (.inr (.inl rfl)))
    |true=>
     refine h _ (.inr (.inr (.inr ⟨rfl,λd hd=>?_⟩)));obtain⟨es,rfl⟩:=ht d hd;obtain⟨v,hv,bs,r⟩:=Qc0 ra _ hd;refine⟨es,rfl,?_⟩;have ko:=YT hk _ hd;cases r with
     |@tuple a oo xs n _ _ ho' hc hd' r'=>
      have e2:Qie s.heap (.ref a)=xs[0]? := by unfold Qie;simp only[ho',hd']
      have some1:(Qie s.heap (.ref a)).isSome=true:=by
       have z':=Qec.mp z (Qie s.heap (QL a)) (by simp;exact⟨_,hv,rfl⟩);exact z'
      rw[e2] at some1;obtain⟨u,hu⟩:=Qg1.mp some1;have hl:=(ZU.mp hu).1;have nt:=ho e u (ZA.mpr ⟨_,hv,by rw[e2];exact hu⟩);have hu':xs.toList[0]? = some u:=by rw[QY];exact hu
      cases hx:xs.toList with
      |nil=>rw[hx] at hu';cases hu'
      |cons u0 us=>
       rw[hx] at hu' r';have e0:u0=u:=by simpa using hu'
       subst e0;cases r' with
       |@cons _ _ d1 ds1 as1 as2 r1 rs1=>
        have ko1:=(Qz.mp (show(okK d1&&Qhv ds1)=true from ko)).1;cases r1<;>first | (cases ko1;done) | skip
        ·trivial
        ·rename_i a2 o2 vs2 n2 xs2 ho2 hc2 hd2 ra2
         exfalso
         apply nt
         unfold tyV;simp only[ho2];exact hc2
   cases hg:((vs.filterMap (Qie s.heap)).map (tyV s.heap)).toArray[0]? with
   |none=>exact wpAny_pure (wpAny_pure (fin none λe=>by cases e))
   |some t=>
    dsimp only
    refine wpAny_pure (wpAny_pure (fin _ λe u hu=>?_));split at e
    ·rename_i hall
     have ne:(t != ZV "tuple")=true:=e;have te:(tyV s.heap u == t)=true:=by
      have:=Qec.mp hall (tyV s.heap u) (by simp;exact⟨u,by simpa using ZA.mp hu,rfl⟩);exact this
     rw[eq_of_beq te]
     simpa using ne
    ·cases e
 ·rw[if_neg z];split
  ·exact wpAny_pure (h _ (.inl rfl))
  ·rw[Qkl,Qaz,map_eq_pure_bind];refine wpAny_bind (wpAny_bind (wpAny_bind (QfF (g:=tyV s.heap) _ (λv hv Q' q=>?_) (wpAny_pure ?_))))
   ·obtain⟨d,hd,bs,r⟩:=rd v hv;exact Qit r (YT hk _ hd) q
   ·have fin:∀b:Bool,wpAny (model prog w) A (pure (if b=true then oneType' else general')) Q E s:=λb=>by
     cases b
     ·exact wpAny_pure (h _ (.inl rfl))
     ·exact wpAny_pure (h _ (.inr (.inl rfl)))
    split
    ·exact wpAny_pure (fin _)
    ·exact wpAny_pure (fin _)
end
end Rt
namespace Rt
open PySem.Calls PySem.W Dl Rs
section
variable{prog:QB}{w:Q8}{A:Q2}{E:Value->Shared->Prop}{s:Shared}
def prs(vs:List Value):Array Keyed:=vs.toArray.zip vs.toArray
theorem Qeg(vs:List Value):(prs vs).toList=vs.zip vs:=by unfold prs;rw[QpR]
theorem Qsz(vs:List Value):(prs vs).toList.map (·.2)=vs:=by rw[Qeg];exact Qr1 (Qg _)
theorem QcW:∀{vs:List Value}{p:Keyed},p∈vs.zip vs->p.1=p.2/\p.2∈vs
 |v::vs,p,h=>by
  rw[Qd9] at h;rcases Qs.mp h with z | z
  ·rw[z];exact⟨rfl,.head _⟩
  ·exact⟨(QcW z).1,.tail _ (QcW z).2⟩
theorem Qgm{a:Addr}{vs:List Value}{n:Nat}{P:PySem.Fin->Shared->Prop}(ho:s.heap.get? a=some (seqObj "list" vs.toArray n))(hz:vs.length<=sizeLine){c:Keyed->Keyed->Bool}(oc:Ord c)
  (hkind:∀h':Heap,Kept a s.heap h'->∀(Q':Z2->Shared->Prop)(E':Value->Shared->Prop),(∀κ,Asks prog w A { s with heap:=h' } κ (prs vs) c->Q' κ { s with heap:=h' })->wpAny (model prog w) A (keyKind' vs.toArray) Q' E' { s with heap:=h' })
  (h:∀arr:Array Keyed,arr.Perm (prs vs)->Sg c arr 0 arr.size->∀(h':Heap)(e:Nat),Kept a s.heap h'->h'.get? a=some (seqObj "list" (arr.toList.map (·.2)).toArray e)->P (.done (.ret .none)) { s with heap:=h' }) :
  wpAny (model prog w) A (Y4.«list.sort» ⟨[.ref a],[]⟩) P E s:=by
 have ha:a<s.heap.objs.size:=Qo ho;obtain⟨e1,ho1⟩:∃e1,(s.heap.update a (JU λ_=>(#[]:Array Value))).get? a=some (seqObj "list" #[] e1):=⟨_,QbA ho λ_=>#[]⟩
 have K3:Kept a s.heap (((s.heap.update a (JU λ_=>(#[]:Array Value))).push (seqObj "tuple" vs.toArray 0)).push (seqObj "list" #[] 0)):=(Qb8 _).trans ((Qc2 _).trans (Qc2 _));have ho6:(((s.heap.update a (JU λ_=>(#[]:Array Value))).push (seqObj "tuple" vs.toArray 0)).push (seqObj "list" #[] 0)).get? a=some (seqObj "list" #[] e1):=Qc _ (Qc _ ho1);rw[list_sort_plain];refine wpAny_bind (QrS ho rfl ?_);refine wpAny_bind (Qbl ho rfl ?_ (by rw[Qp];exact hz) (Qq _));refine wpAny_bind (QcN ho1 rfl ?_);refine wpAny_bind (Qk7 ?_ (by show vs.length<=_;exact hz));refine wpAny_bind (QfO ?_ (Qq _));refine JV ?_
 show wpAny (model prog w) A _ P E { s with heap:=((s.heap.update a (JU λ_=>(#[]:Array Value))).push (seqObj "tuple" vs.toArray 0)).push (seqObj "list" #[] 0) }
 dsimp only
 generalize (((s.heap.update a (JU λ_=>(#[]:Array Value))).push (seqObj "tuple" vs.toArray 0)).push (seqObj "list" #[] 0))=h3 at K3 ho6 ⊢;have out:∀arr:Array Keyed,arr.map (·.2)=(arr.toList.map (·.2)).toArray:=λarr=>by
  apply Qb7.mp
  rw[QpS]
 have psz:(prs vs).size=vs.length:=by rw[<- Qe,Qeg,List.length_zip,QcS]
 by_cases h2:vs.toArray.size<2
 ·rw[if_pos h2,if_pos h2];refine wpAny_bind (wpAny_pure ?_);rw[QpI];refine wpAny_bind (wpAny_pure ?_)
  dsimp only
  have f:Sg c (prs vs) 0 (prs vs).size:=λi j _ hij hj=>by
   rw[psz] at hj;rw[Qp] at h2;rw[show i=j by omega];exact oc.irr _
  refine wpAny_bind (QcN ho6 rfl ?_);refine wpAny_bind (Qbl ho6 rfl ?_ (Qq _) (by rw[Qdm];show(prs vs).size<=_;rw[(Qed (prs vs)).size_eq,psz];omega));simp only[bne_self_eq_false,ZB,if_false];show wpAny _ _ (ret JD) _ _ { s with heap:=h3.update a (JU λ_=>Array.map (λx=>x.snd) (prs vs)) };rw[out];exact wpAny_pure (h (prs vs) (Qed (prs vs)) (f) _ _ (K3.trans (Qb8 _)) (QbA ho6 λ_=>_))
 ·rw[if_neg h2,if_neg h2];refine wpAny_bind (hkind h3 K3 _ _ λκ hA=>?_);refine wpAny_bind (wpAny_mono (Qio (a₀:=prs vs) (κ:=κ) (st:=QnJ κ (prs vs) #[] 7 none) (Q:=λ_ st'=>SB κ (prs vs) st'/\Sg c (arrOf st') 0 (prs vs).size) hA ⟨Qed _,rfl,rfl⟩ rfl λst' b g=>⟨b,g⟩) ?_ λ_ _ e=>e);rintro⟨⟨⟩,st'⟩ s' ⟨rfl,b,g⟩
  dsimp only
  rw[b.failed];have g2:Sg c (arrOf st') 0 (arrOf st').size:=by rw[b.size];exact g
  refine wpAny_bind (QcN ho6 rfl ?_);refine wpAny_bind (Qbl ho6 rfl ?_ (Qq _) (by rw[Qdm];show(arrOf st').size<=_;rw[(b.perm).size_eq,psz];omega));simp only[bne_self_eq_false,ZB,if_false];show wpAny _ _ (ret JD) _ _ { s with heap:=h3.update a (JU λ_=>Array.map (λx=>x.snd) (arrOf st')) };rw[out];exact wpAny_pure (h (arrOf st') (b.perm) (g2) _ _ (K3.trans (Qb8 _)) (QbA ho6 λ_=>_))
open Classical in
noncomputable def rdV (h:Heap) (v:Value):Qa:=if q:∃d as,Qbc h v d as/\d.canLay0=true then q.choose else .none
theorem QlJ{h:Heap}{v:Value}{d:Qa}{as:List Addr}(r:Qbc h v d as)(c:d.canLay0=true):rdV h v=d:=by
 unfold rdV;have q:∃d as,Qbc h v d as/\d.canLay0=true:=⟨d,as,r,c⟩
 rw[dif_pos q];obtain⟨as',r',c'⟩:=q.choose_spec;exact(QaT d _ v as as' c r r').symm
theorem QdT{α β:Type}(f:α->β){l m:List β}(p:l.Perm m):∀{T:List α},m=T.map f->∃T':List α,T'.Perm T/\l=T'.map f:=by
 induction p with
 |nil=>intro T e;exact⟨T,ZT _,e⟩
 |@cons x l1 l2 _ ih=>
  intro T e;cases T with
  |nil=>cases e
  |cons t T=>
   rw[Q7] at e;injection e with e1 e2
   obtain⟨T',p',e'⟩:=ih e2;exact⟨t::T',p'.cons t,by rw[Q7,<- e1,<- e']⟩
 |@swap x y l=>
  intro T e;cases T with
  |nil=>cases e
  |cons t T=>
   cases T with
   |nil=>rw[Q7] at e;injection e with e1 e2;cases e2
   |cons t2 T=>
    rw[Q7,Q7] at e;injection e with e1 e2
    injection e2 with e3 e4
    exact⟨t2::t::T,Qe8 t t2 T,by rw[Q7,Q7,<- e1,<- e3,<- e4]⟩
 |@trans l1 l2 l3 _ _ ih1 ih2=>
  intro T e;obtain⟨T2,p2,e2⟩:=ih2 e;obtain⟨T1,p1,e1⟩:=ih1 e2;exact⟨T1,p1.trans p2,e1⟩
end
mutual
theorem Qni:∀(d:Qa),Qk6 d d=true->okK d=true
 |.int _,_=>rfl
 |.tuple ds,h=>Qka ds h
 |.none,h=>by cases h
 |.bool _,h=>by cases h
 |.str _,h=>by cases h
 |.list _,h=>by cases h
 |.dict _,h=>by cases h
theorem Qka:∀(ds:List Qa),Qc9 ds ds=true->Qhv ds=true
 |[],_=>rfl
 |d::ds,h=>by
  have h:=Qz.mp (show(Qk6 d d&&Qc9 ds ds)=true from h);show(okK d&&Qhv ds)=true;rw[Qni d h.1,Qka ds h.2];rfl
end
mutual
theorem QdB:∀(d:Qa),okK d=true->d.canLay0=true
 |.int _,_=>rfl
 |.tuple ds,h=>QjH ds h
 |.none,h=>by cases h
 |.bool _,h=>by cases h
 |.str _,h=>by cases h
 |.list _,h=>by cases h
 |.dict _,h=>by cases h
theorem QjH:∀(ds:List Qa),Qhv ds=true->Q6 ds=true
 |[],_=>rfl
 |d::ds,h=>by
  have h:=Qz.mp (show(okK d&&Qhv ds)=true from h);simp only[Q6,QdB d h.1,QjH ds h.2,Bool.and_self]
end
structure Qkh (ds:List Qa):Prop where
 cmp:∀x∈ds,∀y∈ds,Qk6 x y=true
 dep:∀x∈ds,x.depth<=20
end Rt
namespace L2
open PySem.Calls _root_.Rd _root_.Rk _root_.Rs Rt Dl
structure Trp where
 x:V
 v:Value
 d:Qa
theorem Qur{H:Hp}:∀{xs:List V}{ds:List Qa}{vs:List Value},Dats H xs ds->Vals xs vs->∃T:List Trp,xs=T.map (·.x)/\vs=T.map (·.v)/\ds=T.map (·.d)/\∀t∈T,Dat H t.x t.d/\RelV t.x t.v
 |_,_,_,.nil,.nil=>⟨[],rfl,rfl,rfl,λ_ h=>nomatch h⟩
 |_,_,_,.cons q qs,.cons r rs=>by
  obtain⟨T,e1,e2,e3,h⟩:=Qur qs rs;refine⟨⟨_,_,_⟩::T,by rw[e1];rfl,by rw[e2];rfl,by rw[e3];rfl,λt ht=>?_⟩;rcases Qs.mp ht with z | z
  ·rw[z];exact⟨q,r⟩
  ·exact h t z
theorem QpV{H:Hp}:∀{T:List Trp},(∀t∈T,Dat H t.x t.d/\RelV t.x t.v)->Dats H (T.map (·.x)) (T.map (·.d))/\Vals (T.map (·.x)) (T.map (·.v))
 |[],_=>⟨.nil,.nil⟩
 |t::T,h=>by
  obtain⟨a,b⟩:=QpV (T:=T) λt ht=>h t (.tail _ ht)
  exact⟨.cons (h t (.head _)).1 a,.cons (h t (.head _)).2 b⟩
section
variable{X:Cx}
end
end L2
namespace Dl
open L2 _root_.Rd Rk Rt
theorem Qwb{A:Addr->Prop}{H:Hp}{xs:List V}{ds:List Qa}(q:DAs A H xs ds){v:V}(hv:v∈xs):∃d∈ds,DA A H v d:=by
 obtain⟨i,hi⟩:=Jc.mp hv;obtain⟨d,hd,h⟩:=q.getV i v hi;exact⟨d,QD hd,h⟩
theorem QhM{A:Addr->Prop}{H:Hp}:∀{ys:List V}{es:List Qa},Dats H ys es->(∀y∈ys,∃d,DA A H y d/\nd d=true/\d.canLay0=true/\Dat H y d)->(∀y d e,y∈ys->Dat H y d->Dat H y e->d=e)->DAs A H ys es
 |_,_,.nil,_,_=>.nil
 |_,_,.cons (x:=x) (d:=d) q qs,h,u=>by
  obtain⟨d',h1,_,_,h4⟩:=h x (.head _);have:d=d':=u x d d' (.head _) q h4;subst this;exact .cons h1 (QhM qs (λy hy=>h y (.tail _ hy)) λy d e hy=>u y d e (.tail _ hy))
mutual
theorem Qj3{H:Hp}:∀(d e:Qa)(x:V),Dat H x d->Dat H x e->d=e
 |.none,e,_,.non,h=>by cases h;rfl
 |.bool _,e,_,.bl _,h=>by cases h;rfl
 |.int _,e,_,.int _,h=>by cases h;rfl
 |.str _,e,_,.str _ _,h=>by cases h;rfl
 |.tuple ds,e,_,.tup (xs:=xs) e1 q,h=>by
  cases h with
  |@tup a ys es e2 q'=>
   rw[e1] at e2;cases e2;rw[QeS ds es xs q q']
  |@lst a ys es e2 q'=>rw[e1] at e2;cases e2
 |.list ds,e,_,.lst (xs:=xs) e1 q,h=>by
  cases h with
  |@tup a ys es e2 q'=>rw[e1] at e2;cases e2
  |@lst a ys es e2 q'=>
   rw[e1] at e2;cases e2;rw[QeS ds es xs q q']
 |.dict _,_,_,q,_=>nomatch q
theorem QeS{H:Hp}:∀(ds es:List Qa)(xs:List V),Dats H xs ds->Dats H xs es->ds=es
 |[],es,_,.nil,h=>by cases h;rfl
 |d::ds,es,_,.cons q qs,h=>by
  cases h with
  |@cons x xs e es q' qs'=>rw[Qj3 d e _ q q',QeS ds es _ qs qs']
end
end Dl
namespace L2
open PySem.Calls _root_.Rd _root_.Rk Rt
section
variable{X:Cx}
end
end L2
namespace Dl
open L2 _root_.Rd Rk Rt
theorem any_map{α:Type}(l:List α)(g:α->Bool):(l.map g).any id=l.any g:=by rw[Qk2];rfl
section
variable{X:Cx}{E:XK}
theorem bt_set:bootBuiltins "set" = some (.type "set"):=by decide +kernel
end
end Dl
namespace Rk
open L2 _root_.Rd Dl
def inW(d:Qa)(a b:Int):Bool:=match d with
 |.int i=>decide (a<=i)&&decide (i<=b)
 |_=>false
theorem Qx3{i a b:Int}(h1:a<=i)(h2:i<=b):inW (.int i) a b=true:=by
 show(decide (a<=i)&&decide (i<=b))=true;rw[decide_eq_true h1,decide_eq_true h2];rfl
theorem Qv1{d:Qa}{a b:Int}(h:inW d a b=true):∃i,d=.int i/\a<=i/\i<=b:=by
 cases d<;>first | (cases h;done) | skip
 rename_i i
 have h:=Qz.mp (show(decide (a<=i)&&decide (i<=b))=true from h);exact⟨i,rfl,of_decide_eq_true h.1,of_decide_eq_true h.2⟩
def Qis:DF:=λargs R _=>∃d a b,args=[.v d,.v (.int a),.v (.int b)]/\R (.bool (inW d a b))
theorem Qad(ns:List Int):nds (ns.map Qk)=true:=Qtb.mpr λd hd=>by
 obtain⟨i,_,rfl⟩:=Qt.mp hd;rfl
end Rk
namespace Rx
open PySem.Calls L2
section
variable{X:Cx}{e:QZ}{st:Y3}{rest:List Y3}{pos:Pos}{te:TX}{t u:TSX}
end
end Rx
namespace L2
open Dl
end L2
namespace Dl
open L2 _root_.Rd Rk
structure EndsX (K:PySem.W.Frag) (F:Fm) (σ:L2.St) (H:Hp) (δ:Sts) (DD:Qe1) (D:L2.Ends) (Ex:Addr->Hp->Prop):Prop where
 nx:∀δ',DD.nx δ'->δ'=δ/\∀H',Rel K F σ H' δ->Kp σ δ H H'->D.nx σ H'
 rt:∀d,DD.rt d->∀v H',Ke F H'->DA F.A0 H' v d->D.rt v H'
 rtF:∀d,DD.rtF d->∀v H',Ke F H'->DA F.A0 H' v d->FrV F.H0 H' v->D.rt v H'
 ex:∀C,DD.ex C->∀H',Rel K F σ H' δ->Kp σ δ H H'->Ex C H'
theorem EndsX.step{K:PySem.W.Frag}{F:Fm}{σ:L2.St}{H H1:Hp}{δ:Sts}{DD:Qe1}{D:L2.Ends}{Ex:Addr->Hp->Prop}(h:EndsX K F σ H δ DD D Ex)(k:Kp σ δ H H1):EndsX K F σ H1 δ DD D Ex:=
 ⟨λδ' h'=>⟨(h.nx δ' h').1,λH' r k'=>(h.nx δ' h').2 H' r (k.trans k')⟩,h.rt,h.rtF,λC hC H' r k'=>h.ex C hC H' r (k.trans k')⟩
section
variable{X:Cx}
theorem PEX.imp{e:QZ}{t t':Rx.TX}(h:Rx.PEX X e t)(i:∀σ H Q Ex,t' σ H Q Ex->t σ H Q Ex):Rx.PEX X e t':=λpins s σ H Q Ex I q=>h pins s σ H Q Ex I (i σ H Q Ex q)
theorem PSX.imp{e:Y3}{t t':Rx.TSX}(h:Rx.PSX X e t)(i:∀D σ H Ex,t' D σ H Ex->t D σ H Ex):Rx.PSX X e t':=λpins s σ H D Ex I q=>h pins s σ H D Ex I (i D σ H Ex q)
theorem PSXs.imp{e:List Y3}{t t':Rx.TSX}(h:Rx.PSXs X e t)(i:∀D σ H Ex,t' D σ H Ex->t D σ H Ex):Rx.PSXs X e t':=λpins s σ H D Ex I q=>h pins s σ H D Ex I (i D σ H Ex q)
variable{k:Nat}{f:Addr}{fd:Q1}{ps:List Str}{x:Str}{p pos:Pos}{e:QZ}{es:List QZ}{fD:DF}{wa:DSl}
end
end Dl
namespace Rk
open L2 _root_.Rd Dl Rt
theorem Qpw(d:Qa)(ds:List Qa):Dl.cutD (d::ds) (some 1) none=ds:=by
 unfold Dl.cutD;rw[HT.Qoq,show(1:Int)=((1:Nat):Int) from rfl,HT.Qsq];rw[Qbd (by rw[Qr];omega),List.drop_one,List.tail_cons,Qr,QpK,ZD]
theorem QcC{n:Nat}:∀{ds:List Qa},(∀d∈ds,d.depth<=n)->Jg ds<=n
 |[],_=>Qq _
 |d::ds,h=>by
  show max d.depth (Jg ds)<=n;exact Nat.max_le.mpr ⟨h d (.head _),QcC λd hd=>h d (.tail _ hd)⟩
theorem QdK(ns:List Int):Qct (ns.map Qk)=some ns:=Dl.ints_map ns
theorem QtV(ns:List Int)(i:Int):((ns.map Qk).any λe=>JB e (.int i))=decide (i∈ns):=by
 rw[Qk2,YH,List.any_eq_true,decide_eq_true_iff];constructor
 ·rintro⟨c,hc,h⟩;have:c=i:=by simpa [JB] using h
  rw[<- this];exact hc
 ·intro h;refine⟨i,h,?_⟩;show(i == i)=true;simp
def toI:Qa->Int
 |.int i=>i
 |_=>0
theorem Qpi{ds:List Qa}{a b:Int}(h:ds.all (λd=>inW d a b)=true):ds=(ds.map toI).map Qk/\∀i∈ds.map toI,a<=i/\i<=b:=by
 constructor
 ·rw[Je]
  conv=>lhs;rw[<- Qba ds]
  refine JX λd hd=>?_
  obtain⟨i,rfl,_⟩:=Qv1 (Jm.mp h d hd);rfl
 ·intro i hi;obtain⟨d,hd,rfl⟩:=Qt.mp hi;obtain⟨i,rfl,h1,h2⟩:=Qv1 (Jm.mp h d hd);exact⟨h1,h2⟩
theorem Qn9(ns:List Int):(ns.map Qk).map toI=ns:=by
 rw[Je]
 conv=>rhs;rw[<- Qba ns]
 rfl
def nfI:List Int->Bool
 |x::y::r=>decide (x<=y)&&nfI (y::r)
 |_=>true
def QwR:Qa->Bool
 |.tuple [.int a,.int b]=>decide (a<=b)
 |_=>false
theorem QpT:∀ns:List Int,(Qg4 (ns.map Qk) (Dl.cutD (ns.map Qk) (some 1) none)).all QwR=nfI ns
 |[]=>by
  have h:(Qg4 ([]:List Qa) (Dl.cutD [] (some 1) none))=[]:=by unfold Qg4;rfl
  rw[Qe7,h];rfl
 |[x]=>by rw[Q7,Qpw];rfl
 |x::y::r=>by
  have ih:=QpT (y::r);rw[Q7,Qpw] at ih ⊢;show(QwR (.tuple [.int x,.int y])&&(Qg4 (Qk y::r.map Qk) (r.map Qk)).all QwR)=_;rw[ih];rfl
theorem QiX:∀{ns:List Int}{a:Int},nfI ns=true->(∀b,ns.getLast? = some b->b<=a)->nfI (ns++[a])=true
 |[],_,_,_=>rfl
 |[x],a,_,h=>by
  show(decide (x<=a)&&true)=true;rw[decide_eq_true (h x rfl)];rfl
 |x::y::r,a,hn,h=>by
  have hn:=Qz.mp (show(decide (x<=y)&&nfI (y::r))=true from hn);show(decide (x<=y)&&nfI (y::r++[a]))=true;rw[hn.1,QiX hn.2 λb hb=>h b (by rw[List.getLast?_cons_cons];exact hb)];rfl
def QjV:Qa->Bool
 |.tuple ds=>(decide ((1:Int)<=ds.length)&&decide ((ds.length:Int)<=6))&&(ds.all (λd=>inW d 0 6)&&nfI (ds.map toI))
 |_=>false
structure Qat (ns:List Int):Prop where
 l1:1<=ns.length
 l6:ns.length<=6
 bd:∀i∈ns,0<=i/\i<=6
 nf:nfI ns=true
def tI(ns:List Int):Qa:=.tuple (ns.map Qk)
theorem Qoc{ns:List Int}(h:Qat ns):QjV (tI ns)=true:=by
 show((decide ((1:Int)<=(ns.map Qk).length)&&decide (((ns.map Qk).length:Int)<=6))&&((ns.map Qk).all (λd=>inW d 0 6)&&nfI ((ns.map Qk).map toI)))=true;have a:=h.l1;have b:=h.l6;have e:(ns.map Qk).all (λd=>inW d 0 6)=true:=Jm.mpr λd hd=>by
  obtain⟨i,hi,rfl⟩:=Qt.mp hd;exact Qx3 (h.bd i hi).1 (h.bd i hi).2
 rw[Qf,Qn9,h.nf,decide_eq_true (by omega),decide_eq_true (by omega),e];rfl
def Qzl(L:List (Int×Int))(p:Int×Int):Bool := !(L.any λq=>(decide (q.2=p.2)&&decide (q.1≥p.1))||(decide (q.1=p.1)&&decide (q.2<p.2)))
def Qhy:DF:=λargs R _=>∃ns:List Int,args=[.v (tI ns)]/\R (.bool (nfI ns))
def Qiw:DF:=λargs R _=>∃d,args=[.v d]/\R (.bool (QjV d))
theorem Qv4{α β:Type}{g:α->Option β}{p:α->Bool}{k:α->β}:∀{xs:List α},(∀x∈xs,g x=if p x=true then some (k x) else none)->xs.filterMap g=(xs.filter p).map k
 |[],_=>rfl
 |x::xs,h=>by
  have ih:=Qv4 (xs:=xs) λy hy=>h y (.tail _ hy)
  by_cases z:p x=true
  ·rw[List.filterMap_cons_some (by rw[h x (.head _),if_pos z]),ih,Qb3 z];rfl
  ·rw[List.filterMap_cons_none (by rw[h x (.head _),if_neg z]),ih,Qb4 z]
@[irreducible] def Qpb:List Qa->(Qa->Prop)->Prop:=Qth
theorem Qpx:Qde (λxs H Q=>∃i j,xs=[.int i,.int j]/\Q (.int (if j<i then j else i)) H) Qpb:=by unfold Qpb;exact Qnl
theorem Qgh{i j k:Int}{Q:Qa->Prop}(e:(if j<i then j else i)=k)(h:Q (.int k)):Qpb [.int i,.int j] Q:=by
 unfold Qpb;show Q (.int (if j<i then j else i));rw[e];exact h
theorem QtN{items:List Qa}{wg wg2:DG}{wt wt2:DT}{wi2:DI}{we:DE}{δ:Sts}{Q:Qa->Prop}(G:Qa->List Qa)(k:Nat)(hl:(items.flatMap G).length<=k)
  (h:∀d∈items,∀(acc:List Qa)(N:List Qa->Prop),acc.length+(G d).length<=k->N (acc++G d)->wg d δ λδ4=>wt δ4 (λb=>if b=true then wi2 δ4 (λitems2=>InR items2 wg2 wt2 we δ4 acc N) XF else N acc) XF)(q:Q (.list (items.flatMap G))) :
  Qki items wg wt wi2 wg2 wt2 we δ Q:=by
 unfold Qki;refine⟨λi acc=>acc=(items.take i).flatMap G,by simp,λi acc d hd e=>?_,λacc e=>by rw[e,ZD];exact q⟩;have e:acc=(items.take i).flatMap G:=e;have hs:(items.take (i+1)).flatMap G=(items.take i).flatMap G++G d:=by
  rw[Z6,hd,Qbb];simp
 refine h d (QD hd) acc _ ?_ (by show acc++G d=_;rw[hs,e])
 have h1:(items.flatMap G).length=((items.take (i+1)).flatMap G).length+((items.drop (i+1)).flatMap G).length:=by
  rw[<- Qv,<- Qbb,Jh]
 rw[hs,<- e,Qv] at h1;omega
end Rk
namespace Rv
section
variable{prog:QB}{w:Q8}{A:Q2}{E:Value->Shared->Prop}{s:Shared}
end
end Rv
namespace L2
section
variable{X:Cx}{tg:QZ}
end
section
variable{X:Cx}
end
end L2
namespace Dl
open L2 _root_.Rd Rk
section
variable{X:Cx}{E:XK}{st:Y3}{i:Nat}{we:DE}
end
end Dl
namespace Rk
open L2 _root_.Rd Dl Rt
def Qdn(ns:List Nat):List Qa:=ns.map λ(c:Nat)=>.int (c:Int)
end Rk
namespace L2
section
variable{X:Cx}
end
end L2
namespace Dl
open L2 _root_.Rd Rk
end Dl
namespace Rk
open L2 _root_.Rd Dl Rt
theorem QfJ{α β:Type}{f g:α->List β}:∀{xs:List α},(∀x∈xs,f x=g x)->xs.flatMap f=xs.flatMap g
 |[],_=>rfl
 |x::xs,h=>by rw[QaA,QaA,h x (.head _),QfJ λy hy=>h y (.tail _ hy)]
def Bds(h w:Nat)(cs:List (Int×Int)):Prop:=h<=6/\w<=6/\∀p∈cs,0<=p.1/\p.1<h/\0<=p.2/\p.2<w
theorem Bds.nn{h w:Nat}{cs:List (Int×Int)}(b:Bds h w cs):∀p∈cs,0<=p.2:=λp hp=>(b.2.2 p hp).2.2.1
structure Std (cs L:List (Int×Int)):Prop where
 sub:∀p∈L,p∈cs
 rows:L.Pairwise λp q=>p.1<q.1
 cols:(L.map (·.2)).Nodup
theorem Std.nil{cs:List (Int×Int)}:Std cs []:=⟨λp hp=>(nomatch hp),.nil,.nil⟩
end Rk
namespace Dl
open L2 _root_.Rd Rk
section
variable{X:Cx}{E:XK}{st:Y3}{we:DE}
end
end Dl
namespace Rk
open L2 _root_.Rd Dl Rt
end Rk
namespace L2
section
variable{X:Cx}
end
end L2
namespace Dl
open L2 _root_.Rd Rk Rt
end Dl
namespace Rk
open L2 _root_.Rd Dl Rt
def wt(cs L:List (Int×Int)):Nat:=(cs.filter (Qzl L)).length
def Qou:DF:=λargs R _=>∃ns,args=[.v (tI ns)]/\Qat ns/\R .none
end Rk
namespace L2
open _root_.Rd
section
variable{X:Cx}
end
end L2
namespace Dl
open L2 _root_.Rd Rk Rt
section
variable{X:Cx}{E:XK}
end
end Dl
namespace Rk
open L2 _root_.Rd Dl Rt
def oth(n:Nat)(o:List Nat):List Nat:=(Qm n).filter λx => !decide (x∈o)
def ordsN(n:Nat):Nat->List (List Nat)
 |0=>[[]]
 |i+1=>(ordsN n i).flatMap λo=>(oth n o).map λx=>o++[x]
theorem Qcc{n:Nat}:∀{i:Nat}{o:List Nat},o∈ordsN n i->o.length=i
 |0,o,h=>by rw[Q3.mp h];rfl
 |i+1,o,h=>by
  obtain⟨p,hp,ho⟩:=Yh.mp h;obtain⟨x,_,rfl⟩:=Qt.mp ho;rw[Qv,Qcc hp];rfl
theorem QsW(n:Nat)(o:List Nat):(oth n o).length<=n:=by
 unfold oth;exact Q4 (QaG _ _) (by rw[QF];exact Qg _)
theorem QmZ{α β:Type}(g:α->List β)(n:Nat):∀xs:List α,(∀x∈xs,(g x).length<=n)->(xs.flatMap g).length<=xs.length*n
 |[],_=>by simp
 |x::xs,h=>by
  rw[QaA,Qv,Qr,QcR];have:=QmZ g n xs λy hy=>h y (.tail _ hy)
  have:=h x (.head _);omega
theorem QoZ{n:Nat}(h6:n<=6):∀i,i<=6->(ordsN n i).length<=50000
 |i,hi=>by
  have q:∀i,(ordsN n i).length<=n^i:=λi=>by
   induction i with
   |zero=>exact Qg _
   |succ i ih=>
    refine Q4 (QmZ _ n _ λo _=>by rw[Qf];exact QsW n o) ?_
    rw[Qld];exact QnN _ ih
  have a:=q i;have b:n^i<=6^i:=Qn0 h6 i;have c:6^i<=6^6:=QnM (by decide) hi;have e:(6:Nat)^6=46656:=rfl;omega
def tNn(o:List Nat):Qa:=.tuple (Qdn o)
def QxV:DF:=λargs R _=>∃(n:Nat)(o:List Nat),args=[.v (.int n),.v (tNn o)]/\n<=6/\R (.list (Qdn (oth n o)))
def QkC:DF:=λargs R _=>∃n:Nat,args=[.v (.int n)]/\n<=6/\R (.list ((ordsN n n).map tNn))
theorem Qge{n:Nat}:∀{i:Nat}{o:List Nat},o∈ordsN n i->∀x∈o,x<n
 |0,o,h,x,hx=>by rw[Q3.mp h] at hx;cases hx
 |i+1,o,h,x,hx=>by
  obtain⟨p,hp,ho⟩:=Yh.mp h;obtain⟨y,hy,rfl⟩:=Qt.mp ho;rcases Ji.mp hx with z | z
  ·exact Qge hp x z
  ·rw[Q3.mp z];exact QU.mp (Za.mp hy).1
end Rk
namespace HT
section
open PySem.SeqAt
open PySem.AutoSeq1 (wpAny_loadPart')
open PySem.MeetsSeq PySem.MeetsSeq2 PySem.MeetsSeq3
end
section
variable{prog:QB}{w:Q8}{A:Q2}{E:Value->Shared->Prop}{s:Shared}
end
end HT
namespace L2
end L2
namespace Rk
open L2 _root_.Rd Dl Rt
end Rk
namespace Dl
open L2 _root_.Rd Rk Rt
end Dl
namespace Rk
open L2 _root_.Rd Dl Rt
theorem Qhr{n:Nat}{o:List Nat}(h:o∈ordsN n n):o.Perm (Qm n):=by
 have nd:∀{i:Nat}{o:List Nat},o∈ordsN n i->o.Nodup:=λ{i}=>by
  induction i with
  |zero=>intro o h;rw[Q3.mp h];exact .nil
  |succ i ih=>
   intro o h;obtain⟨p,hp,ho⟩:=Yh.mp h;obtain⟨x,hx,rfl⟩:=Qt.mp ho;refine QpO.mpr ⟨ih hp,by simp,λa ha b hb e=>?_⟩;rw[Q3.mp hb] at e;have:=(Za.mp hx).2;rw[Qe3,decide_eq_false_iff_not] at this;exact this (by rw[<- e];exact ha)
 have p1:o.Perm ((Qm n).filter λx=>decide (x∈o)):=(Qbj (nd h) (QbE _ Qcm)).mpr λx=>by
  rw[Za,QU];exact⟨λhx=>⟨Qge h x hx,decide_eq_true hx⟩,λhx=>of_decide_eq_true hx.2⟩
 have l1:=p1.length_eq;have l2:=List.length_eq_countP_add_countP (λx=>decide (x∈o)) (l:=Qm n);rw[QF,List.countP_eq_length_filter,<- l1,Qcc h] at l2;have l3:(Qm n).countP (λx=>decide (¬decide (x∈o)=true))=0:=by omega
 have al:(Qm n).filter (λx=>decide (x∈o))=Qm n:=List.filter_eq_self.mpr λx hx=>by
  have:=List.countP_eq_zero.mp l3 x hx
  simpa using this
 rw[al] at p1;exact p1
end Rk
namespace Zt
def f5(M x:Nat):Nat:=(x*5+1) % M
def it5(M:Nat):Nat->Nat->Nat
 |0,x=>x
 |n+1,x=>it5 M n (f5 M x)
theorem Qgq(M:Nat):∀(m n x:Nat),it5 M (m+n) x=it5 M n (it5 M m x)
 |0,n,x=>by rw[JM];rfl
 |m+1,n,x=>by rw[Qlc];exact Qgq M m n (f5 M x)
def Qwn(M:Nat):Nat->Nat->Nat->Nat
 |0,_,acc=>acc
 |n+1,x,acc=>Qwn M n (f5 M x) (acc ||| 2^x)
theorem Qj7(M j:Nat):∀(n x acc:Nat),(Qwn M n x acc).testBit j=true->acc.testBit j=true∨∃b,b<n/\it5 M b x=j
 |0,_,_,h=>.inl h
 |n+1,x,acc,h=>by
  rcases Qj7 M j n (f5 M x) (acc ||| 2^x) h with z | ⟨b,hb,e⟩
  ·rw[Nat.testBit_or,QgR,Nat.testBit_two_pow] at z;rcases z with z | z
   ·exact .inl z
   ·exact .inr ⟨0,by omega,by show x=j;simpa using z⟩
  ·exact .inr ⟨b+1,by omega,e⟩
def QbV(M:Nat):Bool:=decide (Qwn M M 0 0=2^M - 1)&&decide (it5 M M 0=0)
theorem Qry:QbV 8=true:=by decide +kernel
theorem Qtv:QbV 32=true:=by decide +kernel
theorem Qpn:QbV 128=true:=by decide +kernel
theorem Qpm:QbV 512=true:=by decide +kernel
theorem QmP:QbV 2048=true:=by decide +kernel
theorem Qpl{M:Nat}(h:QbV M=true){i j:Nat}(hi:i<M)(hj:j<M):∃n,n<M/\it5 M n i=j:=by
 have h:=Qz.mp h;have h1:Qwn M M 0 0=2^M - 1:=of_decide_eq_true h.1;have h2:it5 M M 0=0:=of_decide_eq_true h.2;have all:∀k,k<M->∃b,b<M/\it5 M b 0=k:=λk hk=>by
  have:(Qwn M M 0 0).testBit k=true:=by rw[h1,Nat.testBit_two_pow_sub_one];exact decide_eq_true hk
  rcases Qj7 M k M 0 0 this with z | z
  ·simp at z
  ·exact z
 obtain⟨a,ha,rfl⟩:=all i hi;obtain⟨b,hb,rfl⟩:=all j hj;by_cases z:a<=b
 ·exact⟨b - a,by omega,by rw[<- Qgq,show a+(b - a)=b by omega]⟩
 ·refine⟨M - a+b,by omega,?_⟩;rw[<- Qgq,show a+(M - a+b)=M+b by omega,Qgq,h2]
def Qcy(mask:Nat):Nat->Nat×Nat->Nat×Nat
 |0,p=>p
 |n+1,p=>Qcy mask n (Z5 mask p.1 p.2)
theorem QhF(mask:Nat):∀(m n:Nat)(p:Nat×Nat),Qcy mask (m+n) p=Qcy mask n (Qcy mask m p)
 |0,n,p=>by rw[JM];rfl
 |m+1,n,p=>by rw[Qlc];exact QhF mask m n _
theorem QhD(mask:Nat):∀(n:Nat)(p:Nat×Nat),(Qcy mask n p).2=p.2 / 32^n
 |0,p=>by show p.2=p.2 / 1;omega
 |n+1,p=>by
  show(Qcy mask n (Z5 mask p.1 p.2)).2=_;rw[QhD mask n];show p.2 / 32 / 32^n=_;rw[Nat.div_div_eq_div_mul,Qld,Nat.mul_comm]
theorem QhE(mask:Nat):∀(n i:Nat),Qcy mask n (i,0)=(it5 (mask+1) n i,0)
 |0,i=>rfl
 |n+1,i=>by
  show Qcy mask n (Z5 mask i 0)=_;have:Z5 mask i 0=(f5 (mask+1) i,0):=by
   show((i*5+1+0 / 32) % (mask+1),0 / 32)=_;simp[f5]
  rw[this,QhE mask n];rfl
theorem QjP{mask:Nat}:∀(n:Nat)(p:Nat×Nat),p.1<mask+1->(Qcy mask n p).1<mask+1
 |0,_,h=>h
 |n+1,p,_=>QjP n _ (Qdi _ (Qbu _))
theorem QfG{mask:Nat}(hg:QbV (mask+1)=true){i perturb j:Nat}(hi:i<mask+1)(hp:perturb<2^64)(hj:j<mask+1):∃n,n<mask+14/\(Qcy mask n (i,perturb)).1=j:=by
 have h13:=QhD mask 13 (i,perturb);have:perturb / 32^13=0:=Nat.div_eq_of_lt (QN hp (by decide));rw[show(i,perturb).2=perturb from rfl,this] at h13;have hl:=QjP 13 (i,perturb) hi;obtain⟨n,hn,e⟩:=Qpl hg hl hj;refine⟨13+n,by omega,?_⟩;rw[QhF,show Qcy mask 13 (i,perturb)=((Qcy mask 13 (i,perturb)).1,0) from Prod.ext rfl h13,QhE];exact e
def stps(t:SetTable):Nat->J4->J4
 |0,p=>p
 |n+1,p=>stps t n (t.advance p)
theorem YS(t:SetTable):∀(m n:Nat)(p:J4),stps t (m+n) p=stps t n (stps t m p)
 |0,n,p=>by rw[JM];rfl
 |m+1,n,p=>by rw[Qlc];exact YS t m n _
def Qor(t:SetTable)(i perturb:Nat)(d:Option Nat):J4:={ j:=i,more:=Jf t.mask i - i,i:=i,perturb:=perturb,dummy:=d }
theorem Qhb(t:SetTable):∀(m j i perturb:Nat)(d:Option Nat),stps t m { j:=j,more:=m,i:=i,perturb:=perturb,dummy:=d }={ j:=j+m,more:=0,i:=i,perturb:=perturb,dummy:=d }
 |0,_,_,_,_=>rfl
 |m+1,j,i,perturb,d=>by
  show stps t m (t.advance _)=_;have:t.advance { j:=j,more:=m+1,i:=i,perturb:=perturb,dummy:=d }={ j:=j+1,more:=m,i:=i,perturb:=perturb,dummy:=d }:=by
   unfold YU;rw[if_pos (by show m+1 > 0;omega)];rfl
  rw[this,Qhb t m,show j+1+m=j+(m+1) by omega]
theorem QuL(mask i:Nat):Jf mask i - i<=9:=by unfold Jf;split<;>omega
theorem Qf1(t:SetTable)(i perturb:Nat)(d:Option Nat):stps t (Jf t.mask i - i+1) (Qor t i perturb d)=Qor t (Z5 t.mask i perturb).1 (Z5 t.mask i perturb).2 d:=by
 rw[YS];unfold Qor;rw[Qhb];simp only[stps];unfold YU;rw[if_neg (by show ¬(0:Nat) > 0;omega)]
theorem Qfl(t:SetTable)(d:Option Nat):∀(n i perturb:Nat),∃m,m<=10*n/\stps t m (Qor t i perturb d)=Qor t (Qcy t.mask n (i,perturb)).1 (Qcy t.mask n (i,perturb)).2 d
 |0,i,perturb=>⟨0,by omega,rfl⟩
 |n+1,i,perturb=>by
  obtain⟨m,hm,e⟩:=Qfl t d n (Z5 t.mask i perturb).1 (Z5 t.mask i perturb).2;have:=QuL t.mask i;refine⟨Jf t.mask i - i+1+m,by omega,?_⟩;rw[YS,Qf1,e];rfl
theorem QhW(h:Int):Q9 h<2^64:=by
 unfold Q9;have:=QpQ h (show(0:Int)<2^64 by decide);have:=Qui h (show(2^64:Int)≠0 by decide);omega
theorem Qkt(t:SetTable)(hg:QbV (t.mask+1)=true)(h:Int){j:Nat}(hj:j<t.mask+1):∃m,m<10*Jo t.mask/\(stps t m (t.probeStart h)).j=j:=by
 obtain⟨n,hn,e⟩:=QfG (mask:=t.mask) hg (i:=Q9 h % (t.mask+1)) (Qdi _ (Qbu _)) (QhW h) hj;obtain⟨m,hm,e2⟩:=Qfl t none n (Q9 h % (t.mask+1)) (Q9 h);refine⟨m,by unfold Jo;omega,?_⟩;have:t.probeStart h=Qor t (Q9 h % (t.mask+1)) (Q9 h) none:=rfl;rw[this,e2];exact e
theorem Qju:∀{P Q:List Nat},P.Nodup->(∀p∈P,p∈Q)->P.length<=Q.length
 |[],_,_,_=>Qq _
 |p::P,Q,nd,h=>by
  have nd:=Z8.mp nd;have hp:=h p (.head _);have:=Qju (P:=P) (Q:=Q.erase p) nd.2 λx hx=>(Qle (show x≠p from λe=>nd.1 (e ▸ hx))).mpr (h x (.tail _ hx))
  rw[Qik hp] at this;have:=Qcq hp;rw[Qr];omega
theorem QpB{xs:Array Nat}{j:Nat}(pw:xs.toList.Pairwise (· < ·)):∀(fuel lo hi:Nat),hi - lo<=fuel->lo<=hi->hi<=xs.size->(∀k (hk:k<xs.size),k<lo->xs[k]<j)->(∀k (hk:k<xs.size),hi<=k->j<=xs[k]) ->
  QaS xs j fuel lo hi<=xs.size/\(∀k (hk:k<xs.size),k<QaS xs j fuel lo hi->xs[k]<j)/\∀k (hk:k<xs.size),QaS xs j fuel lo hi<=k->j<=xs[k]:=by
 have mono:∀a b (ha:a<xs.size) (hb:b<xs.size),a<=b->xs[a]<=xs[b]:=λa b ha hb h=>by
  by_cases e:a=b
  ·subst e;exact Qg _
  ·have:=Jq.mp pw a b (by simpa using ha) (by simpa using hb) (by omega);simp only[J1] at this;omega
 intro fuel;induction fuel with
 |zero=>
  intro lo hi h1 h2 h3 h4 h5;have:lo=hi:=by omega
  subst this;exact⟨h3,h4,h5⟩
 |succ fuel ih=>
  intro lo hi h1 h2 h3 h4 h5;unfold QaS;by_cases z:lo<hi
  ·rw[if_pos z]
   dsimp only
   have hm:(lo+hi) / 2<xs.size:=by omega
   have eg:xs.getD ((lo+hi) / 2) j=xs[(lo+hi) / 2]:=by simp[Ze,hm]
   rw[eg];by_cases y:xs[(lo+hi) / 2]<j
   ·rw[if_pos y];refine ih _ _ (by omega) (by omega) h3 (λk hk hlt=>?_) h5;have:=mono k ((lo+hi) / 2) hk hm (by omega);omega
   ·rw[if_neg y];refine ih _ _ (by omega) (by omega) (by omega) h4 λk hk hle=>?_
    have:=mono ((lo+hi) / 2) k hm hk hle;omega
  ·rw[if_neg z];have:lo=hi:=by omega
   subst this;exact⟨h3,h4,h5⟩
theorem Qci{xs:Array Nat}(pw:xs.toList.Pairwise (· < ·))(j:Nat):JE xs j<=xs.size/\(∀k (hk:k<xs.size),k<JE xs j->xs[k]<j)/\∀k (hk:k<xs.size),JE xs j<=k->j<=xs[k]:=
 QpB pw _ 0 xs.size (by omega) (Qq _) (Qg _) (λk hk h=>by omega) λk hk h=>by omega
structure Tab (t:SetTable):Prop where
 pw:t.place.toList.Pairwise (· < ·)
 le:∀x∈t.place.toList,x<=t.mask
 dm:t.dummies=#[]
 gd:QbV (t.mask+1)=true
 pl:t.plain=true
 od:t.mask % 2=1
theorem Tab.slot_no{t:SetTable}(x:Tab t){j:Nat}(h:j∉t.place.toList):t.slot j=.empty:=by
 unfold Qdh
 dsimp only
 rw[if_neg,x.dm]
 ·rfl
 ·intro z;have z:=eq_of_beq z;exact h (ZE.mpr (YB z))
theorem Tab.slot_dm{t:SetTable}(x:Tab t)(j:Nat):t.slot j≠.dummy:=by
 unfold Qdh
 dsimp only
 split
 ·exact λe=>by cases e
 ·rw[x.dm,if_neg (by simp[Qh4])];exact λe=>by cases e
theorem Tab.slot_e{t:SetTable}(x:Tab t){j:Nat}(h:t.slot j=.empty):j∉t.place.toList:=λhj=>by
 obtain⟨i,hi,e⟩:=Qdk.mp hj;have hi':i<t.place.size:=by simpa using hi
 have e':t.place[i]=j:=by simpa using e
 obtain⟨b1,b2,b3⟩:=Qci x.pw j;have hb:JE t.place j=i:=by
  rcases YV (JE t.place j) i with z | z | z
  ·have hb':JE t.place j<t.place.size:=by omega
   have h1:=b3 _ hb' (Qg _);have:=Jq.mp x.pw (JE t.place j) i (by simpa using hb') hi z;simp only[J1] at this;omega
  ·exact z
  ·have:=b2 i hi' z;omega
 unfold Qdh at h
 dsimp only at h
 rw[hb,if_pos (by simp[hi',e'])] at h;cases h
theorem Tab.room{t:SetTable}(x:Tab t)(hs:t.place.size<=t.mask):∃j,j<t.mask+1/\j∉t.place.toList:=by
 apply JZ
 intro hn;have:∀p∈Qm (t.mask+1),p∈t.place.toList:=λp hp=>by
  apply JZ
  intro h;exact hn ⟨p,QU.mp hp,h⟩
 have:=Qju Qcm this;rw[QF,Qe] at this;omega
theorem Qh1(t:SetTable)(p:J4):(t.advance p).dummy=p.dummy:=by
 unfold YU;split<;>rfl
theorem Tab.put{t:SetTable}(x:Tab t){j:Nat}(hj:j∉t.place.toList)(hm:j<=t.mask):Tab (t.put j).1/\(t.put j).1.place.toList=t.place.toList.take (t.put j).2++j::t.place.toList.drop (t.put j).2/\(t.put j).1.mask=t.mask/\(t.put j).1.led=t.led/\(t.put j).1.moves=t.moves/\(t.put j).1.dummies=#[]:=by
 obtain⟨b1,b2,b3⟩:=Qci x.pw j;have hp:(t.put j).2=JE t.place j:=rfl;have hl:(t.put j).1.place.toList=t.place.toList.take (t.put j).2++j::t.place.toList.drop (t.put j).2:=QfR _ _ _;have hd:(t.put j).1.dummies=#[]:=by
  show(if Qh4 t.dummies j=true then _ else t.dummies)=#[];rw[x.dm,if_neg (by simp[Qh4])]
 have lo:∀a∈t.place.toList.take (JE t.place j),a<j:=λa ha=>by
  obtain⟨k,hk,e⟩:=Qdk.mp ha;rw[Jl] at hk;rw[List.getElem_take] at e;have hk2:k<t.place.size:=by rw[Qe] at hk;omega
  have:=b2 k hk2 (by omega);rw[J1] at e;omega
 have hi:∀a∈t.place.toList.drop (JE t.place j),j<a:=λa ha=>by
  have hne:a≠j:=λe=>hj (e ▸ QaW ha)
  obtain⟨k,hk,e⟩:=Qdk.mp ha;rw[Qaa,Qe] at hk;rw[List.getElem_drop,J1] at e;have:=b3 (JE t.place j+k) (by omega) (by omega);omega
 refine⟨⟨?_,?_,hd,x.gd,x.pl,x.od⟩,hl,rfl,rfl,rfl,hd⟩
 ·rw[hl,hp,Jx,Yq];refine⟨x.pw.sublist (QpL _ _),⟨hi,x.pw.sublist (List.drop_sublist _ _)⟩,λa ha b hb=>?_⟩;rcases Qs.mp hb with z | z
  ·subst z;exact lo a ha
  ·have:=lo a ha;have:=hi b z;omega
 ·intro a ha;rw[hl] at ha;rcases Ji.mp ha with z | z
  ·exact x.le a (Qdj z)
  ·rcases Qs.mp z with z | z
   ·subst z;exact hm
   ·exact x.le a (QaW z)
theorem QmS{mask:Nat}{owner:Array (Option Nat)}:∀(n fuel i perturb:Nat),n<fuel->owner.getD (Qcy mask n (i,perturb)).1 (some 0)=none->∃j,Jn mask owner fuel i perturb=some j/\owner.getD j (some 0)=none:=by
 intro n;induction n with
 |zero=>
  intro fuel i perturb hf he;obtain⟨fuel,rfl⟩:∃m,fuel=m+1:=⟨fuel - 1,by omega⟩
  unfold Jn;cases hfd:(Qm (Jf mask i+1 - i)).find? λk=>(owner.getD (i+k) (some 0)).isNone with
  |some k=>
   have:=Qt2 hfd;exact⟨i+k,rfl,by simpa using this⟩
  |none=>
   have:=Qn2.mp hfd 0 (QU.mpr (by unfold Jf;split<;>omega));rw[QcT,show owner.getD i (some 0)=none from he] at this;exact absurd rfl this
 |succ n ih=>
  intro fuel i perturb hf he;obtain⟨fuel,rfl⟩:∃m,fuel=m+1:=⟨fuel - 1,by omega⟩
  unfold Jn;cases hfd:(Qm (Jf mask i+1 - i)).find? λk=>(owner.getD (i+k) (some 0)).isNone with
  |some k=>
   have:=Qt2 hfd;exact⟨i+k,rfl,by simpa using this⟩
  |none=>exact ih fuel _ _ (by omega) he
theorem Qcg{f g:Nat->Option Nat}:∀{l:List Nat},(∀x∈l,f x=g x)->l.filterMap f=l.filterMap g
 |[],_=>rfl
 |x::l,h=>by
  rw[ZP,ZP,h x (.head _),Qcg λy hy=>h y (.tail _ hy)]
theorem Qrz(f:Nat->Option Nat)(j k:Nat)(hf:f j=none):∀M,j<M->((Qm M).filterMap λx=>if x=j then some k else f x).Perm (k::(Qm M).filterMap f)
 |0,h=>absurd h (YI _)
 |M+1,h=>by
  rw[Z7,Zw,Zw];by_cases z:M=j
  ·subst z;have e:((Qm M).filterMap λx=>if x=M then some k else f x)=(Qm M).filterMap f:=Qcg λx hx=>if_neg (by have:=QU.mp hx;omega)
   rw[e];have e2:([M].filterMap λx=>if x=M then some k else f x)=[k]:=by simp
   have e3:[M].filterMap f=[]:=by simp[hf]
   rw[e2,e3,JA];exact ZY
  ·have ih:=Qrz f j k hf M (by omega);have e2:([M].filterMap λx=>if x=j then some k else f x)=[M].filterMap f:=Qcg λx hx=>by
    rw[Q3.mp hx,if_neg z]
   rw[e2];exact ih.append_right _
def Lv(mask:Nat)(owner:Array (Option Nat)):List Nat:=(Qm (mask+1)).filterMap λj=>owner.getD j none
theorem QmU{f:Nat->Option Nat}:∀{M:Nat},(∀j,j<M->f j≠none)->((Qm M).filterMap f).length=M
 |0,_=>rfl
 |M+1,h=>by
  rw[Z7,Zw,Qv,QmU λj hj=>h j (by omega)];cases e:f M with
  |none=>exact absurd e (h M (by omega))
  |some y=>simp[e]
structure Own (mask:Nat) (owner:Array (Option Nat)) (k:Nat):Prop where
 sz:owner.size=mask+1
 pm:(Lv mask owner).Perm (Qm k)
theorem QjQ{mask:Nat}(hg:QbV (mask+1)=true){owner:Array (Option Nat)}{k:Nat}(x:Own mask owner k)(hk:k<=mask)(h:Int):∃j,Jn mask owner (Jo mask) (Q9 h % (mask+1)) (Q9 h)=some j/\Own mask (owner.setIfInBounds j (some k)) (k+1):=by
 obtain⟨e,he,hn⟩:∃e,e<mask+1/\owner.getD e none=none:=by
  apply JZ
  intro hno;have:=QmU (f:=λj=>owner.getD j none) (M:=mask+1) λj hj z=>hno ⟨j,hj,z⟩
  have h2:=x.pm.length_eq;rw[QF] at h2;unfold Lv at h2;omega
 have gd:∀j,j<mask+1->owner.getD j (some 0)=owner.getD j none:=λj hj=>by
  have:j<owner.size:=by rw[x.sz];exact hj
  simp[Ze,this]
 obtain⟨n,hn',e2⟩:=QfG hg (i:=Q9 h % (mask+1)) (perturb:=Q9 h) (Qdi _ (Qbu _)) (QhW h) he;obtain⟨j,hj,hj0⟩:=QmS (mask:=mask) (owner:=owner) n (Jo mask) (Q9 h % (mask+1)) (Q9 h) (by unfold Jo;omega) (by rw[e2,gd e he];exact hn);have hjs:j<owner.size:=by
  apply JZ
  intro z;simp[Ze,z] at hj0
 refine⟨j,hj,by rw[Qid];exact x.sz,?_⟩;have e3:Lv mask (owner.setIfInBounds j (some k))=(Qm (mask+1)).filterMap λy=>if y=j then some k else owner.getD y none:=Qcg λy hy=>by
  have hy:=QU.mp hy;have hys:y<owner.size:=by rw[x.sz];exact hy
  by_cases z:y=j
  ·subst z;simp[Ze,hys]
  ·rw[if_neg z];simp[Ze,hys,Qa4,Qcn z]
 rw[e3];refine(Qrz _ j k (by rw[<- gd j (by rw[<- x.sz];exact hjs)];exact hj0) _ (by rw[<- x.sz];exact hjs)).trans ?_
 refine(show(k::(Qm (mask+1)).filterMap λy=>owner.getD y none).Perm (k::Qm k) from x.pm.cons k).trans ?_
 rw[show Qm (k+1)=Qm k++[k] from Z7];exact ZY (l₁:=[k])
theorem QmA{mask:Nat}(hg:QbV (mask+1)=true):∀(hs:List Int)(owner:Array (Option Nat))(k:Nat),Own mask owner k->k+hs.length<=mask+1->∃owner',hs.foldl (λacc h=>do
  let (owner,k) <- acc
  let j <- Jn mask owner (Jo mask) (Q9 h % (mask+1)) (Q9 h)
  pure (owner.setIfInBounds j (some k),k+1)) (some (owner,k))=some (owner',k+hs.length)/\Own mask owner' (k+hs.length)
 |[],owner,k,x,_=>⟨owner,rfl,x⟩
 |h::hs,owner,k,x,hl=>by
  rw[Qr] at hl;obtain⟨j,hj,y⟩:=QjQ hg x (by omega) h;obtain⟨o',e,z⟩:=QmA hg hs _ (k+1) y (by omega);refine⟨o',?_,by rw[Qr,show k+(hs.length+1)=k+1+hs.length by omega];exact z⟩;rw[QcL,Qr,show k+(hs.length+1)=k+1+hs.length by omega,<- e]
  congr 1
  show(Jn mask owner (Jo mask) (Q9 h % (mask+1)) (Q9 h)).bind _=_;rw[hj];rfl
theorem Ql6(mask:Nat):Own mask (Qa3 (mask+1) none) 0:=by
 refine⟨by simp,?_⟩;have:Lv mask (Qa3 (mask+1) none)=[]:=by
  unfold Lv;rw[List.filterMap_eq_nil_iff];intro j hj;have:=QU.mp hj;simp[Ze,this]
 rw[this];exact ZT _
theorem Qtn{mask finger moves:Nat}{led:Bool}(hg:QbV (mask+1)=true)(ho:mask % 2=1)(hashes:Array Int)(hl:hashes.size<=mask) :
  ∃t order,QaF mask finger moves led true hashes=some (t,order)/\Tab t/\t.mask=mask/\t.led=led/\t.place.size=hashes.size/\order.toList.Perm (Qm hashes.size):=by
 obtain⟨owner,e,x⟩:=QmA hg hashes.toList (Qa3 (mask+1) none) 0 (Ql6 mask) (by rw[Qe];omega);rw[JM,Qe] at e x;have ec:Qbi mask hashes=some owner:=by
  unfold Qbi;rw[<- QnQ];exact congrArg (λz=>z.map (·.1)) e
 have el:QaF mask finger moves led true hashes=some ({ mask:=mask,place:=(((Qm (mask+1)).filterMap λj=>(owner.getD j none).map (j,·)).map (·.1)).toArray,dummies:=#[],finger:=finger,led:=led,moves:=moves,plain:=true },(((Qm (mask+1)).filterMap λj=>(owner.getD j none).map (j,·)).map (·.2)).toArray):=by
  unfold QaF;rw[ec];rfl
 have e2:((Qm (mask+1)).filterMap λj=>(owner.getD j none).map (j,·)).map (·.2)=Lv mask owner:=by
  unfold Lv;rw[Yr];exact Qcg λy _=>by cases owner.getD y none<;>rfl
 have e1:((Qm (mask+1)).filterMap λj=>(owner.getD j none).map (j,·)).map (·.1)=(Qm (mask+1)).filterMap λj=>(owner.getD j none).map λ_=>j:=by
  rw[Yr];exact Qcg λy _=>by cases owner.getD y none<;>rfl
 have len:(((Qm (mask+1)).filterMap λj=>(owner.getD j none).map (j,·)).map (·.1)).length=hashes.size:=by
  rw[Qf];have h1:=congrArg QgO e2;rw[Qf,x.pm.length_eq,QF] at h1;exact h1
 refine⟨_,_,el,⟨?_,?_,rfl,hg,rfl,ho⟩,rfl,rfl,by rw[Qp];exact len,by rw[ZN,e2];exact x.pm⟩
 ·show List.Pairwise (· < ·) (ZX _).toList;rw[ZN,e1,List.pairwise_filterMap];refine List.pairwise_lt_range.imp λ{a b} h=>?_
  intro c hc d hd;cases hoa:owner.getD a none with
  |none=>rw[hoa] at hc;cases hc
  |some _=>
   cases hob:owner.getD b none with
   |none=>rw[hob] at hd;cases hd
   |some _=>rw[hoa] at hc;rw[hob] at hd;cases hc;cases hd;exact h
 ·intro y hy;have hy:y∈(((Qm (mask+1)).filterMap λj=>(owner.getD j none).map (j,·)).map (·.1)).toArray.toList:=hy;rw[ZN,e1] at hy;obtain⟨a,ha,e⟩:=ZA.mp hy;have:=QU.mp ha;cases hoa:owner.getD a none with
  |none=>rw[hoa] at e;cases e
  |some _=>
   rw[hoa] at e;cases e;show a<=mask;omega
theorem QkD{α:Type}{es:Array α}{order:Array Nat}(h:order.toList.Perm (Qm es.size)):(order.filterMap (es[·]?)).toList.Perm es.toList:=by
 rw[Qjp];refine(h.filterMap _).trans ?_
 have:(Qm es.size).filterMap (es[·]?)=es.toList:=by
  apply YQ
  intro i;have key:∀n,n<=es.size->(Qm n).filterMap (es[·]?)=es.toList.take n:=λn=>by
   induction n with
   |zero=>intro _;rfl
   |succ n ih=>
    intro hn;rw[Z7,Zw,ih (by omega),Z6];have:es[n]? = some es[n]:=by simp[show n<es.size by omega]
    simp[this]
  rw[key _ (Qg _),<- Qe,ZD]
 rw[this]
theorem QpE{t t':SetTable}(h:t'.mask=t.mask)(p:J4):t'.advance p=t.advance p:=by
 unfold YU;rw[h]
theorem QbK{t t':SetTable}(h:t'.mask=t.mask):∀(n:Nat)(p:J4),stps t' n p=stps t n p
 |0,_=>rfl
 |n+1,p=>by
  show stps t' n (t'.advance p)=stps t n (t.advance p);rw[QpE h,QbK h n]
theorem Qca{t t':SetTable}(h:t'.mask=t.mask)(x:Int):t'.probeStart x=t.probeStart x:=by
 unfold SetTable.probeStart;rw[h]
structure PIn (t:SetTable) (p:J4):Prop where
 a:p.j+p.more<=t.mask
 b:p.i<=t.mask
theorem Qhi{mask i:Nat}(h:i<=mask):i+(Jf mask i - i)<=mask:=by unfold Jf;split<;>omega
theorem PIn.adv{t:SetTable}{p:J4}(x:PIn t p):PIn t (t.advance p):=by
 unfold YU;split
 ·exact⟨by show p.j+1+(p.more - 1)<=_;have:=x.a;omega,x.b⟩
 ·have:(Z5 t.mask p.i p.perturb).1<=t.mask:=QrY (Qdi _ (Qbu _));exact⟨Qhi this,this⟩
theorem PIn.stps{t:SetTable}:∀(n:Nat){p:J4},PIn t p->PIn t (stps t n p)
 |0,_,x=>x
 |n+1,_,x=>PIn.stps n x.adv
theorem PIn.start(t:SetTable)(h:Int):PIn t (t.probeStart h):=by
 have:Q9 h % (t.mask+1)<=t.mask:=QrY (Qdi _ (Qbu _));exact⟨Qhi this,this⟩
theorem Qiv(t:SetTable)(h:Int)(n:Nat):(stps t n (t.probeStart h)).j<=t.mask:=by
 have:=(PIn.stps n (PIn.start t h)).a;omega
def Rch(t:SetTable)(j:Nat)(h:Int):Prop:=∃n,(stps t n (t.probeStart h)).j=j/\∀m,m<n->(stps t m (t.probeStart h)).j∈t.place.toList
theorem Rch.mono{t t':SetTable}{j:Nat}{h:Int}(x:Rch t j h)(hm:t'.mask=t.mask)(hs:∀y∈t.place.toList,y∈t'.place.toList):Rch t' j h:=by
 obtain⟨n,e,k⟩:=x;refine⟨n,by rw[Qca hm,QbK hm];exact e,λm hlt=>?_⟩;rw[Qca hm,QbK hm];exact hs _ (k m hlt)
theorem Tab.slot_l{t:SetTable}{j i:Nat}(h:t.slot j=.live i):t.place[i]? = some j:=by
 unfold Qdh at h
 dsimp only at h
 split at h
 ·rename_i e
  cases h;exact eq_of_beq e
 ·split at h<;>cases h
theorem Tab.slot_at{t:SetTable}(x:Tab t){i:Nat}{j:Nat}(h:t.place[i]? = some j):t.slot j=.live i:=by
 have hj:j∈t.place.toList:=ZE.mpr (YB h);cases hs:t.slot j with
 |empty=>exact absurd hj (x.slot_e hs)
 |dummy=>exact absurd hs (x.slot_dm j)
 |live i'=>
  have h':=Tab.slot_l hs;obtain⟨h1,e1⟩:=ZU.mp h;obtain⟨h2,e2⟩:=ZU.mp h'
  congr 1
  rcases YV i' i with z | z | z
  ·have:=Jq.mp x.pw i' i (by simpa using h2) (by simpa using h1) z;simp only[J1] at this;omega
  ·exact z
  ·have:=Jq.mp x.pw i i' (by simpa using h1) (by simpa using h2) z;simp only[J1] at this;omega
theorem Qpp{t:SetTable}(x:Tab t)(hashAt:Nat->Int)(h:Int):∀(n fuel:Nat)(p:J4),n<fuel->t.slot (stps t n p).j=.empty->p.dummy=none ->
  ∃k,k<=n/\(∀m,m<k->∃i,t.slot (stps t m p).j=.live i/\hashAt i≠h)/\((Jt t hashAt h fuel p=some (.empty (stps t k p).j none)/\t.slot (stps t k p).j=.empty)∨(k<n/\∃i,Jt t hashAt h fuel p=some (.candidate (stps t k p).j i (stps t (k+1) p))/\t.slot (stps t k p).j=.live i/\hashAt i=h)):=by
 intro n;induction n with
 |zero=>
  intro fuel p hf he hd;obtain⟨fuel,rfl⟩:∃m,fuel=m+1:=⟨fuel - 1,by omega⟩
  refine⟨0,Qg _,λm hm=>absurd hm (YI _),.inl ⟨?_,he⟩⟩;unfold Jt;rw[show t.slot p.j=.empty from he]
  dsimp only
  rw[hd];rfl
 |succ n ih=>
  intro fuel p hf he hd;obtain⟨fuel,rfl⟩:∃m,fuel=m+1:=⟨fuel - 1,by omega⟩
  cases hs:t.slot p.j with
  |empty=>
   refine⟨0,Qq _,λm hm=>absurd hm (YI _),.inl ⟨?_,hs⟩⟩;unfold Jt;rw[hs]
   dsimp only
   rw[hd];rfl
  |dummy=>exact absurd hs (x.slot_dm _)
  |live i=>
   by_cases z:hashAt i=h
   ·refine⟨0,Qq _,λm hm=>absurd hm (YI _),.inr ⟨Qbu _,i,?_,hs,z⟩⟩;unfold Jt;rw[hs]
    dsimp only
    rw[if_pos (by simp[z])];rfl
   ·obtain⟨k,hk,ps,q⟩:=ih fuel (t.advance p) (by omega) he (by rw[Qh1];exact hd);have eg:Jt t hashAt h (fuel+1) p=Jt t hashAt h fuel (t.advance p):=by
     conv=>lhs;unfold Jt
     rw[hs]
     dsimp only
     rw[if_neg (by simp[z])]
    have ps':∀m,m<k+1->∃i,t.slot (stps t m p).j=.live i/\hashAt i≠h:=λm hm=>by
     cases m with
     |zero=>exact⟨i,hs,z⟩
     |succ m=>exact ps m (by omega)
    rcases q with⟨q1,q2⟩ | ⟨q0,i',q1,q2,q3⟩
    ·exact⟨k+1,by omega,ps',.inl ⟨by rw[eg];exact q1,q2⟩⟩
    ·exact⟨k+1,by omega,ps',.inr ⟨by omega,i',by rw[eg];exact q1,q2,q3⟩⟩
theorem Qp0(t:SetTable):∀(k m j i perturb:Nat)(d:Option Nat),k<=m->(stps t k { j:=j,more:=m,i:=i,perturb:=perturb,dummy:=d }).j=j+k
 |0,_,_,_,_,_,_=>rfl
 |k+1,m,j,i,perturb,d,h=>by
  obtain⟨m,rfl⟩:∃m',m=m'+1:=⟨m - 1,by omega⟩
  show(stps t k (t.advance _)).j=_;have:t.advance { j:=j,more:=m+1,i:=i,perturb:=perturb,dummy:=d }={ j:=j+1,more:=m,i:=i,perturb:=perturb,dummy:=d }:=by
   unfold YU;rw[if_pos (by show m+1 > 0;omega)];rfl
  rw[this,Qp0 t k m _ _ _ _ (by omega)];omega
theorem Qpr{t:SetTable}{owner:Array (Option Nat)}:∀(fuel i perturb j:Nat),Jn t.mask owner fuel i perturb=some j->∃n,(stps t n (Qor t i perturb none)).j=j/\∀m,m<n->owner.getD (stps t m (Qor t i perturb none)).j (some 0)≠none:=by
 intro fuel;induction fuel with
 |zero=>intro i perturb j h;cases h
 |succ fuel ih=>
  intro i perturb j h;unfold Jn at h;have jr:∀k,k<=Jf t.mask i - i->(stps t k (Qor t i perturb none)).j=i+k:=λk hk=>Qp0 t k _ _ _ _ _ hk
  have re:Jf t.mask i+1 - i=Jf t.mask i - i+1:=by unfold Jf;split<;>omega
  cases hfd:(Qm (Jf t.mask i+1 - i)).find? λk=>(owner.getD (i+k) (some 0)).isNone with
  |some k=>
   rw[hfd] at h;cases h;obtain⟨_,hk,hb⟩:=List.find?_range_eq_some.mp hfd
   have hk:=QU.mp hk;rw[re] at hk;refine⟨k,jr k (by omega),λm hm=>?_⟩;rw[jr m (by omega)];have:=hb m hm;intro z;rw[z] at this;cases this
  |none=>
   rw[hfd] at h;obtain⟨n,e,w⟩:=ih _ _ _ h;have all:=Qn2.mp hfd;refine⟨Jf t.mask i - i+1+n,by rw[YS,Qf1];exact e,λm hm=>?_⟩;by_cases z:m<Jf t.mask i - i+1
   ·rw[jr m (by omega)];have:=all m (QU.mpr (by omega));intro y;rw[y] at this;exact this rfl
   ·obtain⟨m',rfl⟩:∃m',m=Jf t.mask i - i+1+m':=⟨m - (Jf t.mask i - i+1),by omega⟩
    rw[YS,Qf1];exact w m' (by omega)
def tM(mask:Nat):SetTable:={ mask:=mask,place:=#[],dummies:=#[],finger:=0,led:=true,moves:=0,plain:=true }
def QwT(mask:Nat)(owner:Array (Option Nat))(H:Nat->Int):Prop:=∀j k,owner.getD j none=some k->∃n,(stps (tM mask) n ((tM mask).probeStart (H k))).j=j/\∀m,m<n->owner.getD (stps (tM mask) m ((tM mask).probeStart (H k))).j none≠none
theorem Qmz{mask:Nat}(hg:QbV (mask+1)=true){owner:Array (Option Nat)}{k:Nat}{H:Nat->Int}(x:Own mask owner k)(w:QwT mask owner H)(hk:k<=mask):∃j,Jn mask owner (Jo mask) (Q9 (H k) % (mask+1)) (Q9 (H k))=some j/\Own mask (owner.setIfInBounds j (some k)) (k+1)/\QwT mask (owner.setIfInBounds j (some k)) H:=by
 obtain⟨j,hj,y⟩:=QjQ hg x hk (H k);refine⟨j,hj,y,?_⟩;have gr:∀z,owner.getD z none≠none->(owner.setIfInBounds j (some k)).getD z none≠none:=λz hz=>by
  have hs:z<owner.size:=by
   apply JZ
   intro c;exact hz (by simp[Ze,c])
  by_cases e:j=z
  ·subst e;simp[Ze,hs]
  ·have:(owner.setIfInBounds j (some k)).getD z none=owner.getD z none:=by simp[Ze,hs,Qa4,e]
   rw[this];exact hz
 obtain⟨n,e,way⟩:=Qpr (t:=tM mask) _ _ _ _ hj;intro j' k' h';by_cases z:j=j'
 ·subst z;have hs:j<owner.size:=by
   apply JZ
   intro c;simp[Ze,c] at h'
  have ek:k'=k:=by
   simp[Ze,hs] at h';exact h'.symm
  subst ek;refine⟨n,e,λm hm=>gr _ ?_⟩;have h1:=way m hm;have h2:(stps (tM mask) m ((tM mask).probeStart (H k'))).j<=mask:=Qiv (tM mask) (H k') m;have h3:(stps (tM mask) m ((tM mask).probeStart (H k'))).j<owner.size:=by rw[x.sz];omega
  have h1:owner.getD (stps (tM mask) m ((tM mask).probeStart (H k'))).j (some 0)≠none:=h1
  simpa [Ze,h3] using h1
 ·have h2:owner.getD j' none=some k':=by
   have hs:j'<owner.size:=by
    apply JZ
    intro c;simp[Ze,c] at h'
   rw[<- h'];simp[Ze,hs,Qa4,z]
  obtain⟨n',e',way'⟩:=w j' k' h2;exact⟨n',e',λm hm=>gr _ (way' m hm)⟩
theorem QjS{mask:Nat}(hg:QbV (mask+1)=true)(H:Nat->Int):∀(hs:List Int)(owner:Array (Option Nat))(k:Nat),Own mask owner k->QwT mask owner H->(∀i (hi:i<hs.length),H (k+i)=hs[i])->k+hs.length<=mask+1->∃owner',hs.foldl (λacc h=>do
  let (owner,k) <- acc
  let j <- Jn mask owner (Jo mask) (Q9 h % (mask+1)) (Q9 h)
  pure (owner.setIfInBounds j (some k),k+1)) (some (owner,k))=some (owner',k+hs.length)/\Own mask owner' (k+hs.length)/\QwT mask owner' H
 |[],owner,k,x,w,_,_=>⟨owner,rfl,x,w⟩
 |h::hs,owner,k,x,w,hH,hl=>by
  rw[Qr] at hl;have e0:H k=h:=hH 0 (by simp);obtain⟨j,hj,y,y2⟩:=Qmz hg x w (by omega);rw[e0] at hj;obtain⟨o',e,z,z2⟩:=QjS hg H hs _ (k+1) y y2 (λi hi=>by
   have:=hH (i+1) (by rw[Qr];omega);rw[show k+1+i=k+(i+1) by omega,this];rfl) (by omega)
  refine⟨o',?_,by rw[Qr,show k+(hs.length+1)=k+1+hs.length by omega];exact z,z2⟩;rw[QcL,Qr,show k+(hs.length+1)=k+1+hs.length by omega,<- e]
  congr 1
  show(Jn mask owner (Jo mask) (Q9 h % (mask+1)) (Q9 h)).bind _=_;rw[hj];rfl
theorem QkN{mask finger moves:Nat}{led:Bool}(hg:QbV (mask+1)=true)(ho:mask % 2=1)(hashes:Array Int)(hl:hashes.size<=mask) :
  ∃t order,QaF mask finger moves led true hashes=some (t,order)/\Tab t/\t.mask=mask/\t.led=led/\t.place.size=hashes.size/\order.toList.Perm (Qm hashes.size)/\∀(i j k:Nat),t.place[i]? = some j->order[i]? = some k->Rch t j (hashes.getD k 0):=by
 obtain⟨owner,e,x,w⟩:=QjS hg (λk=>hashes.getD k 0) hashes.toList (Qa3 (mask+1) none) 0 (Ql6 mask) (λj k h=>by
   have:(Qa3 (mask+1) (none:Option Nat)).getD j none=none:=by
    by_cases c:j<mask+1<;>simp[Ze,c]
   rw[this] at h;cases h) (λi hi=>by
   have hi':i<hashes.size:=by simpa using hi
   simp[Ze,hi']) (by rw[Qe];omega)
 rw[JM,Qe] at e x;have ec:Qbi mask hashes=some owner:=by
  unfold Qbi;rw[<- QnQ];exact congrArg (λz=>z.map (·.1)) e
 have el:QaF mask finger moves led true hashes=some ({ mask:=mask,place:=(((Qm (mask+1)).filterMap λj=>(owner.getD j none).map (j,·)).map (·.1)).toArray,dummies:=#[],finger:=finger,led:=led,moves:=moves,plain:=true },(((Qm (mask+1)).filterMap λj=>(owner.getD j none).map (j,·)).map (·.2)).toArray):=by
  unfold QaF;rw[ec];rfl
 obtain⟨t,order,e2,T,m1,m2,m3,m4⟩:=Qtn (finger:=finger) (moves:=moves) (led:=led) hg ho hashes hl;rw[el] at e2;have e2:=Qw e2;have et:_=t:=congrArg Prod.fst e2;have eo:_=order:=congrArg Prod.snd e2;refine⟨t,order,by rw[el,e2],T,m1,m2,m3,m4,λi j k hj hk=>?_⟩;have live:∀y z,(y,z)∈((Qm (mask+1)).filterMap λj=>(owner.getD j none).map (j,·))↔y<=mask/\owner.getD y none=some z:=λy z=>by
  rw[ZA];constructor
  ·rintro⟨a,ha,e⟩;have:=QU.mp ha;cases hoa:owner.getD a none with
   |none=>rw[hoa] at e;cases e
   |some b=>rw[hoa] at e;cases e;exact⟨by omega,hoa⟩
  ·rintro⟨h1,h2⟩;exact⟨y,QU.mpr (by omega),by rw[h2];rfl⟩
 have pl:∀y,owner.getD y none≠none->y<=mask->y∈t.place.toList:=λy hy hm=>by
  rw[<- et];show y∈(ZX _).toList;rw[ZN,Qt];cases hoy:owner.getD y none with
  |none=>exact absurd hoy hy
  |some z=>exact⟨(y,z),(live y z).mpr ⟨hm,hoy⟩,rfl⟩
 have hjk:(j,k)∈((Qm (mask+1)).filterMap λj=>(owner.getD j none).map (j,·)):=by
  rw[<- et] at hj;rw[<- eo] at hk;have hj:(((Qm (mask+1)).filterMap λj=>(owner.getD j none).map (j,·)).map (·.1)).toArray[i]? = some j:=hj;have hk:(((Qm (mask+1)).filterMap λj=>(owner.getD j none).map (j,·)).map (·.2)).toArray[i]? = some k:=hk;rw[Qk1,Qy] at hj hk;cases hz:((Qm (mask+1)).filterMap λj=>(owner.getD j none).map (j,·))[i]? with
  |none=>rw[hz] at hj;cases hj
  |some q=>
   rw[hz] at hj hk;have h1:q.1=j:=Qw hj;have h2:q.2=k:=Qw hk;rw[<- h1,<- h2];exact QD hz
 obtain⟨hjm,hjo⟩:=(live j k).mp hjk;obtain⟨n,e3,way⟩:=w j k hjo;have hm:t.mask=(tM mask).mask:=m1;refine⟨n,by rw[Qca hm,QbK hm];exact e3,λm hlt=>?_⟩;rw[Qca hm,QbK hm];exact pl _ (way m hlt) (Qiv (tM mask) _ m)
theorem Qdu:Slot "set_iterator" "__next__" "set_iterator.__next__" :=
 .of (owner := "set_iterator") (n := "__next__") (by rw[Qkk,Qd1];kernel_rfl) (by decide +kernel) (by decide +kernel) (by decide +kernel) (by first | exact .inl (by decide +kernel) | exact .inr (by decide +kernel)) (by rw[Qe2];kernel_rfl)
theorem Qm5:entryFor table "set_iterator.__next__" = some Y4.«set_iterator.__next__» := entryFor_of_fast (by kernel_rfl)
theorem Qvo:Manifest.owners.lookup (String.ofList ['r', 'o', 't', 'a', 'r', 'e', 't', 'i', '_', 't', 'e', 's'].reverse)=some Manifest.sig_set_iterator:=by kernel_rfl
theorem QnA(a:Value):argsOk "set_iterator.__next__" ⟨[a],[]⟩:=by
 unfold argsOk;rw[signature?_of (id := "set_iterator.__next__") (n:=['_', '_', 't', 'x', 'e', 'n', '_', '_']) (o:=['r', 'o', 't', 'a', 'r', 'e', 't', 'i', '_', 't', 'e', 's']) (by kernel_rfl) Qvo];kernel_rfl
theorem QtB:entryFor table "set.__iter__" = some Y4.«frozenset.__iter__» := entryFor_alias (id' := "frozenset.__iter__") (by kernel_rfl) (by first | rfl | decide +kernel | (unfold QrV;simp +decide [QnI])) (by decide +kernel) (by kernel_rfl)
def IsSI(h:Heap)(I:Addr)(first:Value)(i a n ep:Nat):Prop:=∃o,h.get? I=some o/\o.cls=.type "set_iterator" /\ o.data=.fields #[first,.int i 0,.ref a,.int n 0,.int ep 0]
theorem IsSI.typeIs{s:Shared}{I:Addr}{first:Value}{i a n ep:Nat}(x:IsSI s.heap I first i a n ep):s.TypeIs (.ref I) "set_iterator" := let ⟨o,h,c,_⟩:=x;⟨o,h,c⟩
structure SetAt (h:Heap) (a:Addr) (es:Array (Int×Value)) (ep:Nat) (t:SetTable):Prop where
 at_:∃o,h.get? a=some o/\o.ExactSet/\o.data=.set es ep t
 ft:t.fits es.size=true
section
variable{prog:QB}{w:Q8}{A:Q2}{E:Value->Shared->Prop}{s:Shared}
theorem Qs7{I a:Addr}{i ep slot nx:Nat}{es:Array (Int×Value)}{t:SetTable}{x:Value}{Q:Option Value->Shared->Prop}(hit:IsSI s.heap I (.int slot 0) i a es.size ep)(ha:SetAt s.heap a es ep t)
  (hN:∀(A:Q2)(E:Value->Shared->Prop)(Q':Option (Value×Nat)->Shared->Prop),Q' (some (x,nx)) s->wpAny (model prog w) A (setNext a slot i ep) Q' E s)
  (hQ:∀h',IsSI h' I (.int nx 0) (i+1) a es.size ep->Qag I s.heap h'->Q (some x) { s with heap:=h' }):wpAny (model prog w) A (pyNext (.ref I)) Q E s:=by
 obtain⟨o,ho,hc,hd⟩:=id hit;obtain⟨os,hos,hex,hds⟩:=ha.at_;unfold pyNext;refine wpAny_bind (QcM (J6 (name:=Qah "__next__") hit.typeIs Qdu (JO Qdu hit.typeIs Qm5 ?_ (QnA _))));unfold Y4.«set_iterator.__next__»
 wp_walk
 rw[hd];refine wpAny_pure ?_
 dsimp only
 refine wpAny_bind (Qt6 hos hds ha.ft ?_);rw[if_neg (by simp)];refine wpAny_bind ?_
 refine hN _ _ _ ?_
 dsimp only
 refine wpAny_bind (Qck ho hd (by simp) ?_);have g1:(s.heap.update I (Qkn λx=>x.setIfInBounds 0 (rawInt ↑nx))).get? I=some (Qkn (λx=>x.setIfInBounds 0 (rawInt ↑nx)) o):=Zx _ ho (QcQ (Yy hd _));have d1:(Qkn (λx=>x.setIfInBounds 0 (rawInt ↑nx)) o).data=.fields #[.int nx 0,.int i 0,.ref a,.int es.size 0,.int ep 0]:=by rw[Yy hd];simp[rawInt]
 refine wpAny_bind (Qck g1 d1 (by simp) (wpAny_pure ⟨x,rfl,wpAny_pure (hQ _ ?_ ((Zj ..).trans (Zj ..)))⟩));exact⟨_,Zx _ g1 (QcQ (Yy d1 _)),(Qe6 ..).trans ((Qe6 ..).trans hc),by rw[Yy d1];simp[rawInt]⟩
theorem QvH{I a:Addr}{i ep slot:Nat}{es:Array (Int×Value)}{t:SetTable}{Q:Option Value->Shared->Prop}(hh:A.handled=none)(hit:IsSI s.heap I (.int slot 0) i a es.size ep)(ha:SetAt s.heap a es ep t)
  (hN:∀(A:Q2)(E:Value->Shared->Prop)(Q':Option (Value×Nat)->Shared->Prop),Q' none s->wpAny (model prog w) A (setNext a slot i ep) Q' E s)
  (hQ:∀h',Heap.ExtBut I s.heap h'->Q none { s with heap:=h' }):wpAny (model prog w) A (pyNext (.ref I)) Q E s:=by
 obtain⟨o,ho,hc,hd⟩:=id hit;obtain⟨os,hos,hex,hds⟩:=ha.at_;unfold pyNext;refine wpAny_bind (QcM (J6 (name:=Qah "__next__") hit.typeIs Qdu (JO Qdu hit.typeIs Qm5 ?_ (QnA _))));unfold Y4.«set_iterator.__next__»
 wp_walk
 rw[hd];refine wpAny_pure ?_
 dsimp only
 refine wpAny_bind (Qt6 hos hds ha.ft ?_);rw[if_neg (by simp)];refine wpAny_bind ?_
 refine hN _ _ _ ?_
 dsimp only
 refine wpAny_bind (Qck ho hd (by simp) ?_);refine wpAny_bind ?_
 simp only[newExc,newTuple];refine wpAny_bind (JJ ?_ (by size_fits));refine wpAny_bind (m:=firstArgMember _ _) (Qt7 (a:=JD) (by first | rfl | (simp only[firstArgMember];rfl)) ?_);refine JJ ?_ (by size_fits)
 simp only[raiseNew];refine wpAny_bind (wpAny_handled ?_)
 first | rw[show A.in1.handled=none from hh] | rw[hh]
 refine wpAny_bind (wpAny_pure (wpAny_throw ?_));refine wpAny_bind (Qif (T := "StopIteration") (b:=true) ⟨_,Qu _ rfl,rfl⟩ (by rw[Qe2];kernel_rfl) ?_);exact wpAny_pure (hQ _ (((Zj ..).extBut.push _).push _))
theorem Qp3{a:Addr}{ep slot given:Nat}{es:Array (Int×Value)}{t:SetTable}{Q:Option (Value×Nat)->Shared->Prop}(hb:w.params.followText "set-order" = false)(ha:SetAt s.heap a es ep t)(hp:t.plain=true)(hl:t.led=true)
  (h:Q (match es[JE t.place slot]?,t.place[JE t.place slot]? with | some (_,x),some j=>some (x,j+1) | _,_=>none) s):wpAny (model prog w) A (setNext a slot given ep) Q E s:=by
 obtain⟨os,hos,hex,hds⟩:=ha.at_;unfold setNext;refine wpAny_bind (Zi hos hds ha.ft ?_)
 dsimp only
 unfold setsByText;refine wpAny_bind (wpAny_bind (ZK (wpAny_pure ?_)));rw[show(model prog w).w.params.followText "set-order" = false from hb,if_neg Qx];split
 ·rename_i hdr
  exact absurd (show(!t.plain&&decide (es.size > 1))=true from hdr) (by rw[hp];simp)
 ·refine wpAny_bind ?_
  show wpAny (model prog w) A (if(!t.led && !es.isEmpty)=true then unsupported "set:maker-not-led" else pure ()) _ E s;rw[if_neg (by rw[hl];simp)];exact wpAny_pure (wpAny_pure h)
theorem Qlx{a:Addr}{ep slot given:Nat}{es:Array (Int×Value)}{t:SetTable}{Q:Option (Value×Nat)->Shared->Prop}(hb:w.params.followText "set-order" = true)(ha:SetAt s.heap a es ep t)
  (h:Q (((pickOrder (w.params.setOrder a ep) es)[given]?).map λe=>(e.2,slot)) s):wpAny (model prog w) A (setNext a slot given ep) Q E s:=by
 obtain⟨os,hos,hex,hds⟩:=ha.at_;unfold setNext;refine wpAny_bind (Zi hos hds ha.ft ?_)
 dsimp only
 unfold setsByText;refine wpAny_bind (wpAny_bind (ZK (wpAny_pure ?_)));rw[show(model prog w).w.params.followText "set-order" = true from hb,if_pos rfl,if_neg (by simp)];refine wpAny_bind ?_
 unfold setWalk;refine wpAny_bind (Zi hos hds ha.ft ?_)
 dsimp only
 unfold setsByText;refine wpAny_bind (wpAny_bind (ZK (wpAny_pure ?_)));rw[show(model prog w).w.params.followText "set-order" = true from hb,if_pos rfl];refine wpAny_bind (ZK (wpAny_pure ?_));exact wpAny_pure h
theorem Qhp{α:Type}(next:Nat->Nat)(xs:Array α):(pickOrder next xs).toList.Perm xs.toList:=by
 unfold pickOrder;have go:∀(n k:Nat)(left:List α)(out:Array α),left.length=n->(QpH next n k left out).toList.Perm (out.toList++left):=λn=>by
  induction n with
  |zero=>
   intro k left out hl;rw[Qjn.mp hl,JA];exact ZT _
  |succ n ih=>
   intro k left out hl;have hi:next k % left.length<left.length:=Qdi _ (by omega)
   unfold QpH;rw[Qd hi]
   dsimp only
   refine(ih (k+1) _ _ (by rw[List.length_eraseIdx,if_pos hi];omega)).trans ?_
   rw[QbF,QR];refine Yl _ ?_
   have sp:left=left.take (next k % left.length)++left[next k % left.length]::left.drop (next k % left.length+1):=by rw[<- Y6 hi,Jh]
   have pm:=(QrZ (a:=left[next k % left.length]) (l₁:=left.take (next k % left.length)) (l₂:=left.drop (next k % left.length+1))).symm;rw[<- sp,<- List.eraseIdx_eq_take_drop_succ] at pm;exact pm
 have:=go xs.size 0 xs.toList #[] (by simp)
 simpa using this
theorem QvX{a:Addr}{ep:Nat}{es:Array (Int×Value)}{t:SetTable}{Q:Value->Shared->Prop}(ha:SetAt s.heap a es ep t)(hp:t.plain=true)
  (hQ:Q (.ref s.heap.objs.size) { s with heap:=s.heap.push { cls:=.type "set_iterator",data:=.fields #[.int 0 0,.int 0 0,.ref a,.int es.size 0,.int ep 0] } }):wpAny (model prog w) A (pyIter (.ref a)) Q E s:=by
 obtain⟨os,hos,hex,hds⟩:=ha.at_;have hT:s.TypeIs (.ref a) "set" := ⟨os,hos,hex.1⟩;refine QwX hT PySem.F.slot_set_iter (JO PySem.F.slot_set_iter hT QtB ?_ (PySem.F.args_set_iter_1 _));unfold Y4.«frozenset.__iter__»
 wp_walk
 have nf:¬(t.place.size != es.size||decide (t.fill > t.mask))=true:=by
  have hf:=ha.ft;simp only[Qbt,JF,beq_iff_eq,decide_eq_true_eq] at hf;simp[hf.1,Nat.not_lt.mpr hf.2]
 rw[hds]
 dsimp only
 rw[if_neg nf];refine wpAny_pure (wpAny_pure (wpAny_pure ?_));refine wpAny_bind ?_
 unfold setDrawn;refine wpAny_bind (Zi hos hds ha.ft ?_)
 dsimp only
 unfold setsByText;refine wpAny_bind (wpAny_bind (ZK (wpAny_pure ?_)));refine wpAny_pure ?_
 split
 ·rename_i hdr
  have hdr:(!(w.params.followText "set-order")&&(!t.plain&&decide (es.size > 1)))=true:=hdr;rw[hp] at hdr;simp at hdr
 ·refine wpAny_bind (wpAny_pure ?_);refine wpAny_bind (wpAny_setEpoch_of hos hds ha.ft ?_);exact wpAny_bind (JJ (wpAny_pure ⟨_,rfl, "set_iterator",_,⟨_,Qu _ rfl,rfl⟩,Qdu.lookup,hQ⟩))
theorem SetAt.at'{h h':Heap}{a:Addr}{es:Array (Int×Value)}{ep:Nat}{t:SetTable}(x:SetAt h a es ep t)(k:∀o,h.get? a=some o->h'.get? a=some o):SetAt h' a es ep t:=let ⟨o,h1,h2⟩:=x.at_;⟨⟨o,k o h1,h2⟩,x.ft⟩
theorem IsSI.at'{h h':Heap}{I:Addr}{first:Value}{i a n ep:Nat}(x:IsSI h I first i a n ep)(k:∀o,h.get? I=some o->h'.get? I=some o):IsSI h' I first i a n ep:=let ⟨o,h1,h2⟩:=x;⟨o,k o h1,h2⟩
end
structure Way (prog:QB) (w:Q8) (a:Addr) (es:Array (Int×Value)) (ep:Nat) (t:SetTable) (so:Nat->Nat) (vs:Array (Int×Value)):Prop where
 pm:vs.toList.Perm es.toList
 s0:so 0=0
 item:∀(s:Shared)(A:Q2)(E:Value->Shared->Prop)(Q:Option (Value×Nat)->Shared->Prop)(i:Nat)(e:Int×Value),SetAt s.heap a es ep t->vs[i]? = some e->Q (some (e.2,so (i+1))) s->wpAny (model prog w) A (setNext a (so i) i ep) Q E s
 fin:∀(s:Shared)(A:Q2)(E:Value->Shared->Prop)(Q:Option (Value×Nat)->Shared->Prop),SetAt s.heap a es ep t->Q none s->wpAny (model prog w) A (setNext a (so es.size) es.size ep) Q E s
theorem Way.walks{prog:QB}{w:Q8}{A:Q2}(hh:A.handled=none){a:Addr}{es:Array (Int×Value)}{ep:Nat}{t:SetTable}{so:Nat->Nat}{vs:Array (Int×Value)}(W:Way prog w a es ep t so vs)(I:Addr)(hne:a≠I)(self:∀(s:Shared)(Q:Value->Shared->Prop)(E:Value->Shared->Prop)(i:Nat),IsSI s.heap I (.int (so i) 0) i a es.size ep->Q (.ref I) s->wpAny (model prog w) A (pyIter (.ref I)) Q E s) :
  Walks prog w A I [I,a] [I] es.size (λi v=>(vs[i]?).map (·.2)=some v) (λi h=>IsSI h I (.int (so i) 0) i a es.size ep/\SetAt h a es ep t) where
 sub:=λb hb=>by simp at hb;simp[hb]
 frame:=λ_ _ _ st hk=>⟨st.1.at' λo e=>hk I (by simp) o e,st.2.at' λo e=>hk a (by simp) o e⟩
 item:=λi s Q E hi st hQ=>by
  have hl:vs.size=es.size:=by rw[<- Qe,W.pm.length_eq,Qe]
  have hv:vs[i]? = some vs[i]:=by simp[hl,hi]
  refine Qs7 st.1 st.2 (x:=vs[i].2) (nx:=so (i+1)) (λA E Q' q=>W.item s A E Q' i _ st.2 hv q) λh' hit' hs'=>?_
  refine hQ _ h' s.toks (by rw[hv];rfl) ⟨hit',st.2.at' λo e=>hs'.extBut a o (λz=>hne z) e⟩ λb o hb e=>hs'.extBut b o (λz=>hb (by simp[z])) e
 done:=λs Q E st hQ=>QvH hh st.1 st.2 (λA E Q' q=>W.fin s A E Q' st.2 q) λh' he'=>hQ h' s.toks λb o hb e=>he' b o (λz=>hb (by simp[z])) e
 self:=λi s Q E st hQ=>self s Q E i st.1 hQ
theorem Qn6{prog:QB}{w:Q8}(hb:w.params.followText "set-order" = true)(a:Addr)(es:Array (Int×Value))(ep:Nat)(t:SetTable):Way prog w a es ep t (λ_=>0) (pickOrder (w.params.setOrder a ep) es) where
 pm:=Qhp _ _
 s0:=rfl
 item:=λs A E Q i e ha hv q=>Qlx hb ha (by rw[hv];exact q)
 fin:=λs A E Q ha q=>Qlx hb ha (by
  have hl:(pickOrder (w.params.setOrder a ep) es).size=es.size:=by rw[<- Qe,(Qhp _ _).length_eq,Qe]
  rw[ZQ (by omega)];exact q)
theorem Qsb{prog:QB}{w:Q8}(hb:w.params.followText "set-order" = false)(a:Addr)(es:Array (Int×Value))(ep:Nat)(t:SetTable)(hp:t.plain=true)(hl:t.led=true)(hz:t.place.size=es.size)(so:Nat->Nat)(s0:so 0=0)(hs:∀i,i<t.place.size->so (i+1)=t.place.getD i 0+1)(hbel:∀i,i<=t.place.size->JE t.place (so i)=i):Way prog w a es ep t so es where
 pm:=ZT _
 s0:=s0
 item:=λs A E Q i e ha hv q=>Qp3 hb ha hp hl (by
  have hi:i<es.size:=by
   by_cases z:i<es.size
   ·exact z
   ·rw[ZQ (by omega)] at hv;cases hv
  rw[hbel i (by omega),hv,show t.place[i]? = some (t.place.getD i 0) by simp[Ze,show i<t.place.size by omega]]
  dsimp only
  rw[<- hs i (by omega)];exact q)
 fin:=λs A E Q ha q=>Qp3 hb ha hp hl (by
  rw[hbel es.size (by omega),ZQ (Qg _)];exact q)
section
variable{prog:QB}{w:Q8}{A:Q2}{E:Value->Shared->Prop}{s:Shared}
theorem QmN(n:Nat){k:Int}{v:Value}(h:(intKind prog w).is k v=true):hashByValue n v=pure true/\∀d,ofAClassStatement d v=pure false:=by
 cases v<;>first | (cases h;done) | skip
 all_goals first | exact⟨by cases n<;>rfl,λd=>by cases d<;>rfl⟩ | (simp[intKind] at h)
theorem QhH{ks:List Int}{vs:List Value}(h:ItemsAre (intKind prog w) ks vs):∀v∈vs,∃k,(intKind prog w).is k v=true:=by
 induction h with
 |nil=>intro v hv;cases hv
 |cons h1 _ ih=>
  intro v hv;rcases Qs.mp hv with z | z
  ·subst z;exact⟨_,h1⟩
  ·exact ih v z
theorem QmM{ks:List Int}{a:Addr}{Q:Bool->Shared->Prop}(hk:J8 (intKind prog w) s.heap ks a)(h:Q true s):wpAny (model prog w) A (hashByValue 8 (.ref a)) Q E s:=by
 have hT:=hk.typeIs;obtain⟨o,items,n,ho,_,hd,hi⟩:=hk;have ha:=QhH hi;unfold hashByValue;refine wpAny_bind (wpAny_specialOf hT F.slot_tuple_hash.lookup ?_)
 dsimp only
 refine wpAny_bind (ZS ho hd ?_);refine wpAny_bind ?_
 show wpAny _ _ (forIn items _ _) _ _ s;rw[<- QnP];refine Qdg _ (λrest r s'=>r.1=none/\s'=s/\∀v∈rest,∃k,(intKind prog w).is k v=true) _ ?_ ?_ _ _ ⟨rfl,rfl,ha⟩
 ·rintro v rest r s' ⟨hr,rfl,hall⟩;obtain⟨k,hk⟩:=hall v Jz;rw[(QmN _ hk).1];refine wpAny_bind (wpAny_pure ?_);simp only[QwJ,ZB,if_false];exact wpAny_pure ⟨rfl,rfl,λu hu'=>hall u (QK _ hu')⟩
 ·rintro⟨r1,r2⟩ s' ⟨hr,rfl,_⟩;simp only at hr;subst hr;exact wpAny_pure h
theorem Qhw{ks:List Int}{a:Addr}{Q:Bool->Shared->Prop}(hk:J8 (intKind prog w) s.heap ks a)(h:Q false s):wpAny (model prog w) A (ofAClassStatement 8 (.ref a)) Q E s:=by
 have hT:=hk.typeIs;obtain⟨o,items,n,ho,_,hd,hi⟩:=hk;have ha:=QhH hi;unfold ofAClassStatement;refine wpAny_bind (Qb1 hT ?_)
 dsimp only
 rw[if_pos (by decide)];refine wpAny_bind (wpAny_pure ?_);rw[if_neg (by decide)];refine wpAny_bind (ZS ho hd ?_)
 dsimp only
 refine wpAny_bind ?_
 show wpAny _ _ (forIn items _ _) _ _ s;rw[<- QnP];refine Qdg _ (λrest r s'=>r.1=none/\s'=s/\∀v∈rest,∃k,(intKind prog w).is k v=true) _ ?_ ?_ _ _ ⟨rfl,rfl,ha⟩
 ·rintro v rest r s' ⟨hr,rfl,hall⟩;obtain⟨k,hk⟩:=hall v Jz;rw[(QmN 0 hk).2];refine wpAny_bind (wpAny_pure ?_);rw[if_neg (by decide)];exact wpAny_pure ⟨rfl,rfl,λu hu'=>hall u (QK _ hu')⟩
 ·rintro⟨r1,r2⟩ s' ⟨hr,rfl,_⟩;simp only at hr;subst hr;exact wpAny_pure h
theorem Qsl{ks:List Int}{a:Addr}{stored:List Value}{Q:Bool->Shared->Prop}(hk:J8 (intKind prog w) s.heap ks a)(hs:∀v∈stored,∃ks' b,v=.ref b/\J8 (intKind prog w) s.heap ks' b)(h:Q false s):wpAny (model prog w) A (searchCouldBeSeen (.ref a) stored) Q E s:=by
 unfold searchCouldBeSeen;refine wpAny_bind ?_
 refine Qdg _ (λrest r s'=>r.1=none/\s'=s/\∀v∈rest,∃ks' b,v=.ref b/\J8 (intKind prog w) s.heap ks' b) _ ?_ ?_ _ _ ⟨rfl,rfl,hs⟩
 ·rintro v rest r s' ⟨hr,rfl,hall⟩;obtain⟨ks',b,rfl,hb⟩:=hall v Jz
  dsimp only
  split
  ·exact wpAny_pure ⟨rfl,rfl,λu hu'=>hall u (QK _ hu')⟩
  ·refine wpAny_bind (QrQ hk ?_);rw[if_neg (by decide)];refine wpAny_bind (QrQ hb ?_);rw[if_neg (by decide)];refine wpAny_bind (Qhw hk ?_);rw[if_neg (by decide)];refine wpAny_bind (Qhw hb ?_);rw[if_neg (by decide)];exact wpAny_pure ⟨rfl,rfl,λu hu'=>hall u (QK _ hu')⟩
 ·rintro⟨r1,r2⟩ s' ⟨hr,rfl,_⟩;simp only at hr;subst hr;exact wpAny_pure h
end
theorem Qfm(t:SetTable):∀(n:Nat)(p:J4),(stps t n p).dummy=p.dummy
 |0,_=>rfl
 |n+1,p=>by
  show(stps t n (t.advance p)).dummy=_;rw[Qfm t n,Qh1]
section
variable{prog:QB}{w:Q8}{A:Q2}{E:Value->Shared->Prop}{s:Shared}
structure TS (prog:QB) (w:Q8) (h:Heap) (a:Addr) (es:Array (Int×Value)) (ep:Nat) (t:SetTable) (ps:List (List Int×Addr)):Prop where
 at_:SetAt h a es ep t
 tab:Tab t
 ent:es.toList=ps.map λp=>(tupleKeyHash (intKind prog w) p.1,QL p.2)
 key:∀p∈ps,J8 (intKind prog w) h p.1 p.2
 nd:(ps.map (·.1)).Nodup
 rch:∀(i j:Nat)(e:Int×Value),t.place[i]? = some j->es[i]? = some e->Rch t j e.1
 mks:t.mask=7∨t.mask=31∨t.mask=127∨t.mask=511∨t.mask=2047
 few:t.place.size*5<t.mask*3
variable{a:Addr}{es:Array (Int×Value)}{ep:Nat}{t:SetTable}{ps:List (List Int×Addr)}
theorem TS.es_at(x:TS prog w s.heap a es ep t ps)(i:Nat):es[i]? = (ps[i]?).map λp=>(tupleKeyHash (intKind prog w) p.1,QL p.2):=by
 rw[<- QY,x.ent,Qy]
theorem TS.size(x:TS prog w s.heap a es ep t ps):es.size=ps.length:=by rw[<- Qe,x.ent,Qf]
theorem TS.psize(x:TS prog w s.heap a es ep t ps):t.place.size=ps.length:=by
 have:=x.at_.ft;unfold Qbt at this;have:=(Qz.mp this).1;rw[<- x.size];exact eq_of_beq this
theorem Qy7(x:TS prog w s.heap a es ep t ps)(hu:A.units<cLine){ks:List Int}{b:Addr}(hk:J8 (intKind prog w) s.heap ks b){n:Nat}(hn:n<10*Jo t.mask)(he:t.slot (stps t n (t.probeStart (tupleKeyHash (intKind prog w) ks))).j=.empty){Q:SetFound->Shared->Prop}
  (hThere:ks∈ps.map (·.1)->Q (.there none) s)(hFree:ks∉ps.map (·.1)->∀j,j∉t.place.toList->j<=t.mask->Rch t j (tupleKeyHash (intKind prog w) ks)->Q (.free j false) s) :
  ∀(fuel k0:Nat)(stand:Option J4),k0<=n->n - k0<fuel->stand.getD (t.probeStart (tupleKeyHash (intKind prog w) ks))=stps t k0 (t.probeStart (tupleKeyHash (intKind prog w) ks))->(∀m,m<k0->∃i,t.slot (stps t m (t.probeStart (tupleKeyHash (intKind prog w) ks))).j=.live i/\∀p,ps[i]? = some p->p.1≠ks) ->
   wpAny (model prog w) A (setSearchFrom a (.ref b) (tupleKeyHash (intKind prog w) ks) true fuel stand) Q E s:=by
 obtain⟨o,ho,hex,hd⟩:=x.at_.at_;have hf:=x.at_.ft;intro fuel;induction fuel with
 |zero=>intro k0 stand _ h;exact absurd h (YI _)
 |succ fuel ih=>
  intro k0 stand h1 h2 h3 h4;generalize hH:tupleKeyHash (intKind prog w) ks=H at *;unfold setSearchFrom;refine wpAny_bind (Zi ho hd hf ?_)
  dsimp only
  rw[if_neg (by unfold SetTable.gaveWay;rw[x.tab.od];decide)];obtain⟨k,hkn,pass,met⟩:=Qpp x.tab (λi=>(es[i]?.map (·.1)).getD 0) H (n - k0) (10*Jo t.mask) (stps t k0 (t.probeStart H)) (by omega) (by rw[<- YS,show k0+(n - k0)=n by omega];exact he) (by rw[Qfm];rfl);have eh:∀(i:Nat)(p:List Int×Addr),ps[i]? = some p->(es[i]?.map (·.1)).getD 0=tupleKeyHash (intKind prog w) p.1:=λi p hp=>by rw[x.es_at,hp];rfl
  have pass':∀m,m<k0+k->∃i,t.slot (stps t m (t.probeStart H)).j=.live i/\∀p,ps[i]? = some p->p.1≠ks:=λm hm=>by
   by_cases z:m<k0
   ·exact h4 m z
   ·obtain⟨i,hi,hne⟩:=pass (m - k0) (by omega);rw[<- YS,show k0+(m - k0)=m by omega] at hi;refine⟨i,hi,λp hp e=>hne ?_⟩;rw[eh i p hp,e];exact hH
  rcases met with⟨m1,m2⟩ | ⟨m0,i,m1,m2,m3⟩
  ·split
   ·rename_i mt hpb
    rw[h3] at hpb;have hpb:Jt t (λi=>(es[i]?.map (·.1)).getD 0) H (10*Jo t.mask) (stps t k0 (t.probeStart H))=some mt:=hpb;rw[m1] at hpb;cases hpb
    dsimp only
    rw[<- YS] at m2 ⊢;have nin:=x.tab.slot_e m2;refine wpAny_pure (hFree (λhin=>?_) _ nin (Qiv t H _) ⟨k0+k,rfl,λm hm=>?_⟩)
    ·obtain⟨p,hp,rfl⟩:=Qt.mp hin;obtain⟨ix,hix⟩:=Jc.mp hp;have hlt:ix<t.place.size:=by rw[x.psize];exact(QQ.mp hix).1
     have hpl:t.place[ix]? = some t.place[ix]:=by simp[hlt]
     obtain⟨nn,e1,e2⟩:=x.rch ix _ _ hpl (by rw[x.es_at,hix];rfl)
     dsimp only at e1 e2
     rw[hH] at e1 e2;have hlive:=x.tab.slot_at hpl;rw[<- e1] at hlive;rcases YV nn (k0+k) with z | z | z
     ·obtain⟨i',hi',hne⟩:=pass' nn z;rw[hlive] at hi';cases hi';exact hne p hix rfl
     ·rw[z,m2] at hlive;cases hlive
     ·exact nin (e2 _ z)
    ·obtain⟨i',hi',_⟩:=pass' m hm;have:=Tab.slot_l hi';exact ZE.mpr (YB this)
   ·rename_i hpb
    rw[h3] at hpb;exact absurd (show Jt t (λi=>(es[i]?.map (·.1)).getD 0) H (10*Jo t.mask) (stps t k0 (t.probeStart H))=none from by
     cases hz:Jt t (λi=>(es[i]?.map (·.1)).getD 0) H (10*Jo t.mask) (stps t k0 (t.probeStart H)) with
     |none=>rfl
     |some q=>exact absurd hz (hpb q)) (by rw[m1];exact λe=>by cases e)
  ·split
   ·rename_i mt hpb
    rw[h3] at hpb;have hpb:Jt t (λi=>(es[i]?.map (·.1)).getD 0) H (10*Jo t.mask) (stps t k0 (t.probeStart H))=some mt:=hpb;rw[m1] at hpb;cases hpb
    dsimp only
    have hpi:=Tab.slot_l m2;have hlt:i<ps.length:=by rw[<- x.psize];exact(ZU.mp hpi).1
    obtain⟨p,hp⟩:∃p,ps[i]? = some p:=⟨ps[i],by simp[hlt]⟩
    have hpm:=QD hp;have hei:es[i]? = some (tupleKeyHash (intKind prog w) p.1,QL p.2):=by rw[x.es_at,hp];rfl
    have hst:∀v∈(List.map (λx=>x.2) (Array.filter (λx=>x.1 == H) es).toList),∃ks' b,v=QL b/\J8 (intKind prog w) s.heap ks' b:=λv hv=>by
     obtain⟨e,he',rfl⟩:=Qt.mp hv;have he':e∈es.toList:=by
      rw[Array.toList_filter] at he';exact(Za.mp he').1
     rw[x.ent] at he';obtain⟨q,hq,rfl⟩:=Qt.mp he';exact⟨q.1,q.2,rfl,x.key q hq⟩
    have sm:t.sameMemory t.moves t.mask=some true:=by unfold SetTable.sameMemory;rw[if_pos (by simp)]
    split
    ·refine wpAny_bind (Qsl hk hst ?_);rw[if_neg (by decide)];rw[hei]
     dsimp only
     refine wpAny_bind (JV (Qwy hu (x.key p hpm) hk ?_));refine wpAny_bind (Zi ho hd hf ?_)
     dsimp only
     by_cases z:p.1=ks
     ·rw[if_pos (by simp[z])];exact wpAny_pure (hThere (Qt.mpr ⟨p,hpm,z⟩))
     ·rw[if_neg (by simp[z]),sm]
      dsimp only
      rw[if_pos rfl,m2]
      dsimp only
      rw[hei]
      dsimp only
      refine wpAny_bind ?_
      unfold isSame
      dsimp only
      rw[if_pos (by simp)];refine wpAny_pure (wpAny_bind (wpAny_pure ?_));rw[if_pos rfl]
      dsimp only
      rw[if_neg (by simp[z])];refine ih (k0+k+1) _ (by omega) (by omega) (by rw[<- YS];rfl) λm hm=>?_
      by_cases y:m<k0+k
      ·exact pass' m y
      ·obtain rfl:m=k0+k:=by omega
       refine⟨i,by rw[YS];exact m2,λq hq=>?_⟩;rw[hp] at hq;cases hq;exact z
    ·rw[hei]
     dsimp only
     refine wpAny_bind (JV (Qwy hu (x.key p hpm) hk ?_));refine wpAny_bind (Zi ho hd hf ?_)
     dsimp only
     by_cases z:p.1=ks
     ·rw[if_pos (by simp[z])];exact wpAny_pure (hThere (Qt.mpr ⟨p,hpm,z⟩))
     ·rw[if_neg (by simp[z]),sm]
      dsimp only
      rw[if_pos rfl,m2]
      dsimp only
      rw[hei]
      dsimp only
      refine wpAny_bind ?_
      unfold isSame
      dsimp only
      rw[if_pos (by simp)];refine wpAny_pure (wpAny_bind (wpAny_pure ?_));rw[if_pos rfl]
      dsimp only
      rw[if_neg (by simp[z])];refine ih (k0+k+1) _ (by omega) (by omega) (by rw[<- YS];rfl) λm hm=>?_
      by_cases y:m<k0+k
      ·exact pass' m y
      ·obtain rfl:m=k0+k:=by omega
       refine⟨i,by rw[YS];exact m2,λq hq=>?_⟩;rw[hp] at hq;cases hq;exact z
   ·rename_i hpb
    rw[h3] at hpb;exact absurd (show Jt t (λi=>(es[i]?.map (·.1)).getD 0) H (10*Jo t.mask) (stps t k0 (t.probeStart H))=none from by
     cases hz:Jt t (λi=>(es[i]?.map (·.1)).getD 0) H (10*Jo t.mask) (stps t k0 (t.probeStart H)) with
     |none=>rfl
     |some q=>exact absurd hz (hpb q)) (by rw[m1];exact λe=>by cases e)
end
def Sm(m:Nat):List Nat:=(Qm 6).filter m.testBit
def tb(m:Nat)(led:Bool):SetTable:={ mask:=if 5<=(Sm m).length then 31 else 7,place:=(Sm m).toArray,dummies:=#[],finger:=0,led:=led,moves:=if 5<=(Sm m).length then 1 else 0,plain:=true }
def so(m i:Nat):Nat:=match i with
 |0=>0
 |i+1=>(Sm m).toArray.getD i 0+1
def EsOk(es:Array (Int×Value))(S:List Nat):Prop:=∃tks:List Tok,tks.length=S.length/\es.toList=Qk0 (λ(v:Nat)(tk:Tok)=>((v:Int),QfQ (v:Int) tk)) S tks
theorem EsOk.size{es:Array (Int×Value)}{S:List Nat}(h:EsOk es S):es.size=S.length:=by
 obtain⟨tks,hl,e⟩:=h;rw[<- Qe,e,QnO,hl,QcS]
theorem Qr8{S:List Nat}{e:Int×Value}:∀{tks:List Tok},e∈Qk0 (λ(v:Nat)(tk:Tok)=>((v:Int),QfQ (v:Int) tk)) S tks->∃v∈S,∃tk,e=((v:Int),.int v tk):=by
 induction S with
 |nil=>intro tks h;cases tks<;>cases h
 |cons x S ih=>
  intro tks h;cases tks with
  |nil=>cases h
  |cons t tks=>
   rcases Qs.mp h with z | z
   ·exact⟨x,.head _,t,z⟩
   ·obtain⟨v,hv,r⟩:=ih z;exact⟨v,.tail _ hv,r⟩
theorem EsOk.mem{es:Array (Int×Value)}{S:List Nat}(h:EsOk es S){e:Int×Value}(he:e∈es.toList):∃v∈S,∃tk,e=((v:Int),.int v tk):=by
 obtain⟨tks,hl,e'⟩:=h;rw[e'] at he;exact Qr8 he
structure Sml (h:Heap) (a:Addr) (m:Nat) (led:Bool):Prop where
 ex:∃es ep,SetAt h a es ep (tb m led)/\EsOk es (Sm m)
theorem Sml.at'{h h':Heap}{a:Addr}{m:Nat}{led:Bool}(x:Sml h a m led)(k:∀o,h.get? a=some o->h'.get? a=some o):Sml h' a m led:=by
 obtain⟨es,ep,sa,eo⟩:=x.ex;exact⟨es,ep,sa.at' k,eo⟩
theorem SetAt.store{h:Heap}{a:Addr}{es es':Array (Int×Value)}{ep:Nat}{t t':SetTable}(x:SetAt h a es ep t)(hf:t'.fits es'.size=true):SetAt (h.update a (Qjl es' t')) a es' (ep+1) t':=by
 obtain⟨o,ho,hex,hd⟩:=x.at_;have hg:=Zx (Qjl es' t') ho (by rw[putSet_of es' t' hd];rfl);rw[putSet_of es' t' hd] at hg;exact⟨⟨_,hg,hex,rfl⟩,hf⟩
section
variable{prog:QB}{w:Q8}{A:Q2}{E:Value->Shared->Prop}{s:Shared}
end
section
variable{prog:QB}{w:Q8}{A:Q2}{R:QrW->Shared->Prop}{I:Addr}{fp wr:List Addr}{n:Nat}{P:Nat->Value->Prop}{St:Nat->Heap->Prop}
end
theorem ins_get{α β:Type}{l1:List α}{l2:List β}(hl:l1.length=l2.length){p:Nat}(hp:p<=l1.length){x:α}{y:β}{i:Nat}{u:α}{v:β}(h1:(l1.take p++x::l1.drop p)[i]? = some u)(h2:(l2.take p++y::l2.drop p)[i]? = some v):(u=x/\v=y)∨∃k:Nat,l1[k]? = some u/\l2[k]? = some v:=by
 have t1:(l1.take p).length=p:=by rw[Jl];omega
 have t2:(l2.take p).length=p:=by rw[Jl];omega
 rcases YV i p with z | z | z
 ·rw[Zp (by omega),Qil z] at h1 h2;exact .inr ⟨i,h1,h2⟩
 ·subst z;rw[Jd (by omega),t1,Qff] at h1;rw[Jd (by omega),t2,Qff] at h2;exact .inl ⟨(Qw h1).symm,(Qw h2).symm⟩
 ·rw[Jd (by omega),t1,show i - p=(i - p - 1)+1 by omega,Ye,Ys] at h1;rw[Jd (by omega),t2,show i - p=(i - p - 1)+1 by omega,Ye,Ys] at h2;exact .inr ⟨_,h1,h2⟩
section
variable{prog:QB}{w:Q8}{A:Q2}{E:Value->Shared->Prop}{s:Shared}{a:Addr}{es:Array (Int×Value)}{ep:Nat}{t:SetTable}{ps:List (List Int×Addr)}
theorem TS.other(x:TS prog w s.heap a es ep t ps){ks:List Int}{b:Addr}(hk:J8 (intKind prog w) s.heap ks b):b≠a:=λe=>by
 subst e;obtain⟨o,ho,hex,hd⟩:=x.at_.at_;obtain⟨o',it,n,ho',hc,_⟩:=hk;rw[ho] at ho';cases ho';rw[hex.1] at hc;exact absurd hc (by decide)
theorem Qi4{h:Heap}{f:Obj->Obj}{ks:List Int}{b:Addr}(hk:J8 (intKind prog w) h ks b)(hne:b≠a):J8 (intKind prog w) (h.update a f) ks b:=by
 obtain⟨o',it,n,ho',r⟩:=hk;exact⟨o',it,n,(Yn _ _ (Qcn hne)).trans ho',r⟩
theorem TS.put(x:TS prog w s.heap a es ep t ps){ks:List Int}{b:Addr}(hk:J8 (intKind prog w) s.heap ks b)(hnew:ks∉ps.map (·.1)){j:Nat}(hj:j∉t.place.toList)(hm:j<=t.mask)(hr:Rch t j (tupleKeyHash (intKind prog w) ks)) :
  SetAt (s.heap.update a (Qjl (Zm es (t.put j).2 (tupleKeyHash (intKind prog w) ks,QL b)) (t.put j).1)) a (Zm es (t.put j).2 (tupleKeyHash (intKind prog w) ks,QL b)) (ep+1) (t.put j).1 /\
  Tab (t.put j).1/\(Zm es (t.put j).2 (tupleKeyHash (intKind prog w) ks,QL b)).toList=(ps.take (t.put j).2++(ks,b)::ps.drop (t.put j).2).map (λp=>(tupleKeyHash (intKind prog w) p.1,QL p.2)) /\
  (∀p∈ps.take (t.put j).2++(ks,b)::ps.drop (t.put j).2,J8 (intKind prog w) (s.heap.update a (Qjl (Zm es (t.put j).2 (tupleKeyHash (intKind prog w) ks,QL b)) (t.put j).1)) p.1 p.2) /\
  (ps.take (t.put j).2++(ks,b)::ps.drop (t.put j).2).Perm ((ks,b)::ps) /\
  (∀(i j':Nat)(e:Int×Value),(t.put j).1.place[i]? = some j'->(Zm es (t.put j).2 (tupleKeyHash (intKind prog w) ks,QL b))[i]? = some e->Rch (t.put j).1 j' e.1) /\
  (t.put j).1.place.size=ps.length+1:=by
 obtain⟨T,pl,m1,m2,m3,m4⟩:=x.tab.put hj hm;have hle:(t.put j).2<=t.place.toList.length:=by
  rw[Qe];exact(Qci x.tab.pw j).1
 have hsz:(t.put j).1.place.size=ps.length+1:=by
  rw[<- Qe,pl,<- x.psize,<- Qe,Qv,Qr,Jl,Qaa];omega
 have hes:(Zm es (t.put j).2 (tupleKeyHash (intKind prog w) ks,QL b)).toList=es.toList.take (t.put j).2++(tupleKeyHash (intKind prog w) ks,QL b)::es.toList.drop (t.put j).2:=QfR _ _ _;have hent:(Zm es (t.put j).2 (tupleKeyHash (intKind prog w) ks,QL b)).toList=(ps.take (t.put j).2++(ks,b)::ps.drop (t.put j).2).map (λp=>(tupleKeyHash (intKind prog w) p.1,QL p.2)):=by
  rw[hes,x.ent,Jj,Q7,List.map_take,List.map_drop]
 have hpm:(ps.take (t.put j).2++(ks,b)::ps.drop (t.put j).2).Perm ((ks,b)::ps):=by
  refine QrZ.trans ?_
  rw[Jh]
 have hs1:(Zm es (t.put j).2 (tupleKeyHash (intKind prog w) ks,QL b)).size=ps.length+1:=by
  rw[<- Qe,hent,Qf,hpm.length_eq,Qr]
 have hfew:(t.put j).1.place.size<=(t.put j).1.mask:=by
  rw[hsz,m1,<- x.psize];have:=x.few;have:=x.mks;omega
 refine⟨x.at_.store ?_,T,hent,λp hp=>?_,hpm,λi j' e h1 h2=>?_,hsz⟩
 ·unfold Qbt QgL;rw[m4,hsz,hs1];rw[hsz] at hfew;simp[hfew]
 ·rcases Qs.mp (hpm.mem_iff.mp hp) with z | z
  ·subst z;exact Qi4 hk (x.other hk)
  ·exact Qi4 (x.key p z) (x.other (x.key p z))
 ·rw[<- QY,pl] at h1;rw[<- QY,hes] at h2;have hl:t.place.toList.length=es.toList.length:=by rw[Qe,Qe,x.psize,x.size]
  have grow:∀y∈t.place.toList,y∈(t.put j).1.place.toList:=λy hy=>by
   rw[pl];rw[<- Jh (t.put j).2 t.place.toList] at hy;rcases Ji.mp hy with z | z
   ·exact ZF _ z
   ·exact QM _ (.tail _ z)
  rcases ins_get hl hle h1 h2 with⟨rfl,rfl⟩ | ⟨k,q1,q2⟩
  ·exact hr.mono m1 grow
  ·exact(x.rch k j' e (by rw[<- QY];exact q1) (by rw[<- QY];exact q2)).mono m1 grow
end
theorem QmO{t:SetTable}(h:t.mask=7∨t.mask=31∨t.mask=127∨t.mask=511∨t.mask=2047):QbV (t.mask+1)=true:=by
 rcases h with h | h | h | h | h<;>rw[h]
 ·exact Qry
 ·exact Qtv
 ·exact Qpn
 ·exact Qpm
 ·exact QmP
section
variable{prog:QB}{w:Q8}{A:Q2}{E:Value->Shared->Prop}{s:Shared}{a:Addr}{es:Array (Int×Value)}{ep:Nat}{t:SetTable}{ps:List (List Int×Addr)}
theorem Qxy{m wanted:Nat}{ps:List (List Int×Addr)}(hA:SetAt s.heap a es ep t)(hpl:t.plain=true)(hent:es.toList=ps.map λp=>(tupleKeyHash (intKind prog w) p.1,QL p.2))(hkey:∀p∈ps,J8 (intKind prog w) s.heap p.1 p.2)(hoth:∀p∈ps,p.2≠a)(hnd:(ps.map (·.1)).Nodup)
  (hw:Qkm wanted=m+1)(hm:m=7∨m=31∨m=127∨m=511∨m=2047)(hf:ps.length*5<m*3){Q:Unit->Shared->Prop}
  (h:∀h' es' t' ps',TS prog w h' a es' (ep+1) t' ps'->ps'.Perm ps->t'.led=t.led->Qag a s.heap h'->Q () { s with heap:=h' }):wpAny (model prog w) A (setRelay a wanted) Q E s:=by
 obtain⟨o,ho,hex,hd⟩:=hA.at_;have hsz:es.size=ps.length:=by rw[<- Qe,hent,Qf]
 have hg:QbV (m+1)=true:=QmO (t:=tM m) hm;obtain⟨t2,order,el,T,m1,m2,m3,m4,m5⟩:=QkN (finger:=t.finger) (moves:=t.movedTo m) (led:=t.led) hg (by omega) (es.map (·.1)) (by rw[Qdm,hsz];omega);rw[Qdm] at m3 m4;have pe:=QkD (es:=es) m4;have sz2:(order.filterMap (es[·]?)).size=es.size:=by rw[<- Qe,pe.length_eq,Qe]
 unfold setRelay;refine wpAny_bind (Zi ho hd hA.ft ?_)
 dsimp only
 rw[if_neg (by rw[hw,Ya];omega)];refine wpAny_bind ?_
 have erl:t.relaid (es.map (·.1)) wanted=some (t2,order):=by
  unfold SetTable.relaid;rw[hw,QpK,hpl];exact el
 rw[erl];show wpAny (model prog w) A (if((order.filterMap (es[·]?)).size != es.size)=true then _ else _) _ E s;rw[if_neg (by rw[sz2];simp)];refine wpAny_pure ?_
 dsimp only
 have fit:t2.fits (order.filterMap (es[·]?)).size=true:=by
  unfold Qbt QgL;rw[T.dm,m3,sz2,hsz,m1];simp;omega
 refine QwV ho hd ?_ (by rw[sz2,hsz,Ya];omega)
 obtain⟨ps',pp,ep'⟩:∃ps':List (List Int×Addr),ps'.Perm ps/\(order.filterMap (es[·]?)).toList=ps'.map λp=>(tupleKeyHash (intKind prog w) p.1,QL p.2):=by
  rw[hent] at pe;have key:∀{l k:List (Int×Value)},l.Perm k->∀{T:List (List Int×Addr)},k=T.map (λp=>(tupleKeyHash (intKind prog w) p.1,QL p.2))->∃T':List (List Int×Addr),T'.Perm T/\l=T'.map λp=>(tupleKeyHash (intKind prog w) p.1,QL p.2):=by
   intro l k p;induction p with
   |nil=>intro T e;exact⟨T,ZT _,e⟩
   |@cons x l1 l2 _ ih=>
    intro T e;cases T with
    |nil=>cases e
    |cons y T=>
     injection e with e1 e2
     obtain⟨T',p',e'⟩:=ih e2;exact⟨y::T',p'.cons y,by rw[e1,e'];rfl⟩
   |swap x y l=>
    intro T e
    match T,e with
    |u::v::T,e=>
     injection e with e1 e2
     injection e2 with e2 e3
     exact⟨v::u::T,Qe8 _ _ _,by rw[e1,e2,e3];rfl⟩
   |trans _ _ ih1 ih2=>
    intro T e;obtain⟨T1,p1,e1⟩:=ih2 e;obtain⟨T2,p2,e2⟩:=ih1 e1;exact⟨T2,p2.trans p1,e2⟩
  exact key pe rfl
 refine h _ _ t2 ps' ⟨hA.store fit,T,ep',λp hp=>Qi4 (hkey p (pp.mem_iff.mp hp)) (hoth p (pp.mem_iff.mp hp)),(pp.map (·.1)).nodup_iff.mpr hnd,λi j e h1 h2=>?_,by rw[m1];exact hm,by rw[m3,hsz,m1];exact hf⟩ pp m2 (Zj ..);have hlt:i<order.size:=by
  have:order.size=es.size:=by
   have:=m4.length_eq;rw[Qe,QF] at this;exact this
  rw[this,<- m3];exact(ZU.mp h1).1
 have hok:order[i]? = some order[i]:=by simp[hlt]
 have hr:=m5 i j order[i] h1 hok;have hin:order[i]<es.size:=QU.mp (m4.mem_iff.mp (ZE.mpr (Array.getElem_mem hlt)));have e2:e=es[order[i]]:=by
  have key:∀(l:List Nat),(∀x∈l,x<es.size)->∀i:Nat,(l.filterMap (es[·]?))[i]? = (l[i]?).bind (es[·]?):=λl=>by
   induction l with
   |nil=>intro _ i;rfl
   |cons x l ih=>
    intro hx i;have hx1:x<es.size:=hx x (.head _);have hx0:es[x]? = some es[x]:=by simp[hx1]
    rw[ZP,hx0];cases i with
    |zero=>simp[hx0]
    |succ i=>exact ih (λy hy=>hx y (.tail _ hy)) i
  rw[<- QY,Qjp,key order.toList λy hy=>QU.mp (m4.mem_iff.mp hy)] at h2;rw[QY,hok] at h2;simp[hin] at h2;exact h2.symm
 have e3:(es.map (·.1)).getD order[i] 0=e.1:=by rw[e2];simp[Ze,hin]
 rw[e3] at hr;exact hr
theorem addTB(x:TS prog w s.heap a es ep t ps)(hu:A.units<cLine){ks:List Int}{b:Addr}(hk:J8 (intKind prog w) s.heap ks b)(h300:ps.length<1200){Q:Bool->Shared->Prop}
  (h1:ks∈ps.map (·.1)->∀tk,Q false { s with toks:=tk })
  (h2:ks∉ps.map (·.1)->∀h' es' ep' t' ps' tk,TS prog w h' a es' ep' t' ps'->ps'.Perm ((ks,b)::ps)->t'.led=t.led->Qag a s.heap h'->Q true { s with heap:=h',toks:=tk }):wpAny (model prog w) A (setAdd a (.ref b)) Q E s:=by
 obtain⟨o,ho,hex,hd⟩:=x.at_.at_;unfold setAdd;refine JV (wpAny_bind (wpAny_pyHash_tuple hu hk ?_));unfold setAddHashed;refine JV ?_
 unfold setAddHashedIn;refine wpAny_bind (Zi (s:={ s with toks:=s.toks+(ks.length+1) }) ho hd x.at_.ft ?_)
 dsimp only
 rw[if_neg (by unfold byScan Value.scannable;simp)];have hsm:t.place.size<=t.mask:=by
  have:=x.few;omega
 obtain⟨j0,hj0,hj1⟩:=x.tab.room hsm;obtain⟨n,hn,en⟩:=Qkt t (QmO x.mks) (tupleKeyHash (intKind prog w) ks) hj0;have x':TS prog w ({ s with toks:=s.toks+(ks.length+1) }:Shared).heap a es ep t ps:=x;have hn2:n<100000:=by
  have:=x.mks;unfold Jo at hn;omega
 refine wpAny_bind (Qy7 (s:={ s with toks:=s.toks+(ks.length+1) }) x' hu hk hn (by rw[en];exact x.tab.slot_no hj1) (λhin=>?_) (λhnot j hj hjm hr=>?_) 100000 0 none (Qq _) (by omega) rfl λm hm=>absurd hm (YI _))
 ·exact wpAny_pure (h1 hin _)
 ·dsimp only
  refine wpAny_bind (Zi (s:={ s with toks:=s.toks+(ks.length+1) }) ho hd x.at_.ft ?_)
  dsimp only
  obtain⟨q1,q2,q3,q4,q5,q6,q7⟩:=TS.put (s:={ s with toks:=s.toks+(ks.length+1) }) x' hk hnot hj hjm hr;obtain⟨T,pl,m1,m2,m3,m4⟩:=x.tab.put hj hjm;generalize hpt:t.put j=pt at *;obtain⟨t1,p1⟩:=pt
  dsimp only at *
  have hsz1:(Zm es p1 (tupleKeyHash (intKind prog w) ks,QL b)).size=ps.length+1:=by rw[<- Qe,q3,Qf,q5.length_eq,Qr]
  have hfill:t1.fill=ps.length+1:=by unfold QgL;rw[m4,q7];rfl
  have hfew:=x.few;have hmk:=x.mks;have hps:=x.psize;have hes:=x.size;have hoth:∀p∈ps.take p1++(ks,b)::ps.drop p1,p.2≠a:=λp hp=>by
   rcases Qs.mp (q5.mem_iff.mp hp) with z | z
   ·subst z;exact x.other hk
   ·exact x.other (x.key p z)
  have hnd:((ps.take p1++(ks,b)::ps.drop p1).map (·.1)).Nodup:=(q5.map (·.1)).nodup_iff.mpr (by rw[Q7];exact Z8.mpr ⟨hnot,x.nd⟩);rw[if_pos q2.pl];refine wpAny_bind (QmM hk ?_);simp only[↓reduceIte,Bool.not_false,Qb6];refine wpAny_bind (QwV (s:={ s with toks:=s.toks+(ks.length+1) }) ho hd ?_ (by rw[hsz1,Ya];omega));by_cases z:t1.tooFull=true
  ·rw[if_pos z];have z':t1.fill*5≥t1.mask*3:=of_decide_eq_true z;rw[hfill,m1] at z';obtain⟨m,hw,hm,hf⟩:∃m,Qkm (SetTable.grown (es.size+1))=m+1/\(m=7∨m=31∨m=127∨m=511∨m=2047)/\(ps.length+1)*5<m*3:=by
    rw[hes];rcases hmk with e | e | e | e | e
    ·have:ps.length=4:=by omega
     rw[this];exact⟨31,by decide,by decide,by decide⟩
    ·have:ps.length=18:=by omega
     rw[this];exact⟨127,by decide,by decide,by decide⟩
    ·have:ps.length=76:=by omega
     rw[this];exact⟨511,by decide,by decide,by decide⟩
    ·have:ps.length=306:=by omega
     rw[this];exact⟨2047,by decide,by decide,by decide⟩
    ·omega
   refine wpAny_bind (Qxy q1 q2.pl q3 q4 hoth hnd hw hm (by rw[q5.length_eq,Qr];exact hf) λh' es' t' ps' ts pp led sb=>wpAny_pure (h2 hnot h' es' _ t' ps' _ ts (pp.trans q5) (led.trans m2) ((Zj ..).trans sb)))
  ·rw[if_neg z];have z':¬t1.fill*5≥t1.mask*3:=λc=>z (decide_eq_true c)
   rw[hfill] at z';exact wpAny_pure (h2 hnot _ _ _ _ _ _ ⟨q1,q2,q3,q4,hnd,q6,by rw[m1];exact hmk,by rw[q7];omega⟩ q5 m2 (Zj ..))
end
section
variable{prog:QB}{w:Q8}{A:Q2}{E:Value->Shared->Prop}{s:Shared}
def ledOf(w:Q8):Bool := !w.params.followText "set-order"
theorem Qsj(a:Value){Q:Value->Shared->Prop}(h:Q (.ref s.heap.objs.size) { s with heap:=s.heap.push { cls:=.type "set",dict:=none,data:=.set #[] 0 (.fresh 0 0 (ledOf w)) } }):codeAny (model prog w) A (.call (.builtin "set.__new__") ⟨[.type "set",a],[]⟩) (wants Q E) s:=by
 refine Qd0 (by
  show wpAny _ A.in1 (do checkBuiltinCall "set.__new__" ⟨[.type "set",a],[]⟩;again (.builtin "set.__new__" ⟨[.type "set",a],[]⟩)) _ _ s;refine wpAny_bind (Qt7 (PySem.F.newCall_set_1 a) (wpAny_pure ⟨QcO Qxh _,QaD F.entry_set_new ?_⟩));rw[YR Qxh _];unfold Y4.«set.__new__» Qr7;have hsub:=sub_set_self;obtain⟨hp,g,d,tk,os⟩:=s
  dsimp only;wp_walk
  refine ZK (wpAny_pure ?_);dsimp only;simp only[newObj];refine wpAny_bind (wpAny_alloc (wpAny_pure ?_));exact wpAny_pure h)
end
section
variable{prog:QB}{w:Q8}{s:Shared}{a:Addr}{es:Array (Int×Value)}{ep:Nat}{t:SetTable}{ps:List (List Int×Addr)}
theorem QjU{h h':Heap}{ks:List Int}{b:Addr}(hk:J8 (intKind prog w) h ks b)(k:∀o,h.get? b=some o->h'.get? b=some o):J8 (intKind prog w) h' ks b:=by
 obtain⟨o',it,n,ho',r⟩:=hk;exact⟨o',it,n,k o' ho',r⟩
theorem TS.at'{h h':Heap}(x:TS prog w h a es ep t ps)(k:∀o,h.get? a=some o->h'.get? a=some o)(k2:∀p∈ps,∀o,h.get? p.2=some o->h'.get? p.2=some o):TS prog w h' a es ep t ps:=
 ⟨x.at_.at' k,x.tab,x.ent,λp hp=>QjU (x.key p hp) (k2 p hp),x.nd,x.rch,x.mks,x.few⟩
structure TSt (prog:QB) (w:Q8) (h:Heap) (a:Addr) (ys:List (List Int×Addr)) (led:Bool):Prop where
 ex:∃es ep t ps,TS prog w h a es ep t ps/\t.led=led/\ps.length<=ys.length/\(∀p∈ps,p∈ys)/\∀y∈ys,y.1∈ps.map (·.1)
theorem Qlo(led:Bool):Tab (YM 0 0 led):=⟨by simp[YM],by simp[YM],rfl,Qry,rfl,by show 7 % 2=1;decide⟩
variable{A:Q2}{R:QrW->Shared->Prop}{I:Addr}{fp wr:List Addr}{n:Nat}{P:Nat->Value->Prop}{St:Nat->Heap->Prop}
theorem Qli(W:Walks prog w A.in1 I fp wr n P St)(S:Addr)(hSf:S∉fp){led:Bool}(hu:A.in1.units<cLine)(f:Nat->List Int×Addr)(hval:∀i v,P i v->v=.ref (f i).2)(hwr:∀i,i<n->(f i).2∉wr)(h300:n<=1000) :
  ∀(k i:Nat)(s:Shared),n - i=k->i<=n->St i s.heap->(∀j,j<n->J8 (intKind prog w) s.heap (f j).1 (f j).2)->TSt prog w s.heap S ((Qm i).map f) led ->
   (∀h' tk,(∀b o,b∉S::wr->s.heap.get? b=some o->h'.get? b=some o)->TSt prog w h' S ((Qm n).map f) led->R (.ok (.ret .none)) { s with heap:=h',toks:=tk }) ->
   codeAny (model prog w) A (.builtin "set.update.loop" ⟨[.ref S,.ref I],[]⟩) R s:=by
 have hSw:S∉wr:=λz=>hSf (W.sub _ z)
 have adr:∀{i:Nat},i<=n->∀p∈(Qm i).map f,p.2∉wr:=λ{i} hi p hp=>by
  obtain⟨j,hj,rfl⟩:=Qt.mp hp;exact hwr j (by have:=QU.mp hj;omega)
 intro k;induction k with
 |zero=>
  intro i s hk hi hst hK hS hR;obtain rfl:i=n:=by omega
  refine QaD QbD ?_
  rw[YR Zu _];show wpAny _ A.in1 (pyNext (.ref I) >>= _) _ _ s;refine wpAny_bind (W.done s _ _ hst λh' tk hk'=>wpAny_pure (hR h' tk (λb o hb e=>hk' b o (λz=>hb (QK _ z)) e) ?_));obtain⟨es,ep,t,ps,x,hl,hn,hsub,hall⟩:=hS.ex;exact⟨es,ep,t,ps,x.at' (λo e=>hk' S o hSw e) (λp hp o e=>hk' _ o (adr (Qg _) p (hsub p hp)) e),hl,hn,hsub,hall⟩
 |succ k ih=>
  intro i s hk hi hst hK hS hR;have hlt:i<n:=by omega
  refine QaD QbD ?_
  rw[YR Zu _];show wpAny _ A.in1 (pyNext (.ref I) >>= _) _ _ s;refine wpAny_bind (W.item i s _ _ hlt hst λv h' tk hP hst' hk'=>?_);obtain rfl:=hval i v hP;obtain⟨es,ep,t,ps,x,hl,hn,hsub,hall⟩:=hS.ex;have x':TS prog w h' S es ep t ps:=x.at' (λo e=>hk' S o hSw e) (λp hp o e=>hk' _ o (adr hi p (hsub p hp)) e);have hK':∀j,j<n->J8 (intKind prog w) h' (f j).1 (f j).2:=λj hj=>QjU (hK j hj) λo e=>hk' _ o (hwr j hj) e
  rw[Qf,QF] at hn;have er:(Qm (i+1)).map f=(Qm i).map f++[f i]:=by rw[Z7,Jj];rfl
  show wpAny _ A.in1 (holding [_] (setAdd S _) >>= _) _ _ _;refine wpAny_bind (JV (addTB (s:={ s with heap:=h',toks:=tk }) x' hu (hK' i hlt) (by omega) (λhin tk'=>?_) λhnot h2 es2 ep2 t2 ps2 tk' x2 pp hl2 sb=>?_))
  ·refine wpAny_pure ⟨QcO Zu _,ih (i+1) _ (by omega) hlt hst' hK' ⟨es,ep,t,ps,x',hl,by rw[Qf,QF];omega,λp hp=>?_,λy hy=>?_⟩ λh3 tk3 hk3 hS3=>hR h3 tk3 (λb o hb e=>?_) hS3⟩
   ·rw[er];exact ZF _ (hsub p hp)
   ·rw[er] at hy;rcases Ji.mp hy with z | z
    ·exact hall y z
    ·rw[Q3.mp z];exact hin
   ·exact hk3 b o hb (hk' b o (λz=>hb (QK _ z)) e)
  ·have oth:∀b o,b≠S->h'.get? b=some o->h2.get? b=some o:=λb o hb e=>by
    rw[sb.2 b hb];exact e
   refine wpAny_pure ⟨QcO Zu _,ih (i+1) _ (by omega) hlt (W.frame _ h' _ hst' λb hb o e=>oth b o (λz:b=S=>hSf (by rw[<- z];exact hb)) e) (λj hj=>QjU (hK' j hj) λo e=>oth _ o (x'.other (s:={ s with heap:=h' }) (hK' j hj)) e) ⟨es2,ep2,t2,ps2,x2,hl2.trans hl,by rw[pp.length_eq,Qr,Qf,QF];omega,λp hp=>?_,λy hy=>?_⟩ λh3 tk3 hk3 hS3=>hR h3 tk3 (λb o hb e=>?_) hS3⟩
   ·rw[er];rcases Qs.mp (pp.mem_iff.mp hp) with z | z
    ·rw[z];exact QM _ (.head _)
    ·exact ZF _ (hsub p z)
   ·have pm:=pp.map (·.1);rw[er] at hy;rcases Ji.mp hy with z | z
    ·exact pm.mem_iff.mpr (.tail _ (hall y z))
    ·rw[Q3.mp z];exact pm.mem_iff.mpr (.head _)
   ·exact hk3 b o hb (oth b o (λz:b=S=>hb (by rw[z];exact Jz)) (hk' b o (λz=>hb (QK _ z)) e))
end
section
variable{prog:QB}{w:Q8}{A:Q2}{E:Value->Shared->Prop}{s:Shared}
theorem call_setT{l:Addr}{items:Array Value}{n:Nat}{f:Nat->List Int×Addr}{Q:Value->Shared->Prop}(hh:A.handled=none)(hu:A.units+60<cLine)(hl:s.heap.IsList l items)(hn:items.size=n)(h300:n<=1000)(hval:∀(i:Nat)(v:Value),items[i]? = some v->v=QL (f i).2)(hK:∀j,j<n->J8 (intKind prog w) s.heap (f j).1 (f j).2)
  (h:∀(h':Heap)(tk:Nat),TSt prog w h' s.heap.objs.size ((Qm n).map f) (ledOf w)->(∀b o,b<s.heap.objs.size->s.heap.get? b=some o->h'.get? b=some o)->Q (.ref s.heap.objs.size) { s with heap:=h',toks:=tk }):wpAny (model prog w) A (call (.type "set") [.ref l]) Q E s:=by
 obtain⟨c,tl,hmro⟩:=Qap.mro;have hmade:=Qap.made;have hsub:=Qap.sub;refine wpAny_call (Qd0 (by
  show wpAny _ _ (callAny (.type "set") _) _ _ _;refine wpAny_pure ⟨Code.quiet_builtin _ (by decide +kernel),QaD F.entry_type_call ?_⟩;rw[Around.under_plain (weight_type_call_type "set" [.ref l] []) rfl];have h1:=Qap.notType;have h2:=Qap.canCreate;have hct:=F.typeCall_set_1 (.ref l)
  repeat (any_goals (first | assumption | wp_step))
  refine Qa1 (Qsj (.ref l) (E:=E) (Q:=λobj s₁=>obj=.ref s.heap.objs.size/\s₁={ s with heap:=s.heap.push { cls:=.type "set",dict:=none,data:=.set #[] 0 (.fresh 0 0 (ledOf w)) } }) ⟨rfl,rfl⟩) λr s₁ hr=>?_
  cases r with
  |error e=>exact hr
  |ok fl=>
   cases fl with
   |ret obj=>
    obtain⟨rfl,rfl⟩:=hr;have hS:(s.heap.push { cls:=.type "set",dict:=none,data:=.set #[] 0 (.fresh 0 0 (ledOf w)) }).get? s.heap.objs.size=some { cls:=.type "set",dict:=none,data:=.set #[] 0 (.fresh 0 0 (ledOf w)) }:=Qu _ rfl;have hT:Qh3 { s with heap:=s.heap.push { cls:=.type "set",dict:=none,data:=.set #[] 0 (.fresh 0 0 (ledOf w)) } } (.ref s.heap.objs.size) "set" := ⟨_,hS,rfl⟩;have hli:=Qap.init.lookup;have hbi:=Qap.init.bind (.ref s.heap.objs.size)
    repeat (any_goals (first | assumption | wp_step))
    refine Qa1 (codeAny_call_builtin (R:=wants (λr s₂=>r=.none/\∃h' tk,s₂={ s with heap:=h',toks:=tk }/\TSt prog w h' s.heap.objs.size ((Qm n).map f) (ledOf w)/\(∀b o,b<s.heap.objs.size->s.heap.get? b=some o->h'.get? b=some o)) E) Qap.init.plain F.entry_set_init (check_set_init_1 hT ?_)) λr₂ s₂ hr₂=>?_
    ·obtain⟨⟨ocls,odict,odata,oslots⟩,hol,hcl,nl,hdl⟩:=hl;simp only at hcl hdl;subst hcl hdl;have hol':(s.heap.push { cls:=.type "set",dict:=none,data:=.set #[] 0 (.fresh 0 0 (ledOf w)) }).get? l=some { cls:=.type "list",dict:=odict,data:=.seq items nl,slots:=oslots }:=Qc _ hol;have hsls:=F.sub_list_set;have hslf:=F.sub_list_frozenset;have hne:(ZV "list" == ZV "dict")=false:=by decide
     have hl1:(s.heap.push { cls:=.type "set",dict:=none,data:=.set #[] 0 (.fresh 0 0 (ledOf w)) }).IsList l items:=⟨_,hol',rfl,nl,rfl⟩;unfold Y4.«set.__init__» noKeywords Qr5;generalize hPI:pyIter=PI;wp_walk;subst hPI;refine QgT hl1 (wpAny_bind (wpAny_runValue ?_));have hlS:l<s.heap.objs.size:=Qo hol;have hneI:l≠(s.heap.push { cls:=.type "set",dict:=none,data:=.set #[] 0 (.fresh 0 0 (ledOf w)) }).objs.size:=by rw[JH];exact QC (ZM hlS)
     have hSf:s.heap.objs.size∉[(s.heap.push { cls:=.type "set",dict:=none,data:=.set #[] 0 (.fresh 0 0 (ledOf w)) }).objs.size,l]:=by
      rw[JH];simp only[Qs,Jb,or_false,not_or];exact⟨QC (QaV _),Qai hlS⟩
     have w0:=Walks.list (prog:=prog) (w:=w) (A:=A.in1.in1.in1) (by simp[hh]) (s.heap.push { cls:=.type "set",dict:=none,data:=.set #[] 0 (.fresh 0 0 (ledOf w)) }).objs.size l hneI items;rw[hn] at w0;have klt:∀j,j<n->(f j).2<s.heap.objs.size:=λj hj=>by
      obtain⟨o',it,nn,ho',r⟩:=hK j hj;exact Qo ho'
     refine Qli (led:=ledOf w) w0 s.heap.objs.size hSf (by show A.units+1+1+1<cLine;omega) f (λi v hv=>hval i v hv) (λi hi hm=>?hW) h300 n 0 _ (by omega) (Qq _) ⟨⟨_,Qu _ rfl,rfl,rfl⟩,hl1.push _⟩ (λj hj=>QjU (hK j hj) λo e=>Qc _ (Qc _ e)) ?hS0 ?hR
     case hW=>
      have:=klt i hi;rw[Q3.mp hm,JH] at this;exact absurd this (Nat.not_lt.mpr (Qn1 _))
     case hS0=>
      refine⟨#[],0,YM 0 0 (ledOf w),[],⟨⟨⟨_,Qc _ hS,⟨rfl,rfl,rfl⟩,rfl⟩,by cases ledOf w<;>rfl⟩,Qlo _,rfl,(λp hp=>nomatch hp),Qh7,(λi j e h1=>by simp[YM] at h1),.inl rfl,by show 0*5<7*3;decide⟩,rfl,Qq _,(λp hp=>nomatch hp),(λy hy=>nomatch hy)⟩
     case hR=>
      intro h' tk hk hS';refine wpAny_pure ?_
      refine wpAny_pure ⟨rfl,h',tk,rfl,hS',λb o hb e=>?_⟩;have hb2:b≠(s.heap.push { cls:=.type "set",dict:=none,data:=.set #[] 0 (.fresh 0 0 (ledOf w)) }).objs.size:=by rw[JH];exact QC (ZM hb)
      exact hk b o (by simp only[Qs,Jb,or_false,not_or];exact⟨QC hb,hb2⟩) (Qc _ (Qc _ e))
    ·cases r₂ with
     |error e=>exact hr₂
     |ok fl₂=>
      cases fl₂ with
      |ret r=>
       obtain⟨rfl,h',tk,rfl,hS',hk'⟩:=hr₂
       repeat (any_goals (first | assumption | wp_step))
       exact h _ _ hS' hk'
      |_=>exact hr₂
   |_=>exact hr))
end
theorem Qly:Slot "set_iterator" "__iter__" "set_iterator.__iter__" :=
 .of (owner := "set_iterator") (n := "__iter__") (by rw[Qkk,Qd1];kernel_rfl) (by decide +kernel) (by decide +kernel) (by decide +kernel) (by first | exact .inl (by decide +kernel) | exact .inr (by decide +kernel)) (by rw[Qe2];kernel_rfl)
theorem Qyd:entryFor table "set_iterator.__iter__" = some Y4.«dict_keyiterator.__iter__» := entryFor_alias (id' := "dict_keyiterator.__iter__") (by kernel_rfl) (by first | rfl | decide +kernel | (unfold QrV;simp +decide [QnI])) (by decide +kernel) (by kernel_rfl)
theorem Qyi(a:Value):argsOk "set_iterator.__iter__" ⟨[a],[]⟩:=by
 unfold argsOk;rw[signature?_of (id := "set_iterator.__iter__") (n:=['_', '_', 'r', 'e', 't', 'i', '_', '_']) (o:=['r', 'o', 't', 'a', 'r', 'e', 't', 'i', '_', 't', 'e', 's']) (by kernel_rfl) Qvo];kernel_rfl
theorem Qtl:typeLookup (.type "set") "__len__" = pure (some (.builtin "set.__len__")):=by rw[Qkk,Qd1];kernel_rfl
section
variable{prog:QB}{w:Q8}{A:Q2}{E:Value->Shared->Prop}{s:Shared}
theorem Qsi{I a:Addr}{first:Value}{i n ep:Nat}{Q:Value->Shared->Prop}(hit:IsSI s.heap I first i a n ep)(h:Q (.ref I) s):wpAny (model prog w) A (pyIter (.ref I)) Q E s:=by
 refine QwX hit.typeIs Qly (JO Qly hit.typeIs Qyd ?_ (Qyi _));show wpAny _ _ (ret (.ref I)) _ _ s;exact wpAny_pure ⟨_,rfl, "set_iterator",_,hit.typeIs,Qdu.lookup,h⟩
theorem Qi9{a:Addr}{es vs:Array (Int×Value)}{ep:Nat}{t:SetTable}{so:Nat->Nat}{Q:List Value->Shared->Prop}(hh:A.handled=none)(W:Way prog w a es ep t so vs)(ha:SetAt s.heap a es ep t)(hp:t.plain=true)(hn:es.size<=sizeLine)
  (hQ:∀(h':Heap)(tk:Nat),(∀b o,s.heap.get? b=some o->h'.get? b=some o)->Q (vs.toList.map (·.2)) { s with heap:=h',toks:=tk }):wpAny (model prog w) A (collect (.ref a)) Q E s:=by
 have hlt:a<s.heap.objs.size:=let ⟨o,ho,_⟩:=ha.at_;Qo ho
 unfold collect;refine wpAny_bind (wpAny_runValue (QaD F.entry_proto_collect ?_));rw[YR F.plain_proto_collect _];show wpAny _ A.in1 (newList [] >>= λl=>again (.builtin "list.__iadd__" ⟨[l,.ref a],[]⟩)) _ _ s;refine wpAny_bind (JJ (wpAny_pure ⟨QcO Quj _,QaD F.entry_list_iadd ?_⟩));rw[YR Quj _];generalize hH:s.heap.push { cls:=.type "list",data:=.seq ([]:List Value).toArray }=H;have hHs:H.objs.size=s.heap.objs.size+1:=by rw[<- hH,JH]
 have keep:∀b o,s.heap.get? b=some o->H.get? b=some o:=λb o e=>hH ▸ Qc _ e
 have hS:H.get? s.heap.objs.size=some { cls:=.type "list",data:=.seq ([]:List Value).toArray }:=hH ▸ Qu _ rfl;have ha1:SetAt H a es ep t:=ha.at' λo e=>keep a o e
 have hT:Qh3 { s with heap:=H } (.ref a) "set" := let ⟨o,ho,hx,_⟩:=ha1.at_;⟨o,ho,hx.1⟩
 show wpAny _ A.in1 (QdO (.ref s.heap.objs.size) (.ref a) (.ref s.heap.objs.size)) _ _ { s with heap:=H };unfold QdO;refine wpAny_bind (Qb1 hT ?_);have h1:Qeo (.ref s.heap.objs.size) (.ref a)=false:=by simp[Qeo,Qai hlt]
 have h2:(ZV "set" == ZV "list")=false:=by decide
 have h3:(ZV "set" == ZV "tuple")=false:=by decide
 simp only[h1,h2,h3,Bool.or_false,ZB,if_false];refine wpAny_bind (QvX ha1 hp ?_);generalize hH2:Heap.push H { cls:=.type "set_iterator",data:=.fields #[.int 0 0,.int 0 0,.ref a,.int es.size 0,.int ep 0] }=H2;have keep2:∀b o,H.get? b=some o->H2.get? b=some o:=λb o e=>hH2 ▸ Qc _ e
 have hT2:Qh3 { s with heap:=H2 } (.ref a) "set" := let ⟨o,ho,hc⟩:=hT;⟨o,keep2 a o ho,hc⟩
 have hI:IsSI H2 H.objs.size (.int (so 0) 0) 0 a es.size ep:=⟨_,hH2 ▸ Qu _ rfl,rfl,by rw[W.s0];rfl⟩;refine wpAny_bind (JV ?_);show wpAny _ A.in1 _ _ _ { s with heap:=H2 };unfold Builtin.List.listLengthHint;refine wpAny_bind (wpAny_specialOf hT2 Qtl ?_)
 wp_delta
 refine wpAny_bind (Qif (b:=true) hT2 (by rw[Qe2];kernel_rfl) ?_);show wpAny _ A.in1 (typeOf (QL a) >>= _) _ _ _;refine wpAny_bind (Qb1 hT2 (wpAny_pure ?_));show wpAny _ A.in1 (rule "list.extend.makes-room" >>= λ_=>Builtin.List.listTouch (.ref s.heap.objs.size) >>= λ_=>again (.builtin "list.extend.loop" ⟨[.ref s.heap.objs.size,.ref H.objs.size,.ref s.heap.objs.size],[]⟩)) _ _ _;refine wpAny_bind (wpAny_rule (wpAny_bind ?_));show wpAny _ A.in1 (updateSeq s.heap.objs.size (·.push .none) >>= λ_=>updateSeq s.heap.objs.size (·.pop)) _ _ _;have hS1:=keep2 _ _ hS;refine wpAny_bind (wpAny_updateSeq hS1 rfl ?_);have hS2:=Zx (JU (·.push JD)) hS1 rfl;refine wpAny_updateSeq hS2 rfl ?_
 have hS3:=Zx (JU (·.pop)) hS2 rfl;generalize hH3:(H2.update s.heap.objs.size (JU (·.push JD))).update s.heap.objs.size (JU (·.pop))=H3 at hS3 ⊢;have oth:∀b o,b≠s.heap.objs.size->H2.get? b=some o->H3.get? b=some o:=λb o hb e=>hH3 ▸ (Yn _ _ (Qcn hb)).trans ((Yn _ _ (Qcn hb)).trans e)
 have hIS:H.objs.size≠s.heap.objs.size:=by omega
 have hne:a≠H.objs.size:=by rw[hHs];exact QC (ZM hlt)
 have hSf:s.heap.objs.size∉[H.objs.size,a]:=by simp only[Qs,Jb,or_false,not_or];exact⟨by omega,Qai hlt⟩
 have WW:=(Way.walks (A:=A.in1) hh W H.objs.size hne λs Q E i st q=>Qsi st q).toS;refine wpAny_pure ⟨QcO F.plain_extend_loop _,codeAny_extend_loopS WW hn _ hSf _ es.size 0 { s with heap:=H3 } _ _ rfl (Qq _) ⟨hI.at' λo e=>oth _ o hIS e,ha1.at' λo e=>oth a o (QC hlt) (keep2 a o e)⟩ hS3 (ItemsOf.nil _) λs' acc' c' hm hS' hacc=>?_⟩;show wpAny _ A (load s.heap.objs.size >>= _) _ _ s';refine wpAny_bind (wpAny_load hS' (wpAny_pure ?_));have hl:vs.size=es.size:=by rw[<- Qe,W.pm.length_eq,Qe]
 have he:acc'.toList=vs.toList.map (·.2):=by
  apply YQ
  intro j;rw[Qy,QY,QY];by_cases z:j<acc'.size
  ·have:=hacc.2 j acc'[j] (by simp[z]);rw[this];simp[z]
  ·rw[ZQ (by omega),ZQ (by have:=hacc.1;omega)];rfl
 show Q acc'.toList s';rw[he];have es':s'={ s with heap:=s'.heap,toks:=s'.toks }:=by
  obtain⟨hp',g',d',tk',os'⟩:=s';have e1:=hm.gens;have e2:=hm.drawn;have e3:=hm.os;simp only at e1 e2 e3;rw[e1,e2,e3]
 rw[es'];refine hQ _ _ λb o e=>?_
 have hb:=Qo e;refine hm.heap b o ?_ (oth b o (QC hb) (keep2 b o (keep b o e)))
 simp only[Qs,Jb,or_false,not_or];exact⟨QC hb,by rw[hHs];exact QC (ZM hb)⟩
end
end Zt
namespace Zt
open PySem.W PySem.Calls Rs
section
variable{prog:QB}{w:Q8}{A:Q2}{E:Value->Shared->Prop}{s:Shared}
end
end Zt
namespace L2
open Zt
section
variable{X:Cx}
end
end L2
namespace Dl
open L2 _root_.Rd Rk Zt
section
variable{X:Cx}{E:XK}
end
end Dl
namespace L2
open PySem.Calls _root_.Rd _root_.Rk _root_.Rs Rt Dl
section
variable{X:Cx}
theorem Qhe(hu:X.A.units+60<cLine){pins:List (Addr×Obj)}{s:Shared}{σ:L2.St}{H:Hp}(I:Inv X pins σ H s){vs:List V}{ds:List Qa}{its:List Value}(rv:Vals vs its)(hz:vs.length<=sizeLine)(dts:Dats H vs ds)(so:Qkh ds){Q:VK}
  (q:∀(t:Addr)(ys:List V)(es:List Qa)(H2:Hp),Same H H2->H t=none->H2 t=some (.lst ys)->Dats H2 ys es->es.Perm ds->es.Pairwise (λa b=>ltD b a=false)->(∀y∈ys,y∈vs)->Q (.ref t) H2)(h':Heap)(tk:Nat)(kp:∀b x,s.heap.get? b=some x->h'.get? b=some x)(P:PySem.Fin->Shared->Prop)(E':Value->Shared->Prop)
  (hP:∀s2,(∃v H',Inv X pins σ H' s2/\RelV v (.ref h'.objs.size)/\Q v H')->P (.done (.ret .none)) s2) :
  wpAny (model X.prog X.w) X.A.in1.in1 (Y4.«list.sort» ⟨[.ref h'.objs.size],[]⟩) P E' { s with heap:=h'.push (seqObj "list" its.toArray 0),toks:=tk }:=by
 have hu2:X.A.in1.in1.units+2*20+4<cLine:=by show X.A.units+1+1+2*20+4<cLine;omega
 have li:=rv.length;obtain⟨⟨as,ra⟩,cl⟩:=QaJ I.hok ds vs its dts rv;have okds:Qhv ds=true:=Qmj λd hd=>Qni d (so.cmp d hd d hd)
 have ra':=QaE kp ds its as okds ra
 let c:Keyed->Keyed->Bool:=λx y=>ltD (rdV h' x.1) (rdV h' y.1)
 have oc:Ord c:=⟨λx y=>Qpc _ _,λx y z=>QvL _ _ _⟩;refine Qgm (s:={ s with heap:=h'.push (seqObj "list" its.toArray 0),toks:=tk }) (c:=c) (Qu _ rfl) (by omega) oc (λh2 k2 Q' E' hq=>?_) λarr pm sg h2 e k2 e2=>hP _ ?_
 ·have kk:∀b x,h'.get? b=some x->h2.get? b=some x:=λb x e=>k2 b x (QC (Qo e)) (Qc _ e)
  have ra2:=QaE kk ds its as okds ra';have asks:∀κ,QpF ds κ->(∀b,κ=tuples' b->∀d∈ds,∃es,d=.tuple es)->Asks X.prog X.w X.A.in1.in1 { s with heap:=h2,toks:=tk } κ (prs its) c:=λκ su tb=>by
   refine⟨oc,λx y hx hy C E'' hC=>?_⟩;rw[Qeg] at hx hy;obtain⟨ex,hx⟩:=QcW hx;obtain⟨ey,hy⟩:=QcW hy;obtain⟨d1,m1,b1,r1⟩:=ZR ra2 x.2 hx;obtain⟨d2,m2,b2,r2⟩:=ZR ra2 y.2 hy;obtain⟨d1',m1',b1',r1'⟩:=ZR ra' x.2 hx;obtain⟨d2',m2',b2',r2'⟩:=ZR ra' y.2 hy;have k1:=YT okds d1 m1;have k2:=YT okds d2 m2;have c1:=QdB d1 k1;have c2:=QdB d2 k2;have c1':=QdB d1' (YT okds d1' m1');have c2':=QdB d2' (YT okds d2' m2');have q1:d1'=d1:=QaT d1' d1 x.2 _ _ c1' (Qdy kk d1' _ _ (YT okds d1' m1') r1') r1;have q2:d2'=d2:=QaT d2' d2 y.2 _ _ c2' (Qdy kk d2' _ _ (YT okds d2' m2') r2') r2;subst q1 q2;have hC:C (ltD (rdV h' x.1) (rdV h' y.1)) { s with heap:=h2,toks:=tk }:=hC;rw[ex,ey,QlJ r1' c1',QlJ r2' c2'] at hC;rw[ex,ey];exact QvT (N:=20) su m1 r1 r2 c1 c2 (so.cmp _ m1 _ m2) (λb e=>tb b e _ m1) (so.dep _ m1) hu2 hC
  cases ds with
  |nil=>
   cases ra2;exact QjT (s:={ s with heap:=h2,toks:=tk }) .nil rfl (λd hd=>nomatch hd) λκ su=>hq κ (asks κ su λb _ d hd=>nomatch hd)
  |cons d0 ds0=>
   have sh:(∀d∈d0::ds0,∃es,d=.tuple es)∨∀d∈d0::ds0,∃i,d=.int i:=by
    cases d0 with
    |int i=>exact .inr λd hd=>by have:=so.cmp _ (.head _) d hd;cases d<;>first | exact⟨_,rfl⟩ | (cases this;done)
    |tuple es=>exact .inl λd hd=>by have:=so.cmp _ (.head _) d hd;cases d<;>first | exact⟨_,rfl⟩ | (cases this;done)
    |_=>have:=so.cmp _ (.head _) _ (.head _);cases this
   rcases sh with sh | sh
   ·exact QjT (s:={ s with heap:=h2,toks:=tk }) ra2 okds sh λκ su=>hq κ (asks κ su λb _=>sh)
   ·have one:QpF (d0::ds0) oneType':=.inr (.inl rfl);by_cases l2:its.length<2
    ·have hk1:∀v∈its,∀(Q'':Option Value->Shared->Prop),Q'' none { s with heap:=h2,toks:=tk }->wpAny (model X.prog X.w) X.A.in1.in1 (firstOfTuple' v) Q'' E' { s with heap:=h2,toks:=tk }:=λv hv Q'' q''=>by
      obtain⟨d,hd,bs,r⟩:=ZR ra2 v hv;obtain⟨i,rfl⟩:=sh d hd;cases r;exact wpAny_pure q''
     have hk2:∀v∈its,∀(Q'':Value->Shared->Prop),Q'' (Rt.tyV h2 v) { s with heap:=h2,toks:=tk }->wpAny (model X.prog X.w) X.A.in1.in1 (typeOf v) Q'' E' { s with heap:=h2,toks:=tk }:=λv hv Q'' q''=>by
      obtain⟨d,hd,bs,r⟩:=ZR ra2 v hv;exact Qit (s:={ s with heap:=h2,toks:=tk }) r (YT okds d hd) q''
     rw[keyKind'_eq,Qaz,map_eq_pure_bind];refine wpAny_bind (wpAny_bind (QfF (g:=λ_=>(none:Option Value)) its hk1 (wpAny_pure ?_)));cases its with
     |nil=>cases ra2
     |cons v0 vs0=>
      rw[if_neg (by simp)];rw[if_neg (by simp)];rw[Qkl,Qaz,map_eq_pure_bind];refine wpAny_bind (wpAny_bind (wpAny_bind (QfF (g:=Rt.tyV h2) _ hk2 (wpAny_pure ?_))));have fin:∀b:Bool,wpAny (model X.prog X.w) X.A.in1.in1 (pure (if b=true then oneType' else general')) Q' E' { s with heap:=h2,toks:=tk }:=λb=>by
       have ni:∀{κ:Z2},(∀b',κ≠tuples' b')->∀b',κ=tuples' b'->∀d∈d0::ds0,∃es,d=Zk es:=λh b' e=>(h b' e).elim
       cases b
       ·exact wpAny_pure (hq _ (asks _ (.inl rfl) (ni λb' e=>by cases e)))
       ·exact wpAny_pure (hq _ (asks _ (.inr (.inl rfl)) (ni λb' e=>by cases e)))
      split
      ·exact wpAny_pure (fin _)
      ·exact wpAny_pure (fin _)
    ·have ia:∀{vs:List Value}{ds:List Qa}{as:List Addr},YN h2 vs ds as->(∀d∈ds,∃i,d=Qk i)->∃ns,IntsAre vs ns:=by
      intro vs ds as ra hs;induction vs generalizing ds as with
      |nil=>exact⟨[],.nil⟩
      |cons v vs ih=>
       cases ra with
       |cons r rs=>
        obtain⟨i,rfl⟩:=hs _ (.head _);obtain⟨ns,hn⟩:=ih rs λd hd=>hs d (.tail _ hd)
        cases r;exact⟨i::ns,.cons _ _ hn⟩
     obtain⟨ns,hn⟩:=ia ra2 sh
     match its,hn,l2 with
     |v1::v2::vs',hn,_=>
      rw[keyKind_ints hn];exact wpAny_pure (hq _ (asks _ one λb e=>by cases e))
     |[_],_,l2=>exact absurd (QaV 1) l2
     |[],_,l2=>exact absurd (Nat.zero_lt_two) l2
 ·have I1:Inv X pins σ H { s with heap:=h',toks:=tk }:=I.kept (t':=tk) kp;have hf:H h'.objs.size=none:=I1.hok.fresh (Qg _);have pv:(arr.toList.map (·.2)).Perm its:=by
   have:=(Zn.mp pm).map (·.2)
   rwa [Qsz] at this
  obtain⟨Tr,t1,t2,t3,th⟩:=Qur dts rv;obtain⟨Tr',p',e'⟩:=QdT Trp.v (l:=arr.toList.map (·.2)) (by rw[<- t2];exact pv) (T:=Tr) rfl;have th':∀t∈Tr',Dat H t.x t.d/\RelV t.x t.v:=λt ht=>th t (p'.mem_iff.mp ht)
  obtain⟨dts',rv'⟩:=QpV th';have ll:(Tr'.map (·.x)).length<=sizeLine:=by
   have:=p'.length_eq;rw[Qf,this,<- Qf (f:=Trp.x),<- t1];exact hz
  have I2:Inv X pins σ (upd H h'.objs.size (.lst (Tr'.map (·.x)))) { s with heap:=h2,toks:=tk }:=
   I1.laid (t':=tk) (λb x e'=>k2 b x (QC (Qo e')) (Qc _ e')) (Qg _) (show ObjOk X.prog X.w _ _ _ (.lst _) from⟨ll,_,e,by rw[e'];exact rv',e2⟩)
  refine⟨.ref h'.objs.size,_,I2,rfl,q _ _ (Tr'.map (·.d)) _ (Jy hf) hf Jp (dts'.same (Jy hf)) (by rw[t3];exact p'.map _) ?_ λy hy=>?_⟩
  ·-- in order
   have len:arr.toList.length=Tr'.length:=by have:=congrArg QgO e';rwa [Qf,Qf] at this
   rw[Jq];intro i j hi hj hij;rw[Qf] at hi hj;rw[Qfh,Qfh];have ka:∀(k:Nat)(hk:k<Tr'.length),rdV h' (kx arr k).1=Tr'[k].d:=λk hk=>by
    have hk':k<arr.size:=by rw[<- Qe,len];exact hk
    have m:=QeI hk';have m2:=(Zn.mp pm).mem_iff.mp m;rw[Qeg] at m2;have e3:=(QcW m2).1;have e4:(kx arr k).2=Tr'[k].v:=by
     have h5:(arr.toList.map (·.2))[k]? = some (kx arr k).2:=by rw[Qy,QaO hk'];rfl
     rw[e',Qy,Qd hk] at h5;exact(Qw h5).symm
    rw[e3,e4];obtain⟨dt,rv0⟩:=th' _ (Yi hk);obtain⟨⟨bs,rr⟩,cc⟩:=Qas I1.hok _ _ _ dt rv0;exact QlJ rr cc
   have g:ltD (rdV h' (kx arr j).1) (rdV h' (kx arr i).1)=false:=sg i j (Qq _) (by omega) (by rw[<- Qe,len];exact hj);rw[ka i hi,ka j hj] at g;exact g
  ·obtain⟨t,ht,rfl⟩:=Qt.mp hy;rw[t1];exact Qt.mpr ⟨t,p'.mem_iff.mp ht,rfl⟩
end
end L2
namespace Zt
def QuD(prog:QB)(w:Q8)(a:Addr)(ps:List (List Int×Addr))(led:Bool)(h:Heap):Prop:=∃es ep t,SetAt h a es ep t/\Tab t/\t.led=led/\es.toList=ps.map λp=>(tupleKeyHash (intKind prog w) p.1,QL p.2)
section
variable{prog:QB}{w:Q8}{A:Q2}{E:Value->Shared->Prop}{s:Shared}
theorem Qsa{a:Addr}{es:Array (Int×Value)}{ep:Nat}{t:SetTable}(hs:SetAt s.heap a es ep t)(T:Tab t)(hl:t.led=ledOf w):∃so vs,Way prog w a es ep t so vs:=by
 have hz:t.place.size=es.size:=by
  have:=hs.ft;unfold Qbt at this;exact eq_of_beq (Qz.mp this).1
 cases hb:w.params.followText "set-order" with
 |true=>exact⟨_,_,Qn6 hb a es ep _⟩
 |false=>
  have hl:t.led=true:=by rw[hl];unfold ledOf;rw[hb];rfl
  let so:Nat->Nat:=λi=>match i with
   |0=>0
   |i+1=>t.place.getD i 0+1
  refine⟨so,es,Qsb hb a es ep t T.pl hl hz so rfl (λi hi=>rfl) (λi hi=>?_)⟩;obtain⟨b1,b2,b3⟩:=Qci T.pw (so i);cases i with
  |zero=>
   cases hB:JE t.place (so 0) with
   |zero=>rfl
   |succ k=>
    have:=b2 0 (by omega) (by omega);exact absurd this (YI _)
  |succ i=>
   have e:so (i+1)=t.place[i]+1:=by show t.place.getD i 0+1=_;simp[Ze,show i<t.place.size by omega]
   rcases YV (JE t.place (so (i+1))) (i+1) with z | z | z
   ·have h1:=b3 i (by omega) (by omega);omega
   ·exact z
   ·have hi2:i+1<t.place.size:=by omega
    have h1:=b2 (i+1) hi2 z;have:=Jq.mp T.pw i (i+1) (by simp;omega) (by simp;omega) (by omega);simp only[J1] at this;omega
theorem QlX{ps:List (List Int×Addr)}:∀{l k:List (Int×Value)},l.Perm k->∀{T:List (List Int×Addr)},k=T.map (λp=>(tupleKeyHash (intKind prog w) p.1,QL p.2))->∃T':List (List Int×Addr),T'.Perm T/\l=T'.map λp=>(tupleKeyHash (intKind prog w) p.1,QL p.2):=by
 intro l k p;induction p with
 |nil=>intro T e;exact⟨T,ZT _,e⟩
 |@cons x l1 l2 _ ih=>
  intro T e;cases T with
  |nil=>cases e
  |cons y T=>
   injection e with e1 e2
   obtain⟨T',p',e'⟩:=ih e2;exact⟨y::T',p'.cons y,by rw[e1,e'];rfl⟩
 |swap x y l=>
  intro T e
  match T,e with
  |u::v::T,e=>
   injection e with e1 e2
   injection e2 with e2 e3
   exact⟨v::u::T,Qe8 _ _ _,by rw[e1,e2,e3];rfl⟩
 |trans _ _ ih1 ih2=>
  intro T e;obtain⟨T1,p1,e1⟩:=ih2 e;obtain⟨T2,p2,e2⟩:=ih1 e1;exact⟨T2,p2.trans p1,e2⟩
open PyProof.Rows PySem.W PySem.Calls Rs in
theorem Qev{Q:Value->Shared->Prop}{a:Addr}{ps:List (List Int×Addr)}(hh:A.handled=none)(hl:ps.length<=1000)(x:QuD prog w a ps (ledOf w) s.heap)
  (h:∀(h':Heap)(tk:Nat)(ps':List (List Int×Addr)),ps'.Perm ps->(∀b x,s.heap.get? b=some x->h'.get? b=some x)->∀(P:PySem.Fin->Shared->Prop)(E':Value->Shared->Prop),(∀s2,Q (.ref h'.objs.size) s2->P (.done (.ret .none)) s2) ->
   wpAny (model prog w) A.in1.in1 (Y4.«list.sort» ⟨[.ref h'.objs.size],[]⟩) P E' { s with heap:=h'.push (seqObj "list" (ps'.map λp=>QL p.2).toArray 0),toks:=tk }) :
  wpAny (model prog w) A (call (.builtin "sorted") [.ref a]) Q E s:=by
 obtain⟨es,ep,t,sa,T,led,ent⟩:=x;have hsz:es.size=ps.length:=by rw[<- Qe,ent,Qf]
 obtain⟨so,vs,W⟩:=Qsa (prog:=prog) (w:=w) sa T led;obtain⟨ps',pp,e'⟩:=QlX (prog:=prog) (w:=w) (ps:=ps) W.pm ent;refine Qg3 kind_sorted plain_sorted entry_sorted (args_sorted1 _) ?_
 unfold Y4.«sorted»;refine wpAny_bind (m:=checkCount "sorted" 1 1 _) (wpAny_pure ?_);refine wpAny_bind (Qi9 (A:=A.in1) hh W sa T.pl (by rw[hsz,Ya];omega) λh' tk kp=>?_);have ev:vs.toList.map (·.2)=ps'.map λp=>QL p.2:=by rw[e',Je];rfl
 rw[ev];refine wpAny_bind (QfO ?_ (by rw[Ya,Qf,pp.length_eq];omega));have hoL:(h'.push (seqObj "list" (ps'.map λp=>QL p.2).toArray 0)).get? h'.objs.size=some (seqObj "list" (ps'.map λp=>QL p.2).toArray 0):=Qu _ rfl;show wpAny _ _ _ _ _ { s with heap:=h'.push (seqObj "list" (ps'.map λp=>QL p.2).toArray 0),toks:=tk };refine wpAny_bind (JV (JO slot_list_sort ⟨_,hoL,rfl⟩ entry_list_sort ?body (args_list_sort _)));exact h h' tk ps' pp kp _ _ λs2 hq=>⟨_,rfl,wpAny_pure ⟨_,rfl,hq⟩⟩
end
end Zt
namespace Rk
open L2 _root_.Rd Dl Rt
def tN(ns:List Int):Qa:=.tuple (ns.map Qk)
theorem Qpv(ns:List Int):(tN ns).depth<=1:=by
 show Jg (ns.map Qk)+1<=1;have:=QcC (n:=0) (ds:=ns.map Qk) λd hd=>by obtain⟨p,_,rfl⟩:=Qt.mp hd;exact Qg _
 omega
theorem QfL:∀(L M:List Int),Qc9 (L.map Qk) (M.map Qk)=true
 |[],[]=>rfl
 |[],_::_=>rfl
 |_::_,[]=>rfl
 |_::L,_::M=>by show(true&&Qc9 (L.map Qk) (M.map Qk))=true;rw[QfL L M];rfl
end Rk
namespace L2
open Zt _root_.Rd _root_.Rk Dl Rt
section
variable{X:Cx}
theorem Qg7:∀{L:List (List Int×Addr)}{its:List Value},Vals (L.map λp=>V.ref p.2) its->its=L.map λp=>QL p.2
 |[],_,.nil=>rfl
 |p::L,_,.cons r rs=>by
  cases r;rw[Qg7 rs];rfl
theorem Qew:∀(L:List (List Int×Addr)),Vals (L.map λp=>V.ref p.2) (L.map λp=>QL p.2)
 |[]=>.nil
 |p::L=>.cons rfl (Qew L)
theorem QeL{prog:QB}{w:Q8}:∀{r:List Int}{its:List Value},IntsAre its r->ItemsAre (intKind prog w) r its
 |_,_,.nil=>.nil
 |_,_,.cons n t h=>.cons (intKind_is _ _ _ _) (QeL h)
theorem key_of{pins:List (Addr×Obj)}{s:Shared}{σ:L2.St}{H:Hp}(I:Inv X pins σ H s){r:List Int}{b:Addr}(h:H b=some (.tup (r.map V.int))):J8 (intKind X.prog X.w) s.heap r b:=by
 obtain⟨hz,its,rv,o,ho,hc,n,hd⟩:=I.hok b _ h;exact⟨o,its.toArray,n,ho,hc,hd,by simpa using QeL (intsAre_of rv)⟩
theorem range_getD{α:Type}(L:List α)(d:α):(Qm L.length).map (λi=>L.getD i d)=L:=by
 apply YQ
 intro i;rw[Qy];by_cases h:i<L.length
 ·rw[Zd h,Qd h];show some (L.getD i d)=_;rw[Ql,Qd h];rfl
 ·rw[Zf (by simpa using h),Zf (by omega)];rfl
def Qxz(prog:QB)(w:Q8)(K:PySem.W.Frag):List V->Hp->VK->Prop:=λxs H Q=>∃(l:Addr)(L:List (List Int×Addr)),xs=[.ref l]/\SqL K H l (L.map λp=>V.ref p.2)/\(∀p∈L,H p.2=some (.tup (p.1.map V.int)))/\L.length<=1000 /\
 ∀(t:Addr)(H2:Hp)(ps:List (List Int×Addr)),(ps.map (·.1)).Nodup->ps.length<=L.length->(∀p∈ps,p∈L)->(∀p∈L,p.1∈ps.map (·.1))->Same H H2->H t=none->H2 t=some (.ext (QuD prog w t ps (ledOf w)))->Q (.ref t) H2
theorem call_setT(hc:X.calm=true)(hu:X.A.units+60<cLine):CallR X (.type "set") (Qxz X.prog X.w X.K):=by
 intro pins s σ H xs us Q I r h;obtain⟨p,L,rfl,hp,hL,h300,q⟩:=h;obtain⟨u,rfl,ru⟩:=vals1 r;cases ru;obtain⟨its,rv,pl,hz⟩:=I.list hp;obtain rfl:=Qg7 rv;have hget:∀i,i<L.length->L.getD i ([],0)∈L:=λi hi=>by
  rw[Ql,Qd hi];exact Yi hi
 refine Zt.call_setT (items:=(L.map λp=>QL p.2).toArray) (n:=L.length) (f:=λi=>L.getD i ([],0)) (I.ok.hd hc) hu pl.isList (by rw[Qp,Qf]) h300 (λi v hv=>?_) (λj hj=>key_of I (hL _ (hget j hj))) λh' tk hS hk=>?_
 ·rw[Qk1,Qy] at hv;cases e:L[i]? with
  |none=>rw[e] at hv;cases hv
  |some y=>
   rw[e] at hv;cases hv;show _=QL (L.getD i ([],0)).2;rw[Ql,e];rfl
 ·rw[range_getD] at hS;obtain⟨es,ep,t,ps,x,hl,hn,hsub,hall⟩:=hS.ex;have hf:H s.heap.objs.size=none:=I.hok.fresh (Qg _);refine⟨.ref s.heap.objs.size,upd H s.heap.objs.size (.ext (QuD X.prog X.w s.heap.objs.size ps (ledOf X.w))),I.laid (t':=tk) (λb x e=>hk b x (Qo e) e) (Qg _) ⟨⟨es,ep,t,x.at_,x.tab,hl,x.ent⟩,?_,λh1 h2 a b=>?_⟩,rfl,q _ _ ps x.nd hn hsub hall (Jy hf) hf Jp⟩
  ·obtain⟨o,ho,_⟩:=x.at_.at_;exact⟨o,ho⟩
  ·obtain⟨es,ep,t,sa,r⟩:=a;exact⟨es,ep,t,sa.at' b,r⟩
def QuO(prog:QB)(w:Q8):List V->Hp->VK->Prop:=λxs H Q=>∃(a:Addr)(ps:List (List Int×Addr)),xs=[.ref a]/\ps.length<=1000/\H a=some (.ext (QuD prog w a ps (ledOf w)))/\(∀p∈ps,H p.2=some (.tup (p.1.map V.int))) /\
 ∀(t:Addr)(ys:List V)(es:List Qa)(H2:Hp),Same H H2->H t=none->H2 t=some (.lst ys)->Dats H2 ys es->es.Perm (ps.map λp=>tN p.1)->es.Pairwise (λa b=>ltD b a=false)->(∀y∈ys,y∈ps.map λp=>V.ref p.2)->Q (.ref t) H2
theorem QeT{H:Hp}:∀{ps:List (List Int×Addr)},(∀p∈ps,H p.2=some (.tup (p.1.map V.int)))->Dats H (ps.map λp=>V.ref p.2) (ps.map λp=>tN p.1)
 |[],_=>.nil
 |p::ps,h=>.cons (Dat.tup (h p (.head _)) (QeU p.1)) (QeT λq hq=>h q (.tail _ hq))
theorem QcZ(rs:List (List Int)):Qkh (rs.map tN):=⟨λx hx y hy=>by
 obtain⟨s,_,rfl⟩:=Qt.mp hx;obtain⟨t,_,rfl⟩:=Qt.mp hy;exact QfL s t,λx hx=>by
 obtain⟨s,_,rfl⟩:=Qt.mp hx;exact Q4 (Qpv s) (by decide)⟩
theorem QkS(hc:X.calm=true)(hu:X.A.units+60<cLine):CallR X (.builtin "sorted") (QuO X.prog X.w):=by
 intro pins s σ H xs us Q I r h;obtain⟨a,ps,rfl,h300,ha,hps,q⟩:=h;obtain⟨u,rfl,ru⟩:=vals1 r;cases ru;obtain⟨hS,_⟩:=I.hok a _ ha;refine Qev (I.ok.hd hc) (by omega) hS λh' tk ps' pp kp P E' hP=>?_
 have hps':∀p∈ps',H p.2=some (.tup (p.1.map V.int)):=λp hp=>hps p (pp.mem_iff.mp hp)
 refine Qhe hu I (Qew ps') (by rw[Qf,pp.length_eq];exact Zz (Rk.QaN (by omega))) (QeT hps') (by have:=QcZ (ps'.map (·.1));rw[Je] at this;exact this) (λt ys es H2 s2 n2 e2 dt pe pw hy=>?_) h' tk kp P E' hP;exact q t ys es H2 s2 n2 e2 dt (pe.trans (pp.map _)) pw λy hy'=>(pp.map _).mem_iff.mp (hy y hy')
end
end L2
namespace Dl
open L2 _root_.Rd Rk Zt Rt
section
variable{X:Cx}{E:XK}
@[irreducible] def Qhh:Qa->(Qa->Prop)->Prop
 |.list ds,Q=>∃rows:List (List Int),ds=rows.map tN/\rows.length<=1000/\∀ms:List (List Int),ms.Nodup->(∀x,x∈ms↔x∈rows)->(ms.map tN).Pairwise (λa b=>ltD b a=false)->Q (.list (ms.map tN))
 |_,_=>False
theorem Qop{Q:Qa->Prop}(rows:List (List Int))(hl:rows.length<=1000)(h:∀ms:List (List Int),ms.Nodup->(∀x,x∈ms↔x∈rows)->(ms.map tN).Pairwise (λa b=>ltD b a=false)->Q (.list (ms.map tN))):Qhh (.list (rows.map tN)) Q:=by
 unfold Qhh;exact⟨rows,rfl,hl,h⟩
def QhO(w:DE):DE:=λδ Q EX=>w δ (λd=>Qhh d Q) EX
theorem QfC:∀L:List Int,Qhv (L.map Qk)=true
 |[]=>rfl
 |_::L=>by show(true&&Qhv (L.map Qk))=true;rw[QfC L];rfl
theorem Qj5{A:Addr->Prop}{H:Hp}:∀{rows:List (List Int)}{xs:List V},DAs A H xs (rows.map tN)->∃L:List (List Int×Addr),xs=L.map (λp=>V.ref p.2)/\rows=L.map (·.1)/\∀p∈L,H p.2=some (.tup (p.1.map V.int))
 |[],_,.nil=>⟨[],rfl,rfl,λ_ h=>nomatch h⟩
 |r::rows,_,.cons q qs=>by
  obtain⟨L,rfl,rfl,hL⟩:=Qj5 qs;have q:DA A H _ (.tuple (r.map Qk)):=q;cases q with
  |@tup l ys _ na e qq=>
   rw[Qbs qq] at e;refine⟨(r,l)::L,rfl,rfl,λp hp=>?_⟩;rcases Qs.mp hp with z | z
   ·rw[z];exact e
   ·exact hL p z
theorem QiQ{e:QZ}{w:DE}{p p2 pos pos2:Pos}(hu:X.A.units+60<cLine)(hg:Gl X "sorted")(hm:X.mg "sorted" = none)(hg2:Gl X "set")(hm2:X.mg "set" = none)(h:PE X e (tX .P X.K E w))(hc:X.calm=true)(hs:notStar e=true):PE X (.Call (.Name "sorted" p) [.Call (.Name "set" p2) [e] [] pos2] [] pos) (tX .F X.K E (QhO w)):=by
 refine PE.imp (Zo (L2.QkS hc hu) hg hm Qdc (Qfc (Qhq (L2.call_setT hc hu) hg2 hm2 bt_set (Qfc h JN hs) (he:=YD hs)) JN)) λσ H Q ⟨F,δ,R,EX,rel,hw,k,o⟩=>?_
 refine⟨F,δ,_,EX,rel,hw,λd hd v H1 rel1 kp1 vk=>?_,o⟩;have hd:Qhh d _:=hd;unfold Qhh at hd;split at hd
 ·obtain⟨rows,rfl,h300,hR⟩:=hd;obtain⟨l,xs,rfl,e,q⟩:=DP.list vk;obtain⟨L,rfl,rfl,hL⟩:=Qj5 q;rw[Qf] at h300;refine⟨l,L,rfl,SqL.of e,hL,h300,λt H2 ps nd hn hsub hall s2 n2 e2=>⟨t,ps,rfl,by omega,e2,λp hp=>s2 _ _ (hL p (hsub p hp)),λt3 ys es H3 s3 n3 e3 dt pe pw hy=>?_⟩⟩;have s13:=s2.trans s3;have n13:H1 t3=none:=by
   cases z:H1 t3 with
   |none=>rfl
   |some o=>rw[s2 _ _ z] at n3;cases n3
  obtain⟨Ms,pM,rfl⟩:=QdT tN (T:=ps.map (·.1)) pe (by rw[Je];rfl);refine k _ (hR Ms (pM.nodup_iff.mpr nd) (λx=>?_) pw) _ H3 (rel1.same s13) (kp1.trans (Kp.same rel1 s13)) ?_
  ·rw[pM.mem_iff];constructor
   ·intro hx;obtain⟨p,hp,rfl⟩:=Qt.mp hx;exact Qt.mpr ⟨p,hsub p hp,rfl⟩
   ·intro hx;obtain⟨p,hp,rfl⟩:=Qt.mp hx;exact hall p hp
  ·refine⟨.lst (λz=>by obtain⟨xs,e⟩:=rel1.isl z;rw[n13] at e;cases e) e3 (QhM dt (λy hy'=>?_) λy d e _=>Qj3 d e y),Qay (QbT kp1 n13)⟩;obtain⟨p,hp,rfl⟩:=Qt.mp (hy y hy');have hp1:=hL p (hsub p hp);obtain⟨d,hd,da⟩:=Qwb q (Qt.mpr ⟨p,hsub p hp,rfl⟩);obtain⟨r,_,rfl⟩:=Qt.mp hd;exact⟨tN r,da.same s13,Qad r,QdB _ (QfC r),QhN _ _ (Qad r) (da.same s13)⟩
 ·exact hd.elim
theorem Qkz{e:QZ}{w:DE}{p p2 pos pos2:Pos}(hu:X.A.units+60<cLine)(hg:Gl X "sorted")(hm:X.mg "sorted" = none)(hg2:Gl X "set")(hm2:X.mg "set" = none)(h:QE .P X E e w)(hc:X.calm=true:=by rfl)(hs:notStar e=true:=by rfl):QE .F X E (.Call (.Name "sorted" p) [.Call (.Name "set" p2) [e] [] pos2] [] pos) (QhO w):=⟨QiQ hu hg hm hg2 hm2 h.h hc hs⟩
end
end Dl
namespace Rk
open L2 _root_.Rd Dl Rt
def hdL(ns:List Int):List Int:=(Qm ns.length).map λi=>ns.getD i 0 - (i:Int)
def adL(ns:List Int):List Int:=(Qm ns.length).map λi=>ns.getD i 0+(i:Int)
def nbI(hs:List Int)(o:List Nat):List Int:=(Qm o.length).map λi=>hs.getD (o.getD i 0) 0+(i:Int)
def okR(x:List Int):Bool:=decide (0<=x.getD 0 0)&&nfI x
theorem QaP(ns:List Int):(hdL ns).length=ns.length:=by unfold hdL;rw[Qf,QF]
theorem QdL(ns:List Int):(adL ns).length=ns.length:=by unfold adL;rw[Qf,QF]
theorem Qgg(hs:List Int)(o:List Nat):(nbI hs o).length=o.length:=by unfold nbI;rw[Qf,QF]
theorem QmL{ns:List Int}{i:Nat}(h:i<ns.length):(hdL ns).getD i 0=ns.getD i 0 - (i:Int):=by
 unfold hdL;rw[Ql,Qy,Zd h];rfl
theorem QnC{ns:List Int}{i:Nat}(h:i<ns.length):(adL ns).getD i 0=ns.getD i 0+(i:Int):=by
 unfold adL;rw[Ql,Qy,Zd h];rfl
theorem Qgw{a b:List Int}(l:a.length=b.length)(h:∀i,i<a.length->a.getD i 0=b.getD i 0):a=b:=by
 refine Qr2 l λi h1 h2=>?_
 have:=h i h1;rw[Ql,Ql,Qd h1,Qd h2] at this;exact this
theorem Qx7(ns:List Int):hdL (adL ns)=ns:=by
 refine Qgw (by rw[QaP,QdL]) λi hi=>?_
 rw[QaP,QdL] at hi;rw[QmL (by rw[QdL];exact hi),QnC hi];omega
theorem Qyj(ns:List Int):adL (hdL ns)=ns:=by
 refine Qgw (by rw[QdL,QaP]) λi hi=>?_
 rw[QdL,QaP] at hi;rw[QnC (by rw[QaP];exact hi),QmL hi];omega
theorem QvI(hs:List Int)(o:List Nat):nbI hs o=adL (o.map λj=>hs.getD j 0):=by
 refine Qgw (by rw[Qgg,QdL,Qf]) λi hi=>?_
 rw[Qgg] at hi;rw[QnC (by rw[Qf];exact hi)];unfold nbI;rw[Ql,Qy,Zd hi,Ql (l:=o.map _),Qy,Qd hi];show hs.getD (o.getD i 0) 0+(i:Int)=hs.getD o[i] 0+(i:Int);rw[Ql (l:=o),Qd hi];rfl
theorem Qp5(hs:List Int):(Qm hs.length).map (λj=>hs.getD j 0)=hs:=by
 refine Qgw (by rw[Qf,QF]) λi hi=>?_
 rw[Qf,QF] at hi;rw[Ql,Qy,Zd hi];rfl
theorem QoD{a b:List Int}(h:a.Perm b):∃o:List Nat,o.Perm (Qm b.length)/\a=o.map λj=>b.getD j 0:=by
 induction h with
 |nil=>exact⟨[],.nil,rfl⟩
 |@cons x l1 l2 _ ih=>
  obtain⟨o,po,e⟩:=ih;refine⟨0::o.map (·+1),?_,?_⟩
  ·rw[Qr,Qcp];exact .cons _ (po.map _)
  ·rw[Q7,Je,e];rfl
 |swap x y l=>
  refine⟨1::0::(Qm l.length).map (·+2),?_,?_⟩
  ·rw[Qr,Qr,Qcp,Qcp,Q7,Je];exact .swap _ _ _
  ·rw[Q7,Q7,Je]
   conv=>lhs;rw[<- Qp5 l]
   rfl
 |@trans l1 l2 l3 p1 p2 ih1 ih2=>
  obtain⟨o1,q1,e1⟩:=ih1;obtain⟨o2,q2,e2⟩:=ih2;have l2':l2.length=o2.length:=by rw[e2,Qf]
  have mp:(o1.map λj=>o2.getD j 0).Perm (Qm l3.length):=by
   refine(q1.map _).trans ?_
   have:(Qm l2.length).map (λj=>o2.getD j 0)=o2:=by
    refine Qr2 (by rw[Qf,QF,l2']) λi h1 h2=>?_
    rw[Qfh,List.getElem_range,Ql,Qd h2];rfl
   rw[this];exact q2
  refine⟨_,mp,?_⟩;rw[Je,e1];refine JX λj hj=>?_
  have hj:j<l2.length:=QU.mp (q1.mem_iff.mp hj);show l2.getD j 0=l3.getD (o2.getD j 0) 0;rw[e2,Ql,Qy,Qd (by omega),Ql (l:=o2),Qd (by omega)];rfl
theorem QjE{n:Nat}:∀{i:Nat}{o:List Nat},o.length=i->o.Nodup->(∀x∈o,x<n)->o∈ordsN n i
 |0,o,l,_,_=>by rw[Qjn.mp l];exact .head _
 |i+1,o,l,nd,lt=>by
  have ne:o≠[]:=λz=>by rw[z] at l;cases l
  have e:=Yt ne;rw[<- e] at nd lt l ⊢;rw[Qv] at l;obtain⟨n1,_,n3⟩:=QpO.mp nd;refine Yh.mpr ⟨_,QjE (by simpa using l) n1 λx hx=>lt x (ZF _ hx),Qt.mpr ⟨_,Za.mpr ⟨QU.mpr (lt _ (QM _ (.head _))),?_⟩,rfl⟩⟩;rw[Qe3,decide_eq_false_iff_not];exact λhx=>n3 _ hx _ (.head _) rfl
theorem QoY{n:Nat}{o:List Nat}:o∈ordsN n n↔o.Perm (Qm n):=
 ⟨Qhr,λp=>QjE (by rw[p.length_eq,QF]) (p.nodup_iff.mpr Qcm) λx hx=>QU.mp (p.mem_iff.mp hx)⟩
theorem Qms{hs x:List Int}:(∃o∈ordsN hs.length hs.length,nbI hs o=x)↔(hdL x).Perm hs:=by
 constructor
 ·rintro⟨o,ho,rfl⟩;rw[QvI,Qx7];have:=(Qhr ho).map λj=>hs.getD j 0
  rwa [Qp5] at this
 ·intro h;obtain⟨o,po,e⟩:=QoD h;exact⟨o,QoY.mpr po,by rw[QvI,<- e,Qyj]⟩
def Qrx(ns x:List Int):Prop:=(hdL x).Perm (hdL ns)/\okR x=true
structure AllS (ns:List Int) (rows:List (List Int)):Prop where
 nd:rows.Nodup
 iff_:∀x,x∈rows↔Qrx ns x
 srt:(rows.map tI).Pairwise λa b=>ltD b a=false
theorem Qcf{ns x:List Int}(h:Qrx ns x):x.length=ns.length:=by have:=h.1.length_eq;rwa [QaP,QaP] at this
theorem QmJ{ns:List Int}(h:Qat ns):Qrx ns ns:=by
 refine⟨.refl _,?_⟩;show(decide (0<=ns.getD 0 0)&&nfI ns)=true;rw[h.nf,QwK];have l1:=h.l1
 match ns,h with
 |[],h=>exact absurd h.l1 (by decide)
 |a::r,h=>exact decide_eq_true (h.bd a (.head _)).1
theorem Qj9:∀(a b:List Int),isE (QaX (a.map Qk) (b.map Qk))=true->a=b
 |[],[],_=>rfl
 |[],_::_,h=>nomatch h
 |_::_,[],h=>nomatch h
 |x::a,y::b,h=>by
  have h:isE (thn (QhQ x y) (QaX (a.map Qk) (b.map Qk)))=true:=h;unfold QhQ at h;by_cases q:x<y
  ·rw[if_pos q] at h;cases h
  ·rw[if_neg q] at h;by_cases q2:x=y
   ·rw[if_pos q2] at h;rw[q2,Qj9 a b h]
   ·rw[if_neg q2] at h;cases h
theorem Qti{a b:List Int}(h1:ltD (tI a) (tI b)=false)(h2:ltD (tI b) (tI a)=false):a=b:=by
 refine Qj9 a b ?_
 unfold ltD at h1;rw[Qmv] at h2;have h1:isL (QaX (a.map Qk) (b.map Qk))=false:=h1;have h2:(!Qfd (QaX (a.map Qk) (b.map Qk)))=false:=h2
 revert h1 h2
 cases QaX (a.map Qk) (b.map Qk)<;>intro h1 h2
 ·cases h1
 ·rfl
 ·cases h2
theorem AllS.uniq{ns:List Int}{r1 r2:List (List Int)}(h1:AllS ns r1)(h2:AllS ns r2):r1=r2:=by
 have p:r1.Perm r2:=(Qbj h1.nd h2.nd).mpr λx=>(h1.iff_ x).trans (h2.iff_ x).symm
 exact YX (le:=λa b=>ltD (tI b) (tI a)=false) (λa b _ _ q1 q2=>Qti q2 q1) (QpN.mp h1.srt) (QpN.mp h2.srt) p
def Qfu:List Int->Bool
 |x::y::r=>(decide (y=0)||decide (x<y))&&Qfu (y::r)
 |_=>true
def Qt4(x:Int):List Int->List Int
 |[]=>[x]
 |y::r=>if x<=y then x::y::r else y::Qt4 x r
def srtS:List Int->List Int
 |[]=>[]
 |x::r=>Qt4 x (srtS r)
theorem QeP(x:Int):∀l:List Int,(Qt4 x l).Perm (x::l)
 |[]=>.refl _
 |y::r=>by
  unfold Qt4;split
  ·exact .refl _
  ·exact((QeP x r).cons y).trans (.swap _ _ _)
theorem ZZ:∀l:List Int,(srtS l).Perm l
 |[]=>.nil
 |x::r=>(QeP x _).trans ((ZZ r).cons x)
theorem QmH(x:Int):∀l:List Int,l.Pairwise (·<=·)->(Qt4 x l).Pairwise (·<=·)
 |[],_=>Qjm _ _
 |y::r,h=>by
  obtain⟨h1,h2⟩:=Yq.mp h;unfold Qt4;split
  ·rename_i q
   exact .cons (λz hz=>(Qs.mp hz).elim (λe=>e ▸ q) λhz=>Qbv q (h1 z hz)) h
  ·rename_i q
   refine .cons (λz hz=>?_) (QmH x r h2);rcases Qs.mp ((QeP x r).mem_iff.mp hz) with e | e
   ·rw[e];omega
   ·exact h1 z e
theorem QbL:∀l:List Int,(srtS l).Pairwise (·<=·)
 |[]=>.nil
 |x::r=>QmH x _ (QbL r)
theorem Qeu{a b:List Int}(p:a.Perm b)(h1:a.Pairwise (·<=·))(h2:b.Pairwise (·<=·)):a=b:=YX (le:=λa b=>a<=b) (λa b _ _ h1 h2=>Qg2 h1 h2) h1 h2 p
def zrs(m:Int):List Int:=(Qm (1 - m).toNat).map λ(i:Nat) => -(i:Int)
def candI(hs:List Int):List Int:=adL (zrs (hs.getD 0 1)++(zrs (hs.getD 0 1)).foldl List.erase hs)
def QwM:Nat->Nat->List (List Int)
 |0,_=>[[]]
 |n+1,lo=>(Qm 7).flatMap λv=>if lo<=v then(QwM n v).map ((v:Int)::·) else[]
def QwN:Nat->Nat->List (List Int)
 |0,_=>[[]]
 |n+1,p=>(Qm 12).flatMap λv=>if(v=0/\p=0)∨p<v then(QwN n v).map ((v:Int)::·) else[]
def Qzt(ns:List Int):Bool:=let x:=candI (srtS (hdL ns));decide (srtS (hdL x)=srtS (hdL ns))&&(okR x&&Qfu x)
theorem QtO:∀n:Fin 7,((QwM n.val 0).all λns=>n.val == 0||Qzt ns)=true:=by decide +kernel
theorem QtP:∀n:Fin 7,((QwN n.val 0).all λx=>n.val == 0||decide (candI (srtS (hdL x))=x))=true:=by decide +kernel
theorem Qru:∀(ns:List Int)(lo:Nat),(∀i∈ns,0<=i/\i<=6)->nfI ((lo:Int)::ns)=true->ns∈QwM ns.length lo
 |[],_,_,_=>.head _
 |a::r,lo,hb,hn=>by
  have hn:=Qz.mp (show(decide ((lo:Int)<=a)&&nfI (a::r))=true from hn);have ha:=hb a (.head _);have h1:=of_decide_eq_true hn.1;refine Yh.mpr ⟨a.toNat,QU.mpr (by omega),?_⟩;rw[if_pos (by omega)];exact Qt.mpr ⟨r,Qru r _ (λi hi=>hb i (.tail _ hi)) (by rw[show((a.toNat:Nat):Int)=a by omega];exact hn.2),by rw[show((a.toNat:Nat):Int)=a by omega]⟩
theorem Qrv:∀(x:List Int)(p:Nat),(∀i∈x,i<=11)->nfI ((p:Int)::x)=true->Qfu ((p:Int)::x)=true->x∈QwN x.length p
 |[],_,_,_,_=>.head _
 |a::r,p,hb,hn,hr=>by
  have hn:=Qz.mp (show(decide ((p:Int)<=a)&&nfI (a::r))=true from hn);have hr:=Qz.mp (show((decide (a=0)||decide ((p:Int)<a))&&Qfu (a::r))=true from hr);have ha:=hb a (.head _);have h1:=of_decide_eq_true hn.1;have h2:a=0∨(p:Int)<a:=by
   rcases QdP.mp hr.1 with z | z
   ·exact .inl (of_decide_eq_true z)
   ·exact .inr (of_decide_eq_true z)
  refine Yh.mpr ⟨a.toNat,QU.mpr (by omega),?_⟩;rw[if_pos (by omega)];exact Qt.mpr ⟨r,Qrv r _ (λi hi=>hb i (.tail _ hi)) (by rw[show((a.toNat:Nat):Int)=a by omega];exact hn.2) (by rw[show((a.toNat:Nat):Int)=a by omega];exact hr.2),by rw[show((a.toNat:Nat):Int)=a by omega]⟩
theorem QlH{ns:List Int}(hs:Qat ns):∃x,Qrx ns x/\Qfu x=true/\∀y,Qrx ns y->Qfu y=true->y=x:=by
 have l1:=hs.l1;have l6:=hs.l6;have hm:ns∈QwM ns.length 0:=Qru ns 0 hs.bd (by
  match ns,hs with
  |[],h=>exact absurd h.l1 (by decide)
  |a::r,h=>
   show(decide ((0:Int)<=a)&&nfI (a::r))=true;rw[decide_eq_true (h.bd a (.head _)).1,h.nf];rfl)
 have c1:=Jm.mp (QtO ⟨ns.length,by omega⟩) ns hm;rcases QdP.mp c1 with z | c1
 ·have:=eq_of_beq z;simp at this;rw[this] at l1;cases l1
 have c1:(decide (srtS (hdL (candI (srtS (hdL ns))))=srtS (hdL ns))&&(okR (candI (srtS (hdL ns)))&&Qfu (candI (srtS (hdL ns)))))=true:=c1;have C2:∀y,Qrx ns y->decide (candI (srtS (hdL y))=y)=true->y=candI (srtS (hdL ns)):=λy hy c2=>by
  have c2:=of_decide_eq_true c2;have e:srtS (hdL y)=srtS (hdL ns):=Qeu ((ZZ _).trans (hy.1.trans (ZZ _).symm)) (QbL _) (QbL _);rw[e] at c2;exact c2.symm
 generalize candI (srtS (hdL ns))=x at c1 C2;obtain⟨ca,cb⟩:=Qz.mp c1;obtain⟨cb,cc⟩:=Qz.mp cb;have ca:=of_decide_eq_true ca;have pp:=(ZZ (hdL x)).symm;rw[ca] at pp;refine⟨x,⟨pp.trans (ZZ _),cb⟩,cc,λy hy ry=>?_⟩;have ly:=Qcf hy;have ok:=Qz.mp hy.2;have y0:=of_decide_eq_true ok.1;have hm:y∈QwN y.length 0:=by
  refine Qrv y 0 (λi hi=>?_) ?_ ?_
  ·obtain⟨j,hj⟩:=Jc.mp hi;obtain⟨jl,e⟩:=QQ.mp hj;have hh:(hdL y).getD j 0∈hdL ns:=hy.1.mem_iff.mp (by rw[Ql,Qd (by rw[QaP];exact jl)];exact Yi _);rw[QmL jl] at hh;obtain⟨t,ht,e2⟩:=Qt.mp hh;have tl:=QU.mp ht;have b:=hs.bd (ns.getD t 0) (by rw[Ql,Qd tl];exact Yi _);have e3:y.getD j 0=i:=by rw[Ql,hj];rfl
   rw[e3] at e2;omega
  ·match y,y0,ok.2 with
   |[],_,_=>rfl
   |a::r,y0,q=>show(decide ((0:Int)<=a)&&nfI (a::r))=true;rw[decide_eq_true (show(0:Int)<=a from y0),q];rfl
  ·match y,y0,ry with
   |[],_,_=>rfl
   |a::r,y0,q=>
    have y0:(0:Int)<=a:=y0;show((decide (a=0)||decide ((0:Int)<a))&&Qfu (a::r))=true;rw[q,QwK];by_cases z:a=0
    ·rw[decide_eq_true z];rfl
    ·rw[decide_eq_true (show(0:Int)<a by omega),Bool.or_true]
 have c2:=Jm.mp (QtP ⟨y.length,by omega⟩) y hm;rcases QdP.mp c2 with z | c2
 ·have:=eq_of_beq z;simp at this;rw[this] at ly;simp at ly;omega
 exact C2 y hy c2
theorem QmW{rows:List (List Int)}(nd:rows.Nodup){x:List Int}{p:List Int->Bool}(hx:x∈rows)(px:p x=true)(h:∀y∈rows,p y=true->y=x):rows.filter p=[x]:=by
 have:(rows.filter p).Perm [x]:=(Qbj (QbE _ nd) (by simp)).mpr λy=>by
  rw[Za,Q3];exact⟨λq=>h y q.1 q.2,λe=>e ▸ ⟨hx,px⟩⟩
 exact List.perm_singleton.mp this
end Rk
namespace Zt
def Qf4(prog:QB)(w:Q8)(a:Addr)(ps:List (List Int×Addr))(led:Bool)(h:Heap):Prop:=∃es ep t,SetAt h a es ep t/\Tab t/\t.led=led/\(es.toList=ps.map λp=>(tupleKeyHash (intKind prog w) p.1,QL p.2))/\(ps.map (·.1)).Nodup/\(∀(i j:Nat)(e:Int×Value),t.place[i]? = some j->es[i]? = some e->Rch t j e.1)/\(t.mask=7∨t.mask=31∨t.mask=127∨t.mask=511∨t.mask=2047)/\t.place.size*5<t.mask*3
theorem QuC{prog:QB}{w:Q8}{a:Addr}{ps:List (List Int×Addr)}{led:Bool}{h:Heap}(x:Qf4 prog w a ps led h):QuD prog w a ps led h:=by
 obtain⟨es,ep,t,h1,h2,h3,h4,_⟩:=x;exact⟨es,ep,t,h1,h2,h3,h4⟩
section
variable{prog:QB}{w:Q8}{A:Q2}{E:Value->Shared->Prop}{s:Shared}
theorem Qsk{a:Addr}{es:Array (Int×Value)}{ep:Nat}{t:SetTable}{ps:List (List Int×Addr)}{h:Heap}(x:TS prog w h a es ep t ps){led:Bool}(hl:t.led=led):Qf4 prog w a ps led h:=⟨es,ep,t,x.at_,x.tab,hl,x.ent,x.nd,x.rch,x.mks,x.few⟩
theorem Qta{Q:Value->Shared->Prop}(h:Q (.ref s.heap.objs.size) { s with heap:=s.heap.push { cls:=.type "set",dict:=none,data:=.set #[] 0 (.fresh 0 0 (ledOf w)) } }):wpAny (model prog w) A (newSet (.type "set")) Q E s:=by
 unfold newSet
 wp_walk
 refine ZK (wpAny_pure ?_);dsimp only;simp only[newObj];refine wpAny_bind (wpAny_alloc (wpAny_pure ?_));exact h
theorem call_add{a b:Addr}{Q:Value->Shared->Prop}(ty:s.TypeIs (.ref a) "set")(h:wpAny (model prog w) A.in1 (setAdd a (.ref b)) (λ_ s'=>Q .none s') E s):wpAny (model prog w) A (call (.builtin "set.add") [.ref a,.ref b]) Q E s:=by
 refine JO F.slot_set_add ty F.entry_set_add ?_ (F.args_set_add_2 _ _)
 unfold Y4.«set.add»;refine wpAny_bind ?_
 obtain⟨hp,g,d,tk,os⟩:=s;unfold Qr6;generalize setAdd=SA at h ⊢
 wp_walk
 refine wpAny_mono h (λ_ s' q=>?_) λ_ _ e=>e
 exact wpAny_pure ⟨_,rfl,q⟩
end
end Zt
namespace L2
open Zt
theorem QhP(elt target iter:QZ)(ifs:List QZ)(scope:Yk)(pos:Pos)(it acc:Value)(env:Env) :
  compTurn (.SetComp elt [⟨target,iter,ifs,0⟩] scope pos) 0 it acc env=(do
   standAt iter.pos
   let r <- pyNext it
   match r with
   |none=>pure (.done .next)
   |some v=>
    letOwnedTupleGo target it v
    assign target env v
    let ok <- Qiu ifs env
    if ok then
     (do let x <- eval elt env;standAt elt.pos;let _ <- call (.builtin "set.add") [acc,x])
    again (.compLoop (.SetComp elt [⟨target,iter,ifs,0⟩] scope pos) 0 it acc env)):=by rfl
section
variable{prog:QB}{w:Q8}{A:Q2}{R:QrW->Shared->Prop}{s:Shared}
theorem QbY{elt target iter ifs rest scope pos it acc env}
  (h0:codeAny (model prog w) A (.compLoop (.SetComp elt (⟨target,iter,ifs,0⟩::rest) scope pos) 0 it acc env) R s)
  (h:wpAny (model prog w) A (pyIter it) (λit' s'=>codeAny (model prog w) A (.compLoop (.SetComp elt (⟨target,iter,ifs,0⟩::rest) scope pos) 0 it' acc env) R s') (notedBy (model prog w) A env λx s'=>R (.error x) s') s) :
  codeAny (model prog w) A (.compStart (.SetComp elt (⟨target,iter,ifs,0⟩::rest) scope pos) 0 it acc env) R s:=by
 refine Qd0 ?_
 show wpAny _ _ ((compStart (.SetComp elt (⟨target,iter,ifs,0⟩::rest) scope pos) 0 it acc env).onRaise (λx=>do noteFrame x env;standAt theWindowsPlace)) _ _ s;refine wpAny_notedAt ?_
 unfold compStart;show wpAny _ _ (ask >>= _) _ _ s;refine wpAny_bind (ZK (wpAny_ite ?_));split
 ·first | exact wpAny_bind (wpAny_pure (wpAny_pure (Qum rfl h0))) | exact wpAny_pure (Qum rfl h0)
 ·refine wpAny_bind (wpAny_rule ?_);show wpAny _ _ (standAt iter.pos >>= _) _ _ s;refine wpAny_bind (wpAny_standAt (wpAny_bind (wpAny_mono h (λit2 s2 q=>wpAny_pure (Qum rfl q)) λ_ _ e=>e)))
end
def QnF(Y:Cx)(elt:QZ)(D:Addr):Act:=λQ s=>wpAny (model Y.prog Y.w) Y.A (eval elt Y.env) (λv s6=>wpAny (model Y.prog Y.w) Y.A (call (.builtin "set.add") [.ref D,v]) (λ_ s7=>Q s7) (λ_ _=>False) s6) (λ_ _=>False) s
def Qwr(P:QB)(W:Q8)(p:Addr)(te:TE):St->Hp->(Hp->Prop)->Prop:=λσ H k=>te σ H λv H6=>∃(ks:List Int)(b:Addr)(ps:List (List Int×Addr)),v=.ref b/\H6 p=some (.ext (Qf4 P W p ps (ledOf W)))/\(∀q∈ps,H6 q.2=some (.tup (q.1.map V.int)))/\H6 b=some (.tup (ks.map V.int))/\ps.length<1200/\(ks∈ps.map (·.1)->k (upd H6 p (.ext (Qf4 P W p ps (ledOf W)))))/\(ks∉ps.map (·.1)->∀ps',ps'.Perm ((ks,b)::ps)->k (upd H6 p (.ext (Qf4 P W p ps' (ledOf W)))))
theorem QiA{P:QB}{W:Q8}{H:Hp}{h:Heap}{a:Addr}{ps:List (List Int×Addr)}{led:Bool}(x:Qf4 P W a ps led h):ObjOk P W H h a (.ext (Qf4 P W a ps led)):=by
 refine⟨x,?_,λh1 h2 x k=>?_⟩
 ·obtain⟨es,ep,t,sa,_⟩:=x;obtain⟨o,ho,_⟩:=sa.at_;exact⟨o,ho⟩
 ·obtain⟨es,ep,t,sa,r⟩:=x;exact⟨es,ep,t,sa.at' k,r⟩
theorem Qoi{X:Cx}{pins:List (Addr×Obj)}{σ:St}{H:Hp}{s:Shared}(I:Inv X pins σ H s):Inv X pins σ (upd H s.heap.objs.size (.ext (Qf4 X.prog X.w s.heap.objs.size [] (ledOf X.w)))) { s with heap:=s.heap.push { cls:=.type "set",dict:=none,data:=.set #[] 0 (.fresh 0 0 (ledOf X.w)) } }:=by
 refine I.laid (t':=s.toks) (λb x e=>Qc _ e) (Qg _) (QiA ⟨#[],0,YM 0 0 (ledOf X.w),⟨⟨_,Qu _ rfl,⟨rfl,rfl,rfl⟩,rfl⟩,by cases ledOf X.w<;>rfl⟩,Qlo _,rfl,rfl,Qh7,λi j e h=>?_,.inl rfl,by show 0*5<7*3;decide⟩);simp[YM] at h
theorem Qnu{Y:Cx}{σ:St}{elt:QZ}{te:TE}{D:Addr}(hx:Y.xe=λ_ _=>False)(hu:Y.A.units+60<cLine)(he:PE Y elt te):BodyOk Y σ (QnF Y elt D) (Qwr Y.prog Y.w D te σ):=by
 intro pins s H k Q I h hQ;have hx':∀(v:Value)(s':Shared),Y.xe v s'->False:=λv s' z=>by rw[hx] at z;exact z
 refine wpAny_mono (he pins s σ H _ I h) (λv s6 ⟨y,H6,I6,r6,ks,b,ps,ey,eD,hps,eb,hl,k1,k2⟩=>?_) hx';subst ey;cases r6;obtain⟨sq,_,_⟩:=(show ObjOk Y.prog Y.w H6 s6.heap D (.ext _) from I6.hok D _ eD);obtain⟨es,ep,t,sa,tb,led,ent,nd,rch,mks,few⟩:=sq;have x:Zt.TS Y.prog Y.w s6.heap D es ep t ps:=⟨sa,tb,ent,λq hq=>key_of I6 (hps q hq),nd,rch,mks,few⟩;obtain⟨o,ho,hex,hd⟩:=sa.at_;have mu:Mut (H6 D):=by rw[eD];exact QbG
 refine call_add ⟨o,ho,hex.1⟩ (addTB x (by show Y.A.units+1<cLine;omega) (key_of I6 eb) hl (λhin tk=>?_) λhno h' es' ep' t' ps' tk x' pp led' sb=>?_)
 ·refine hQ _ _ ?_ (k1 hin)
  exact I6.write (t':=tk) (x:=D) (e:=D) mu (.inl rfl) (λb u hb z=>z) ⟨o,ho⟩ (QiA ⟨es,ep,t,sa,tb,led,ent,nd,rch,mks,few⟩)
 ·refine hQ _ _ ?_ (k2 hno ps' pp)
  obtain⟨o',ho',_⟩:=x'.at_.at_;exact I6.write (t':=tk) (x:=D) (e:=D) mu (.inl rfl) (λb u hb z=>(sb.2 b hb).trans z) ⟨o',ho'⟩ (QiA (Qsk x' (led'.trans led)))
def Quv(P:QB)(W:Q8)(cap:List (Option Nat))(wi:TI)(g:TG)(tc:TT)(te:TE):TE:=λσ H Q=>wi σ H λJ H1=>∀p,H1 p=none->QfZ J (bOf (Qdo cap σ) g tc (Qwr P W p te)) (Q (.ref p)) (upd H1 p (.ext (Qf4 P W p [] (ledOf W))))
theorem Qku{Y:Cx}{σ:St}{tg:QZ}{elt:QZ}{gens:List QcU}{scope:Yk}{cpos:Pos}{d:Nat}{it D:Addr}{fp:List Addr}{tn:Nat->Heap->Prop}{J:It}{pins:List (Addr×Obj)}{s:Shared}{H:Hp}{body:V->Hp->(Hp->Prop)->Prop}{Qn:Hp->Prop}{R:QrW->Shared->Prop}{act:Value->Act}
  (hc:Y.calm=true)(T:Turn Y.prog Y.w Y.K tg J fp it tn)(st:tn 0 s.heap)(hf:∀b∈fp,FpOk Y pins H b)
  (hturn:∀(Q:PySem.Fin->Shared->Prop)(E:Value->Shared->Prop)(s:Shared),wpAny (model Y.prog Y.w) Y.A (pyNext (.ref it)) (λr s1=>match r with
   |none=>Q (.done .next) s1
   |some v=>wpAny (model Y.prog Y.w) Y.A (letOwnedTupleGo tg (.ref it) v) (λ_ s2=>act v (λs3=>Q (.again (.compLoop (.SetComp elt gens scope cpos) d (.ref it) (.ref D) Y.env)) s3) s2) E s1) E s ->
   wpAny (model Y.prog Y.w) Y.A (compTurn (.SetComp elt gens scope cpos) d (.ref it) (.ref D) Y.env) Q E s)
  (hact:∀(x:V)(u:Value),RelV x u->BodyOk Y σ (act u) (body x))
  (I:Inv Y pins σ H s)(h:QfZ J body Qn H)(hR:∀s' H',Inv Y pins σ H' s'->Qn H'->R (.ok .next) s') :
  codeAny (model Y.prog Y.w) Y.A (.compLoop (.SetComp elt gens scope cpos) d (.ref it) (.ref D) Y.env) R s:=by
 obtain⟨W,⟨m0,w0⟩,turn⟩:=h;have stat:∀{H':Hp},(∀b∈fp,H' b=none)->∀b∈fp,FpOk Y pins H' b:=λhn b hb=>⟨hn b hb,(hf b hb).2⟩
 refine codeAny_loop rfl (λn s'=>∃i H',Inv Y pins σ H' s'/\tn i s'.heap/\(∀b∈fp,H' b=none)/\W i n H') (λn s3 hI=>?_) m0 ⟨0,H,I,st,λb hb=>(hf b hb).1,w0⟩;show wpAny _ Y.A ((compTurn (.SetComp elt gens scope cpos) d (.ref it) (.ref D) Y.env).onRaise (λx=>do noteFrame x Y.env;theTreesLotGoes x)) _ _ s3;refine wpAny_noted (hturn _ _ _ ?_);obtain⟨i,H3,I3,st3,fr3,w3⟩:=hI;rcases turn i n H3 w3 with⟨stop,qn⟩ | ⟨go,step⟩
 ·refine thn (T.done Y rfl rfl rfl hc i pins s3 σ H3 _ I3 (stat fr3) st3 stop) λr s4 ⟨hr,I4⟩=>?_
  subst hr;exact hR s4 H3 I4 qn
 ·refine thn (T.item Y rfl rfl rfl hc i pins s3 σ H3 _ I3 (stat fr3) st3 go) λr s4 ⟨u,hr,h4⟩=>?_
  subst hr;refine thn h4 λ_ s5 ⟨x,H5,I5,r5,y5,st5,fr5⟩=>?_
  have I5':=I5.pinned (stat fr5) (T.obj _ _ st5);refine hact x u r5 _ s5 H5 _ _ I5' (step x H5 y5) λs7 H7 I7 ⟨m',hm,w7⟩=>?_
  refine⟨rfl,m',hm,i+1,H7,I7.unpinned,T.keep _ _ _ st5 λb hb o e=>(I7.pin (b,o) (QM _ (QM _ (QaI hb e)))).1,λb hb=>?_,w7⟩;obtain⟨o,e,dd⟩:=T.obj _ _ st5 b hb;exact(I7.pin (b,o) (QM _ (QM _ (QaI hb e)))).2.1
theorem Qlr{Y:Cx}{elt tg iter:QZ}{ifs:List QZ}{scope:Yk}{cpos:Pos}{it D:Addr}(Q:PySem.Fin->Shared->Prop)(E:Value->Shared->Prop)(s:Shared)
  (h:wpAny (model Y.prog Y.w) Y.A (pyNext (.ref it)) (λr s1=>match r with
   |none=>Q (.done .next) s1
   |some v=>wpAny (model Y.prog Y.w) Y.A (letOwnedTupleGo tg (.ref it) v) (λ_ s2=>QnD Y tg ifs (QnF Y elt D) v (λs3=>Q (.again (.compLoop (.SetComp elt [⟨tg,iter,ifs,0⟩] scope cpos) 0 (.ref it) (.ref D) Y.env)) s3) s2) E s1) E s) :
  wpAny (model Y.prog Y.w) Y.A (compTurn (.SetComp elt [⟨tg,iter,ifs,0⟩] scope cpos) 0 (.ref it) (.ref D) Y.env) Q E s:=by
 rw[QhP];refine wpAny_bind (wpAny_standAt (wpAny_bind (thn h λr s1 h1=>?_)));cases r with
 |none=>exact wpAny_pure h1
 |some v=>
  refine wpAny_bind (thn h1 λ_ s2 h2=>?_);refine wpAny_bind (wpAny_mono h2 (λ_ s4 h4=>wpAny_bind (wpAny_mono h4 (λok s5 h5=>?_) λ_ _ f=>f.elim)) λ_ _ f=>f.elim);cases ok with
  |false=>exact wpAny_pure h5
  |true=>exact wpAny_bind (wpAny_bind (wpAny_mono h5 (λx s6 h6=>wpAny_bind (wpAny_standAt (wpAny_bind (wpAny_mono h6 (λ_ s7 h7=>wpAny_pure (wpAny_pure h7)) λ_ _ f=>f.elim)))) λ_ _ f=>f.elim))
theorem Qoz{X:Cx}{M:List Str}{cap:List (Option Nat)}{elt tg iter:QZ}{ifs:List QZ}{scope:Yk}{pos:Pos}{wi:TI}{g:TG}{tc:TT}{te:TE}{i:Nat}{y:Str}{py spos:Pos}(hN:X.N.Nodup)(hiy:X.N[i]? = some y)(hly:X.env.scope.names.lookup y=some .local)(hu:X.A.units+60<cLine)(hc:X.calm=true)(ok:Qfe X.N X.env.scope M scope cap=true)
  (hi:PI X tg iter wi)(hb:∀cl ex s3 H3 C,PG (blk X M scope cl ex s3 H3 C) tg g/\PTs (blk X M scope cl ex s3 H3 C) ifs tc/\PE (blk X M scope cl ex s3 H3 C) elt te)
  (hs:∀x,foldedSetIterable iter X.env x=pure x:=by intro _;rfl)(hsw:swapsWith (.SetComp elt [⟨tg,iter,ifs,0⟩] scope pos) (some (.Name y py)) spos.line X.env=pure true:=by rfl):PS X (.Assign [.Name y py] (.SetComp elt [⟨tg,iter,ifs,0⟩] scope pos) spos) (QpZ (Quv X.prog X.w cap wi g tc te) (QcA i)):=by
 intro pins s σ H D I h;have c:=CapOk.of ok;rw[QdZ _ _ _ _ hsw];refine wpAny_bind (wpAny_standAt (wpAny_bind ?_));show wpAny _ X.A (do let _ <- comprehension (.SetComp elt [⟨tg,iter,ifs,0⟩] scope pos) scope X.env _ (newSet (.type "set")) false (eval iter X.env) (some (assign (.Name y py) X.env))) _ _ s;refine wpAny_bind (wpAny_mono (Qav (use:=some (assign (.Name y py) X.env)) (Q:=λ_ s'=>SP X pins D .next s') rfl hs (QgC (I.ok.cells c)) c.kind c.loc ?_) (λ_ s' hq=>wpAny_pure (wpAny_pure hq)) λ_ _ e=>e);refine thn (hi pins s σ H _ I h) λv s1 h1=>thn h1 λitv s2 h2=>?_
 obtain⟨it,fp,tn,J,H2,e,I2,T,st2,f2,hW⟩:=h2;subst e;refine Qta (Qbh c.cell (by intro y hy;simp at hy) (λh₁ hns₁ hsb₁=>?_) c.kind);have I3:Inv X pins σ (upd H2 s2.heap.objs.size (.ext (Qf4 X.prog X.w s2.heap.objs.size [] (ledOf X.w)))) { s2 with heap:=s2.heap.push { cls:=.type "set",dict:=none,data:=.set #[] 0 (.fresh 0 0 (ledOf X.w)) } }:=Qoi I2;have lt2:∀b∈fp,b<s2.heap.objs.size:=λb hb=>by obtain⟨o,e,_⟩:=T.obj _ _ st2 b hb;exact Qo e
 have f3:∀b∈fp,FpOk X pins (upd H2 s2.heap.objs.size (.ext (Qf4 X.prog X.w s2.heap.objs.size [] (ledOf X.w)))) b:=λb hb=>(f2 b hb).upd (QC (lt2 b hb))
 generalize hs3:({ s2 with heap:=s2.heap.push { cls:=.type "set",dict:=none,data:=.set #[] 0 (.fresh 0 0 (ledOf X.w)) } }:Shared)=s3 at I3;have e3:s3.heap=s2.heap.push { cls:=.type "set",dict:=none,data:=.set #[] 0 (.fresh 0 0 (ledOf X.w)) }:=by rw[<- hs3]
 have z3:s3.heap.objs.size=s2.heap.objs.size+1:=by rw[e3,JH]
 have hk:∀b o,s3.heap.get? b=some o->h₁.get? b=some o:=λb o e=>hsb₁.extBut b o (by
  have:=Qo e;rw[e3] at this;exact QC this) (Qc _ (e3 ▸ e))
 have hn₁:h₁.Ns s3.heap.objs.size λ_=>none:=by rw[e3];exact hns₁
 have B:=Qdd (t4:=s3.toks+([]:List (Str×Value)).length) (fp:=fp) I3 c f3 (λb hb=>by rw[z3];exact ZM (lt2 b hb)) hn₁ hk;have st4:tn 0 h₁:=T.keep _ _ _ st2 λb hb o e=>hk b o (by rw[e3];exact Qc _ e)
 have fp4:∀b∈fp,FpOk (blk X M scope (Qby X.env scope.names []) fp s3 (upd H2 s2.heap.objs.size (.ext (Qf4 X.prog X.w s2.heap.objs.size [] (ledOf X.w)))) s3.heap.objs.size) [] (upd H2 s2.heap.objs.size (.ext (Qf4 X.prog X.w s2.heap.objs.size [] (ledOf X.w)))) b:=λb hb=>by
  refine⟨(f3 b hb).1,(B.ok.exf b hb).1,B.ok.exfs b hb,.inl hb,(B.ok.exf b hb).2,λp hp=>(nomatch hp)⟩
 obtain⟨hg,ht,he⟩:=hb (Qby X.env scope.names []) fp s3 (upd H2 s2.heap.objs.size (.ext (Qf4 X.prog X.w s2.heap.objs.size [] (ledOf X.w)))) s3.heap.objs.size;have loop:codeAny (model X.prog X.w) X.A (.compLoop (.SetComp elt [⟨tg,iter,ifs,0⟩] scope pos) 0 (.ref it) (.ref s2.heap.objs.size) (compEnvC scope (Qby X.env scope.names []) s3.heap.objs.size X.env))
   (compPost (model X.prog X.w) X.A X.xe (some (assign (.Name y py) X.env)) (λ_ s'=>SP X pins D .next s') (.ref s2.heap.objs.size) s3.heap.objs.size) { s3 with heap:=h₁,toks:=s3.toks+([]:List (Str×Value)).length }:=by
  refine Qku (Y:=blk X M scope (Qby X.env scope.names []) fp s3 (upd H2 s2.heap.objs.size (.ext (Qf4 X.prog X.w s2.heap.objs.size [] (ledOf X.w)))) s3.heap.objs.size) (gens:=[⟨tg,iter,ifs,0⟩]) (d:=0) hc T st4 fp4
   (λQ E s h=>Qlr Q E s h) (λx u r=>QeY rfl hg ht (λσ4=>Qnu rfl (show X.A.units+60<cLine from hu) he) x u r) B (hW _ (I2.hok.fresh (Qg _))) λs' H' I' q=>?_
  exact Qa5 (Q:=λ_ s'=>SP X pins D .next s') I3 f3 I' hN hiy hly λs2' J2=>⟨_,H',J2,q⟩
 exact QbY loop (T.self _ 0 _ _ _ st4 loop)
end L2
namespace L2
open Zt _root_.Rd _root_.Rk Dl Rt
section
variable{X:Cx}
def QuP(prog:QB)(w:Q8):List V->Hp->VK->Prop:=λxs H Q=>∃(a:Addr)(ps:List (List Int×Addr)),xs=[.ref a]/\ps.length<=1000/\H a=some (.ext (Qf4 prog w a ps (ledOf w)))/\(∀p∈ps,H p.2=some (.tup (p.1.map V.int))) /\
 ∀(t:Addr)(ys:List V)(es:List Qa)(H2:Hp),Same H H2->H t=none->H2 t=some (.lst ys)->Dats H2 ys es->es.Perm (ps.map λp=>tN p.1)->es.Pairwise (λa b=>ltD b a=false)->(∀y∈ys,y∈ps.map λp=>V.ref p.2)->Q (.ref t) H2
theorem QkT(hc:X.calm=true)(hu:X.A.units+60<cLine):CallR X (.builtin "sorted") (QuP X.prog X.w):=by
 intro pins s σ H xs us Q I r h;obtain⟨a,ps,rfl,h300,ha,hps,q⟩:=h;obtain⟨u,rfl,ru⟩:=vals1 r;cases ru;obtain⟨hS,_⟩:=I.hok a _ ha;refine Qev (I.ok.hd hc) (by omega) (QuC hS) λh' tk ps' pp kp P E' hP=>?_
 have hps':∀p∈ps',H p.2=some (.tup (p.1.map V.int)):=λp hp=>hps p (pp.mem_iff.mp hp)
 refine Qhe hu I (Qew ps') (by rw[Qf,pp.length_eq];exact Zz (Rk.QaN (by omega))) (QeT hps') (by have:=QcZ (ps'.map (·.1));rw[Je] at this;exact this) (λt ys es H2 s2 n2 e2 dt pe pw hy=>?_) h' tk kp P E' hP;exact q t ys es H2 s2 n2 e2 dt (pe.trans (pp.map _)) pw λy hy'=>(pp.map _).mem_iff.mp (hy y hy')
end
end L2
namespace L2
def QrK(N:List Str)(sc:Yk)(M:List Str)(scope:Yk)(cap:List (Option Nat)):Bool:=
 cap.length == M.length&&(M.zip cap).all (λ(x,o)=>match o with
  |none=>true
  |some j=>N[j]? == some x&&(scope.names.lookup x == some .free&&(sc.names.lookup x == some .cell||sc.names.lookup x == some .free))) &&
 (scope.kind == .function&&scope.names.all λy=>(y.2 != .cell||scope.names.lookup y.1 == some .cell)&&((y.2 != .free||(sc.names.lookup y.1 == some .cell||sc.names.lookup y.1 == some .free))&&(y.2 != .local||scope.names.lookup y.1 == some .local)))
structure CapOkC (N:List Str) (sc:Yk) (M:List Str) (scope:Yk) (cap:List (Option Nat)):Prop where
 len:cap.length=M.length
 own:∀(i j:Nat)(x:Str),M[i]? = some x->cap[i]? = some (some j)->N[j]? = some x/\scope.names.lookup x=some .free/\(sc.names.lookup x=some .cell∨sc.names.lookup x=some .free)
 kind:scope.kind=.function
 cell:∀y∈scope.names,y.2=.cell->scope.names.lookup y.1=some .cell
 free:∀y∈scope.names,y.2=.free->sc.names.lookup y.1=some .cell∨sc.names.lookup y.1=some .free
 loc:∀y∈scope.names,y.2=.local->scope.names.lookup y.1=some .local
theorem CapOkC.of{N:List Str}{sc:Yk}{M:List Str}{scope:Yk}{cap:List (Option Nat)}(h:QrK N sc M scope cap=true):CapOkC N sc M scope cap:=by
 unfold QrK at h;simp only[JF,Jm,beq_iff_eq] at h;obtain⟨⟨h1,h2⟩,h3,h4⟩:=h;refine⟨h1,λi j x e1 e2=>?_,h3,λy hy z=>?_,λy hy z=>?_,λy hy z=>?_⟩
 ·have hm:(x,some j)∈M.zip cap:=by
   have:(M.zip cap)[i]? = some (x,some j):=by rw[Qh8];exact⟨e1,e2⟩
   exact QD this
  have:=h2 _ hm;simp only[JF,beq_iff_eq,QgR] at this;exact this
 ·have:=(h4 y hy).1
  simpa [z] using this
 ·have:=(h4 y hy).2.1
  simpa [z] using this
 ·have:=(h4 y hy).2.2
  simpa [z] using this
section
variable{X:Cx}{pins:List (Addr×Obj)}{σ:St}{H H3:Hp}{s3:Shared}{M:List Str}{scope:Yk}{cap:List (Option Nat)}{fp:List Addr}{h4:Heap}{t4:Nat}
end
section
variable{X:Cx}{pins:List (Addr×Obj)}{σ:St}{H:Hp}
end
end L2
namespace Rk
open L2 _root_.Rd Dl
end Rk
namespace Dl
open L2
section
variable{X:Cx}{E:XK}
end
end Dl
namespace Rk
open L2 _root_.Rd
def top(i:Nat):Y3:=PySem.Challenge.pw_rooklands_k64_stairs_of_the_same_heads.main.body.getD i (.Pass ⟨0,0,0,0⟩)
abbrev Qfp:Y3:=top 5
abbrev Qdv:Y3:=top 6
abbrev Qfs:Y3:=top 7
abbrev Qkx:Y3:=top 10
abbrev sOth:Y3:=top 11
abbrev Qdw:Y3:=top 13
abbrev Qkw:Y3:=top 14
abbrev Qft:Y3:=top 16
abbrev Qfq:Y3:=top 17
abbrev QiB:Y3:=top 18
abbrev sNBy:Y3:=top 19
abbrev Qfr:Y3:=top 20
abbrev sIsR:Y3:=top 21
abbrev QdE:Y3:=top 23
abbrev lPot:Y3:=top 24
abbrev QkO:Y3:=top 25
abbrev QdV:Y3:=top 26
abbrev QkP:Y3:=top 27
abbrev QdD:Y3:=top 28
abbrev QdC:Y3:=top 29
abbrev QfI:Y3:=top 30
abbrev QfH:Y3:=top 31
abbrev lAll:Y3:=top 32
abbrev sLaw:Y3:=top 33
section
variable{P:QB}{w:Q8}{K:PySem.W.Frag}{mg:Str->Option Value}{base:Heap}
theorem Qoo:J3 ["_law_script", "_law_k"] ["_law_script", "_law_k"] (QJ QdE):=⟨rfl,rfl,rfl,by decide +kernel,rfl,by decide +kernel,by decide +kernel⟩
theorem Qmi{f:Addr}{fd:Q1}(F:Fun K "_law_cell_at" "_law_cell_at" QdE f fd)(T:GlbA mg):FnOk P w K mg base CX0 1 f fd ["_law_script", "_law_k"] (QcY K):=by
 refine F.ok Qoo (λvs H Q E h=>?_) (λcdv A outer s H vs Q E hr h=>?_)
 ·obtain⟨a,ns,k,rfl,_⟩:=h;rfl
 ·obtain⟨a,ns,n,rfl,hs,hl,h0,k⟩:=h;refine⟨_,Zs (Qho (QbQ Qvs (pv 1) (Zo Y2 (by rfl) T.len QbZ (Jr (pv 0) JN)) (Z1 _)) (Yd (Qar (QlY Qgp (pv 0) (pv 1) (λ_ _=>rfl)))) QbR) (Yd (Qar YA)),?_⟩;refine⟨_,rfl,_,rfl,a,_,rfl,.inl hs,_,_,rfl,rfl,_,rfl,?_⟩;refine QyF (λhlt=>?_) (λ_=>k 0);have hlt':n<(ns.map V.int).length:=of_decide_eq_true hlt;rw[Qf] at hlt';obtain⟨j,rfl⟩:=Int.eq_ofNat_of_zero_le h0;have hj:j<ns.length:=by omega
  refine⟨_,rfl,_,rfl,a,_,_,.int ns[j],rfl,rfl,hs,Qb0 ?_,k _⟩;rw[Qy,Qd hj];rfl
theorem Qkv:J3 ["_law_cell", "_law_number", "_law_j", "_law_more"] ["_law_cell"] (QJ lPot):=⟨rfl,rfl,rfl,by decide +kernel,rfl,by decide +kernel,by decide +kernel⟩
theorem Qvz{f:Addr}{fd:Q1}(F:Fun K "_law_pot" "_law_pot" lPot f fd)(T:GlbA mg):FnOk P w K mg base CX0 1 f fd ["_law_cell"] Qux:=by
 refine F.ok Qkv (λvs H Q E h=>?_) (λcdv A outer s H vs Q E hr h=>?_)
 ·obtain⟨c,rfl,_⟩:=h;rfl
 ·obtain⟨c,rfl,k⟩:=h;refine⟨_,Zs (Qho (QbQ Qs1 (pv 0) (Qbf Qrl YA YA) (Z1 _)) (Yd (Qar (Qri (Jr (Qbf Ql7 (pv 0) (Qbf Qrl YA YA)) JN)))) QbR)
   (Zs (Qbx (i:=1) Qkv.nd rfl (Jw rfl) YA)
   (Zs (QjB ZH rfl (Qc3 (by rfl) T.range (Jr YA JN)) (Qa8 (i:=2) Qkv.nd rfl (Jw rfl))
    (Zs (Qbx (i:=3) Qkv.nd rfl (Jw rfl) (Qbf QjF (Qbf QfA (Qbf QfB (Qbf QfB (Qbf QjF (pv 0) YA) (Qbf QfA YA (pv 2))) YA) YA) YA))
    (Zs (Qbx (i:=3) Qkv.nd rfl (Jw rfl) (Qbf QjF (Qbf QfB (Qbf QfB (Qbf QfA (pv 3) (pv 3)) (Qbf QfA YA (pv 2))) YA) YA))
    (Yd (Qbx (i:=1) Qkv.nd rfl (Jw rfl) (Qbf QfB (Qbf QfA (pv 1) YA) (pv 3)))))))
   (Yd (Qar (Qri (Jr (pv 1) JN)))))),?_⟩
  refine⟨_,rfl,_,_,rfl,rfl,⟨by decide,by decide,by decide⟩,_,_,rfl,rfl,_,rfl,?_⟩;refine QyF (λ_=>?_) (λ_=>?_)
  ·exact⟨_,rfl,_,_,rfl,rfl,⟨by decide,by decide,by decide⟩,_,_,rfl,rfl,by show 1<=sizeLine;decide,λp hp=>k p _ hp⟩
  ·refine⟨64,rfl,by decide,by decide,QhJ (n:=64) (λi σ H2=>∃n v u,σ=[some (.int c),some (.int n),v,u]/\H2=H) ⟨0,none,none,rfl,rfl⟩ ?_ ?_⟩
   ·rintro i σ H2 hi ⟨n,v,u,rfl,rfl⟩;have b1:=Qj1 ((c % 2147483629+7919*(0+(i:Int))+1)*48271) (m:=2147483647) (by decide);refine⟨_,rfl,_,_,rfl,rfl,by show(0:Int)<2147483629;decide,_,rfl,_,_,rfl,rfl,.inl ⟨by decide,by decide⟩,_,_,rfl,rfl,_,_,rfl,rfl,_,_,rfl,rfl,.inr ⟨by decide,by decide⟩,_,_,rfl,rfl,by show(0:Int)<2147483647;decide,?_⟩;refine⟨_,rfl,_,rfl,_,_,rfl,rfl,.inl ⟨by omega,by omega⟩,_,rfl,_,_,rfl,rfl,.inl ⟨by decide,by decide⟩,_,_,rfl,rfl,_,_,rfl,rfl,_,_,rfl,rfl,by show(0:Int)<2147483587;decide,?_⟩;exact⟨_,rfl,_,_,rfl,rfl,.inr ⟨by decide,by decide⟩,_,rfl,_,_,rfl,rfl,_,_,_,rfl,rfl⟩
   ·rintro σ H2 ⟨n,v,u,rfl,rfl⟩;exact⟨_,rfl,by show 1<=sizeLine;decide,λp hp=>k p _ hp⟩
theorem Qp4:J3 ["_law_pot_here", "_law_far", "_law_found"] ["_law_pot_here", "_law_far"] (QJ QkO):=⟨rfl,rfl,rfl,by decide +kernel,rfl,by decide +kernel,by decide +kernel⟩
theorem Qs3{f:Addr}{fd:Q1}(F:Fun K "_law_take" "_law_take" QkO f fd)(T:GlbA mg):FnOk P w K mg base CX0 1 f fd ["_law_pot_here", "_law_far"] Qjw:=by
 refine F.ok Qp4 (λvs H Q E h=>?_) (λcdv A outer s H vs Q E hr h=>?_)
 ·obtain⟨p,n,m,rfl,_⟩:=h;rfl
 ·obtain⟨p,n,m,rfl,hp,h0,h1,k⟩:=h;refine⟨_,Zs (Qbx (i:=2) Qp4.nd rfl (Jw rfl) (Qbf QjF (QlY Qgp (pv 0) YA (λ_ _=>rfl)) (pv 1)))
   (Zs (Qu5 (Qbf Qo2 (QlY Qgp (pv 0) YA (λ_ _=>rfl)) (pv 1)) (Qu7 (pv 0) YA Qoh))
   (Yd (Qar (pv 2)))),?_⟩
  have b:=Qj1 n h0;exact⟨_,rfl,p,_,_,_,rfl,rfl,SqL.of hp,rfl,_,rfl,_,_,rfl,rfl,h0,_,rfl,p,_,_,_,rfl,rfl,SqL.of hp,rfl,_,rfl,_,_,rfl,rfl,⟨h0,h1⟩,_,rfl,p,_,_,_,rfl,rfl,hp,rfl,_,rfl,k _ _ b.1 b.2⟩
end
end Rk
namespace Rk
open L2 _root_.Rd
open Dl
open Rt
def Qgl:DF:=λargs R _=>∃n:Int,args=[.pot,.v (.int n),.v (.int 6)]/\1<=n/\n<=6/\∀ns,Qat ns->(ns.length:Int)=n->R (tI ns)
def QdX:DF:=λargs R _=>∃ns,args=[.v (tI ns)]/\Qat ns/\∀ms:List Int,ms.Perm (hdL ns)->ms.Pairwise (·<=·)->R (.list (ms.map Qk))
def QwQ:DF:=λargs R _=>∃(hs:List Int)(o:List Nat),args=[.v (.list (hs.map Qk)),.v (tNn o)]/\o.length<=6/\(∀x∈o,x<hs.length)/\R (tI (nbI hs o))
theorem Qm4(ns:List Int):(Qgx (ns.map Qk)).map (λd=>match d with | .tuple [.int p,.int n]=>Qk (n - p) | _=>.none)=(hdL ns).map Qk:=by
 unfold Qgx hdL;rw[Je,Je,Qf];refine JX λi hi=>?_
 have hi:=QU.mp hi;have e:(ns.map Qk).getD i .none=.int (ns.getD i 0):=by
  rw[Ql,Qy,Qd hi,Ql,Qd hi];rfl
 show(match Zk [.int i,(ns.map Qk).getD i .none] with | .tuple [.int p,.int n]=>Qk (n - p) | _=>.none)=_;rw[e];rfl
theorem Qjt(o:List Nat):(Qdn o).map (λe=>(toI e).toNat)=o:=by
 unfold Qdn;rw[Je]
 conv=>rhs;rw[<- Qba o]
 exact JX λx _=>by show((x:Int)).toNat=x;omega
theorem Qm3(hs:List Int)(o:List Nat):(Qgx (Qdn o)).map (λd=>match d with | .tuple [.int p,.int a]=>Qk (hs.getD a.toNat 0+p) | _=>.none)=(nbI hs o).map Qk:=by
 unfold Qgx nbI Qdn;rw[Je,Je,Qf];refine JX λi hi=>?_
 have hi:=QU.mp hi;have e:(o.map λ(c:Nat)=>Qk (c:Int)).getD i .none=.int ((o.getD i 0:Nat):Int):=by
  rw[Ql,Qy,Qd hi,Ql,Qd hi];rfl
 show(match Zk [.int i,(o.map λ(c:Nat)=>Qk (c:Int)).getD i .none] with | .tuple [.int p,.int a]=>Qk (hs.getD a.toNat 0+p) | _=>.none)=_;rw[e];show Qk (hs.getD ((o.getD i 0:Nat):Int).toNat 0+(i:Int))=_;rw[Yb];rfl
section
variable{P:QB}{w:Q8}{K:PySem.W.Frag}{mg:Str->Option Value}{base:Heap}
theorem Qoj:J3 ["thing"] ["thing"] (QJ Qfp):=⟨rfl,rfl,rfl,by decide +kernel,rfl,by decide +kernel,by decide +kernel⟩
theorem Qo3{f   : Addr}{fd  : Q1}(F:Fun K "is_whole" "is_whole" Qfp f fd)(T:GlbA mg) :
  FnOk P w K mg base CX0 1 f fd ["thing"] (ZW false Qg6):=by
 refine okQ false F Qoj (λargs R EX h=>?_) (λcdv A outer s H E hr=>?_)
 ·obtain⟨d,rfl,_⟩:=h;rfl
 ·have hU:=Room.u60 hr;have hI:=Room.i60 hr;refine⟨_,Zb (QbP (Qox (JL (Qhm .int (by rfl) T.isinstance (qp 0) (by rfl) T.int QhU)) (QiK (QuZ (JL (Qhm .bool (by rfl) T.isinstance (qp 0) (by rfl) T.bool QeX)))))),λargs R EX h=>?_⟩;obtain⟨d,rfl,hR⟩:=h;cases d<;>exact hR
theorem QlD:J3 ["_law_found"] ["_law_found"] (QJ QdV):=⟨rfl,rfl,rfl,by decide +kernel,rfl,by decide +kernel,by decide +kernel⟩
theorem Qmg{f   : Addr}{fd  : Q1}(F:Fun K "_law_whole" "_law_whole" QdV f fd)(T:GlbA mg) :
  FnOk P w K mg base CX0 1 f fd ["_law_found"] (ZW false Qg6):=by
 refine okQ false F QlD (λargs R EX h=>?_) (λcdv A outer s H E hr=>?_)
 ·obtain⟨d,rfl,_⟩:=h;rfl
 ·have hU:=Room.u60 hr;have hI:=Room.i60 hr;refine⟨_,Zb (QbP (Qox (JL (Qhm .int (by rfl) T.isinstance (qp 0) (by rfl) T.int QhU)) (QiK (QuZ (JL (Qhm .bool (by rfl) T.isinstance (qp 0) (by rfl) T.bool QeX)))))),λargs R EX h=>?_⟩;obtain⟨d,rfl,hR⟩:=h;cases d<;>exact hR
theorem QlB:J3 ["thing", "least", "most"] ["thing", "least", "most"] (QJ Qdv):=⟨rfl,rfl,rfl,by decide +kernel,rfl,by decide +kernel,by decide +kernel⟩
theorem Qmc{f f1  : Addr}{fd fd1:Q1}(F:Fun K "is_whole_within" "is_whole_within" Qdv f fd)(T:GlbA mg)
  (m1:mg "is_whole" = some (.ref f1))(G1:FnOk P w K mg base CX0 1 f1 fd1 ["thing"] (ZW false Qg6))(b1:Binds K fd1 ["thing"] [])(k1:PySem.W.keepIn K (.ref f1)=true) :
  FnOk P w K mg base CX0 2 f fd ["thing", "least", "most"] (ZW false Qis):=by
 refine okQ false F QlB (λargs R EX h=>?_) (λcdv A outer s H E hr=>?_)
 ·obtain⟨d,a,b,rfl,_⟩:=h;rfl
 ·have hU:=Room.u60 hr;have hI:=Room.i60 hr;refine⟨_,Zb (QbP (Qox (Yc (QaZ G1 (hr.mono (by decide)) (by rfl) m1 k1 b1 Yw (QbH (qv 0) ZL))) (QiK (Qao (Qzd QkF QkF (qp 1) (qp 0) (qp 2)))))),λargs R EX h=>?_⟩;obtain⟨d,a,b,rfl,hR⟩:=h;refine⟨d,rfl,?_⟩;cases d with
  |int i=>exact QeM (Qwt hR)
  |_=>exact hR
theorem Qhz:(["one", "other"]:List Str).Nodup:=by decide +kernel
theorem Qol:J3 ["things"] ["things"] (QJ Qfs):=⟨rfl,rfl,rfl,by decide +kernel,rfl,by decide +kernel,by decide +kernel⟩
theorem Qo5{f   : Addr}{fd  : Q1}(F:Fun K "is_never_falling" "is_never_falling" Qfs f fd)(T:GlbA mg) :
  FnOk P w K mg base CX0 1 f fd ["things"] (ZW false Qhy):=by
 refine okQ false F Qol (λargs R EX h=>?_) (λcdv A outer s H E hr=>?_)
 ·obtain⟨ns,rfl,_⟩:=h;rfl
 ·have hU:=Room.u60 hr;have hI:=Room.i60 hr;refine⟨_,Zb (Qbp (YF Qda (Qkf rfl) (by rfl) T.all QhV (Qc1 (JL (Qcr ["one", "other"] [none,none] (QiI (by rfl) T.zip (qp 0) (JL (QiJ (qp 0) (QiG (Yc Qac)) QiH))) (λcl ex s3 H3 C=>⟨(QeA rfl (Qab 0 (Qab 1 QeB Qhz rfl (Jw rfl) (Ju rfl)) Qhz rfl (Jw rfl) (Ju rfl))),Qa7,(Qao (Qga QkF QfD (qp 0) (qp 1) (Z1 _)))⟩))) ZI))),λargs R EX h=>?_⟩;obtain⟨ns,rfl,hR⟩:=h;refine QdY (λd=>.bool (QwR d)) (λd hd k2 hk=>?_) (QgJ (items:=Qg4 (ns.map Qk) (Dl.cutD (ns.map Qk) (some 1) none)) rfl (by rw[QpT];exact hR));obtain⟨i,hi⟩:=Jc.mp hd;obtain⟨a,b,ha,hb,rfl⟩:=Dl.zip_get hi;obtain⟨x,_,rfl⟩:=Qt.mp (QD ha);obtain⟨y,_,rfl⟩:=Qt.mp (QgA (QD hb));exact⟨rfl,hk⟩
theorem QkJ:(["part"]:List Str).Nodup:=by decide +kernel
theorem QlC:J3 ["thing"] ["thing"] (QJ Qdw):=⟨rfl,rfl,rfl,by decide +kernel,rfl,by decide +kernel,by decide +kernel⟩
theorem Qme{f f1 f2  : Addr}{fd fd1 fd2:Q1}(hA:∃t,mg "MOST_LINES" = some (.int 6 t))(F:Fun K "is_stairs" "is_stairs" Qdw f fd)(T:GlbA mg)
  (m1:mg "is_whole_within" = some (.ref f1))(G1:FnOk P w K mg base CX0 2 f1 fd1 ["thing", "least", "most"] (ZW false Qis))(b1:Binds K fd1 ["thing", "least", "most"] [])(k1:PySem.W.keepIn K (.ref f1)=true)
  (m2:mg "is_never_falling" = some (.ref f2))(G2:FnOk P w K mg base CX0 1 f2 fd2 ["things"] (ZW false Qhy))(b2:Binds K fd2 ["things"] [])(k2:PySem.W.keepIn K (.ref f2)=true) :
  FnOk P w K mg base CX0 3 f fd ["thing"] (ZW false Qiw):=by
 refine okQ false F QlC (λargs R EX h=>?_) (λcdv A outer s H E hr=>?_)
 ·obtain⟨d,rfl,_⟩:=h;rfl
 ·obtain⟨tA,mA⟩:=hA;have hU:=Room.u60 hr;have hI:=Room.i60 hr;refine⟨_,JQ (Qhl (QxF (QuV (Qfv (Qex (JL (Qhm .tuple (by rfl) T.isinstance (qp 0) (by rfl) T.tuple Qdb)))) (Qp9 (Qfv (QxE QkF QkF (Yc Qac) (JL (YF Qbg QfM (by rfl) T.len QbZ (Qc1 (qp 0) ZI))) (Yc (Qrb 6 (by rfl) mA ⟨_,rfl⟩))))))) (Zb (QbP Qu2)) QbN)
   (Zb (QbP (Qox (JL (YF Qda (Qkf rfl) (by rfl) T.all QhV (Qc1 (JL (Qcr ["part"] [none] (QuX (qp 0)) (λcl ex s3 H3 C=>⟨(Qan 0 QkJ rfl (Jw rfl) (Ju rfl)),Qa7,(QaZ G1 (hr.mono (by decide)) (by rfl) m1 k1 b1 Yw (QbH (qv 0) (QbH Qac (QbH (Qrb 6 (by rfl) mA ⟨_,rfl⟩) ZL))))⟩))) ZI))) (QiK (QaZ G2 (hr.mono (by decide)) (by rfl) m2 k2 b2 Yw (QbH (qv 0) ZL)))))),λargs R EX h=>?_⟩
  obtain⟨d,rfl,hR⟩:=h;cases d with
  |tuple ds=>
   have hR:R (.bool ((decide ((1:Int)<=ds.length)&&decide ((ds.length:Int)<=6))&&(ds.all (λd=>inW d 0 6)&&nfI (ds.map toI)))):=hR;refine ifC (λz1=>?_) λz1=>?_
   ·rw[show decide ((1:Int)<=ds.length)=true from z1,Qb6] at hR;show if(!decide ((ds.length:Int)<=6))=true then _ else _
    cases z2:decide ((ds.length:Int)<=6) with
    |false=>rw[z2] at hR;exact hR
    |true=>
     rw[z2,Qb6] at hR;refine QdY (λd=>.bool (inW d 0 6)) (λd hd k2 hk=>⟨_,_,_,rfl,hk⟩) (QgJ (items:=ds) rfl ?_);refine QtW hR λha hR=>⟨ds.map toI,?_,hR⟩
     rw[tI,<- (Qpi ha).1]
   ·rw[show decide ((1:Int)<=ds.length)=false from z1] at hR;exact hR
  |_=>exact hR
theorem Qok:J3 ["stairs"] ["stairs"] (QJ Qkw):=⟨rfl,rfl,rfl,by decide +kernel,rfl,by decide +kernel,by decide +kernel⟩
theorem Qo4{f f1  : Addr}{fd fd1:Q1}(F:Fun K "refuse_no_stairs" "refuse_no_stairs" Qkw f fd)(T:GlbA mg)
  (m1:mg "is_stairs" = some (.ref f1))(G1:FnOk P w K mg base CX0 3 f1 fd1 ["thing"] (ZW false Qiw))(b1:Binds K fd1 ["thing"] [])(k1:PySem.W.keepIn K (.ref f1)=true) :
  FnOk P w K mg base CX0 4 f fd ["stairs"] (ZW false Qou):=by
 refine okQ false F Qok (λargs R EX h=>?_) (λcdv A outer s H E hr=>?_)
 ·obtain⟨ns,rfl,_⟩:=h;rfl
 ·have hU:=Room.u60 hr;have hI:=Room.i60 hr;refine⟨_,Zb (Qhl (Qfv (Qex (Yc (QaZ G1 (hr.mono (by decide)) (by rfl) m1 k1 b1 Yw (QbH (qv 0) ZL))))) Qhk QbN),λargs R EX h=>?_⟩;obtain⟨ns,rfl,hs,hR⟩:=h;refine⟨_,rfl,?_⟩;rw[Qoc hs];exact hR
theorem YY:J3 ["_law_pot_here", "_law_columns", "_law_most", "_law_found", "_law_least", "_law_column", "_law_step"] ["_law_pot_here", "_law_columns", "_law_most"] (QJ QdC):=⟨rfl,rfl,rfl,by decide +kernel,rfl,by decide +kernel,by decide +kernel⟩
theorem QkI{f f1  : Addr}{fd fd1:Q1}(F:Fun K "_law_stairs" "_law_stairs" QdC f fd)(T:GlbA mg)
  (m1:mg "_law_take" = some (.ref f1))(G1:FnOk P w K mg base CX0 1 f1 fd1 ["_law_pot_here", "_law_far"] (ZW true Qoa))(b1:Binds K fd1 ["_law_pot_here", "_law_far"] [])(k1:PySem.W.keepIn K (.ref f1)=true) :
  FnOk P w K mg base CX0 2 f fd ["_law_pot_here", "_law_columns", "_law_most"] (ZW false Qgl):=by
 refine okQ false F YY (λargs R EX h=>?_) (λcdv A outer s H E hr=>?_)
 ·obtain⟨n,rfl,_⟩:=h;rfl
 ·have hU:=Room.u60 hr;have hI:=Room.i60 hr;refine⟨_,JQ (QbO 3 (Qao (QlR ZI)) YY.nd)
   (JQ (QbO 4 Qac YY.nd)
   (JQ (Qfw ZH rfl (Qez (by rfl) T.range (qp 1)) (Qan 5 YY.nd rfl (by first | exact Jw rfl | exact Ju rfl))
    (JQ (QbO 6 (Qao (YE G1 (hr.mono (by decide)) (by rfl) m1 k1 b1 Yw (QdS 0 (QbH Qac ZL)))) YY.nd)
   (JQ (Qhl (Qey QeD (QiV hU) (JL (YE G1 (hr.mono (by decide)) (by rfl) m1 k1 b1 Yw (QdS 0 (QbH Qac ZL)))) (Yc Qac) (Z1 _)) (Zb (QbO 6 (Qao (YE G1 (hr.mono (by decide)) (by rfl) m1 k1 b1 Yw (QdS 0 (QbH (Qao (Qfb Qcw QeE (qp 2) (Yc Qac))) ZL)))) YY.nd)) QbN)
   (JQ (QbO 4 (Qao (YF (QhS rfl) Qpx (by rfl) T.min QrM (Qc1 (qp 2) (Qc1 (JL (Qfb Qcw QeE (qp 4) (JL (Qfb QsZ QvG (qp 6) (JL (Qef Qno Qwo (by rfl) T.int QhU (Qc1 (Yc (QxG (JL (Qga Qvt QfD (qp 5) (Yc Qac) (Z1 _))) (QiK (Qao (Qga QeD (QiV hU) (JL (YE G1 (hr.mono (by decide)) (by rfl) m1 k1 b1 Yw (QdS 0 (QbH Qac ZL)))) (Yc Qac) (Z1 _)))))) ZI))))))) ZI)))) YY.nd)
   (Zb (QbO 3 (Qao (Qfb Qcw QeE (qp 3) (JL (QlR (QuY (qv 4) ZI))))) YY.nd))))))
   (Zb (QbP (qv 3))))),λargs R EX h=>?_⟩
  obtain⟨n,rfl,n1,n6,hR⟩:=h;refine⟨⟨by omega,by omega⟩,Qgs (λi δ=>∃ns x4 x5 x6,δ=[.pot,.v (.int n),.v (.int 6),.v (tI ns),.v (.int x4),x5,x6]/\ns.length=i/\(∀j∈ns,0<=j/\j<=6)/\nfI ns=true/\0<=x4/\x4<=6/\∀b,ns.getLast? = some b->b<=x4) ⟨[],0,_,_,rfl,rfl,λj hj=>(nomatch hj),rfl,by decide,by decide,λb hb=>(nomatch hb)⟩ ?_ ?_⟩
  ·rintro i δ hi ⟨ns,x4,x5,x6,rfl,hl,hb,hn,h0,h6,hlast⟩;refine⟨_,rfl,by decide,by decide,λr1 r10 r11=>⟨_,rfl,by decide,by decide,λr2 r20 r21=>?_⟩⟩;refine ifC (λzz=>?_) λzz=>?_
   ·refine⟨_,rfl,by decide,by decide,λr3 r30 r31=>?_⟩;have fin:∀v:Int,x4<=v->v<=6->∃ns' x4' x5' x6',[Sl.pot,.v (.int n),.v (.int 6),.v (.tuple (ns.map Qk++[.int v])),.v (.int v),.v (.int (0+(i:Int))),.v (.int r3)]=[.pot,.v (.int n),.v (.int 6),.v (tI ns'),.v (.int x4'),x5',x6']/\ns'.length=i+1/\(∀j∈ns',0<=j/\j<=6)/\nfI ns'=true/\0<=x4'/\x4'<=6/\∀b,ns'.getLast? = some b->b<=x4':=λv v0 v6=>by
     refine⟨ns++[v],v,_,_,by rw[tI,Jj];rfl,by rw[Qv,hl];rfl,λj hj=>?_,QiX hn λb hb'=>Qbv (hlast b hb') v0,by omega,v6,λb hb'=>?_⟩
     ·rcases Ji.mp hj with z | z
      ·exact hb j z
      ·rw[Q3.mp z];omega
     ·rw[Qlf] at hb';have:v=b:=by simpa using hb'
      omega
    have fin2:∀t:Int,0<=t->∃v,(if x4+t<6 then x4+t else 6)=v/\x4<=v/\v<=6:=λt t0=>⟨_,rfl,by split<;>omega,by split<;>omega⟩
    refine ifC (λz=>?_) λz=>?_
    ·refine⟨.inl (.inr (by decide)),?_⟩;obtain⟨v,ev,v0,v6⟩:=fin2 (r3*1) (by omega);refine Qgh ev ⟨by rw[Qf];show _+1<=_;omega,fin v v0 v6⟩
    ·refine⟨_,rfl,by decide,by decide,λrb rb0 rb1=>?_⟩;refine⟨.inl (.inr (by show -(2^64:Int)<(if decide (rb=0)=true then 1 else 0)/\(if decide (rb=0)=true then(1:Int) else 0)<2^64;split<;>decide)),?_⟩;obtain⟨v,ev,v0,v6⟩:=fin2 (r3*(if decide (rb=0)=true then 1 else 0)) (by split<;>omega);refine Qgh ev ⟨by rw[Qf];show _+1<=_;omega,fin v v0 v6⟩
   ·skip
    have fin:∀v:Int,x4<=v->v<=6->∃ns' x4' x5' x6',[Sl.pot,.v (.int n),.v (.int 6),.v (.tuple (ns.map Qk++[.int v])),.v (.int v),.v (.int (0+(i:Int))),.v (.int r1)]=[.pot,.v (.int n),.v (.int 6),.v (tI ns'),.v (.int x4'),x5',x6']/\ns'.length=i+1/\(∀j∈ns',0<=j/\j<=6)/\nfI ns'=true/\0<=x4'/\x4'<=6/\∀b,ns'.getLast? = some b->b<=x4':=λv v0 v6=>by
     refine⟨ns++[v],v,_,_,by rw[tI,Jj];rfl,by rw[Qv,hl];rfl,λj hj=>?_,QiX hn λb hb'=>Qbv (hlast b hb') v0,by omega,v6,λb hb'=>?_⟩
     ·rcases Ji.mp hj with z | z
      ·exact hb j z
      ·rw[Q3.mp z];omega
     ·rw[Qlf] at hb';have:v=b:=by simpa using hb'
      omega
    have fin2:∀t:Int,0<=t->∃v,(if x4+t<6 then x4+t else 6)=v/\x4<=v/\v<=6:=λt t0=>⟨_,rfl,by split<;>omega,by split<;>omega⟩
    refine ifC (λz=>?_) λz=>?_
    ·refine⟨.inl (.inr (by decide)),?_⟩;obtain⟨v,ev,v0,v6⟩:=fin2 (r1*1) (by omega);refine Qgh ev ⟨by rw[Qf];show _+1<=_;omega,fin v v0 v6⟩
    ·refine⟨_,rfl,by decide,by decide,λrb rb0 rb1=>?_⟩;refine⟨.inl (.inr (by show -(2^64:Int)<(if decide (rb=0)=true then 1 else 0)/\(if decide (rb=0)=true then(1:Int) else 0)<2^64;split<;>decide)),?_⟩;obtain⟨v,ev,v0,v6⟩:=fin2 (r1*(if decide (rb=0)=true then 1 else 0)) (by split<;>omega);refine Qgh ev ⟨by rw[Qf];show _+1<=_;omega,fin v v0 v6⟩
  ·rintro δ ⟨ns,x4,x5,x6,rfl,hl,hb,hn,h0,h6,hlast⟩;exact hR ns ⟨by omega,by omega,hb,hn⟩ (by omega)
theorem QhA:(["place", "number"]:List Str).Nodup:=by decide +kernel
theorem Qom:J3 ["stairs"] ["stairs"] (QJ Qft):=⟨rfl,rfl,rfl,by decide +kernel,rfl,by decide +kernel,by decide +kernel⟩
theorem Qo6{f f1  : Addr}{fd fd1:Q1}(F:Fun K "heads" "heads" Qft f fd)(T:GlbA mg)
  (m1:mg "refuse_no_stairs" = some (.ref f1))(G1:FnOk P w K mg base CX0 4 f1 fd1 ["stairs"] (ZW false Qou))(b1:Binds K fd1 ["stairs"] [])(k1:PySem.W.keepIn K (.ref f1)=true) :
  FnOk P w K mg base CX0 5 f fd ["stairs"] (ZW true QdX):=by
 refine okQ true F Qom (λargs R EX h=>?_) (λcdv A outer s H E hr=>?_)
 ·obtain⟨ns,rfl,_⟩:=h;rfl
 ·have hU:=Room.u60 hr;have hI:=Room.i60 hr;refine⟨_,JQ (QiF (Yc (QaZ G1 (hr.mono (by decide)) (by rfl) m1 k1 b1 Yw (QbH (qv 0) ZL))))
   (Zb (Qbp (YF QdJ Qjc (by rfl) T.sorted Qdc (Qc1 (JL (Qcr ["place", "number"] [none,none] (Qee (by rfl) T.enumerate (qp 0)) (λcl ex s3 H3 C=>⟨(QeA rfl (Qab 0 (Qab 1 QeB QhA rfl (Jw rfl) (Ju rfl)) QhA rfl (Jw rfl) (Ju rfl))),Qa7,(Qao (Qfb Ql7 Qrp (qp 1) (qp 0)))⟩))) ZI)))),λargs R EX h=>?_⟩
  obtain⟨ns,rfl,hs,hR⟩:=h;refine⟨ns,rfl,hs,?_⟩;refine QdY (λd=>match d with | .tuple [.int p,.int n]=>.int (n - p) | _=>.none) (λd hd k2 hk=>?_) ?_
  ·obtain⟨i,hi⟩:=Jc.mp hd;obtain⟨e,he,rfl⟩:=Qc6 hi;obtain⟨m,_,rfl⟩:=Qt.mp (QD he);exact⟨rfl,hk⟩
  ·rw[Qm4];have l6:=hs.l6;exact(Qiz (ds:=(hdL ns).map Qk) (ns:=hdL ns) (QdK _) (by unfold hdL;rw[Qf,QF];omega) λms pm pw=>hR ms pm pw).1
theorem QfE:(["_law_place", "_law_number"]:List Str).Nodup:=by decide +kernel
theorem QlE:J3 ["_law_stairs_here"] ["_law_stairs_here"] (QJ QfI):=⟨rfl,rfl,rfl,by decide +kernel,rfl,by decide +kernel,by decide +kernel⟩
theorem Qmh{f   : Addr}{fd  : Q1}(F:Fun K "_law_heads" "_law_heads" QfI f fd)(T:GlbA mg) :
  FnOk P w K mg base CX0 1 f fd ["_law_stairs_here"] (ZW true QdX):=by
 refine okQ true F QlE (λargs R EX h=>?_) (λcdv A outer s H E hr=>?_)
 ·obtain⟨ns,rfl,_⟩:=h;rfl
 ·have hU:=Room.u60 hr;have hI:=Room.i60 hr;refine⟨_,Zb (Qbp (YF QdJ Qjc (by rfl) T.sorted Qdc (Qc1 (JL (Qcr ["_law_place", "_law_number"] [none,none] (Qee (by rfl) T.enumerate (qp 0)) (λcl ex s3 H3 C=>⟨(QeA rfl (Qab 0 (Qab 1 QeB QfE rfl (Jw rfl) (Ju rfl)) QfE rfl (Jw rfl) (Ju rfl))),Qa7,(Qao (Qfb Ql7 Qrp (qp 1) (qp 0)))⟩))) ZI))),λargs R EX h=>?_⟩;obtain⟨ns,rfl,hs,hR⟩:=h;refine QdY (λd=>match d with | .tuple [.int p,.int n]=>.int (n - p) | _=>.none) (λd hd k2 hk=>?_) ?_
  ·obtain⟨i,hi⟩:=Jc.mp hd;obtain⟨e,he,rfl⟩:=Qc6 hi;obtain⟨m,_,rfl⟩:=Qt.mp (QD he);exact⟨rfl,hk⟩
  ·rw[Qm4];have l6:=hs.l6;exact(Qiz (ds:=(hdL ns).map Qk) (ns:=hdL ns) (QdK _) (by unfold hdL;rw[Qf,QF];omega) λms pm pw=>hR ms pm pw).1
theorem Qtd:(["number", "numbers"]:List Str).Nodup:=by decide +kernel
theorem QuG:J3 ["many", "numbers"] ["many", "numbers"] (QJ sOth):=⟨rfl,rfl,rfl,by decide +kernel,rfl,by decide +kernel,by decide +kernel⟩
theorem QvA{f   : Addr}{fd  : Q1}(F:Fun K "others" "others" sOth f fd)(T:GlbA mg) :
  FnOk P w K mg base CX0 1 f fd ["many", "numbers"] (ZW false QxV):=by
 refine okQ false F QuG (λargs R EX h=>?_) (λcdv A outer s H E hr=>?_)
 ·obtain⟨n,o,rfl,_⟩:=h;rfl
 ·have hU:=Room.u60 hr;have hI:=Room.i60 hr;refine⟨_,Zb (Qbp (Qcr ["number", "numbers"] [none,some 1] (Qez (by rfl) T.range (qp 0)) (λcl ex s3 H3 C=>⟨(Qan 0 Qtd rfl (Jw rfl) (Ju rfl)),(Qf9 (Qey Qma (QxX hI) (qp 0) (qp 1) (by rfl))),(qv 0)⟩))),λargs R EX h=>?_⟩;obtain⟨n,o,rfl,n6,hR⟩:=h;refine⟨⟨by omega,by omega⟩,QtM (λd=>match d with | .int x=>if(!decide (x.toNat∈o))=true then some d else none | _=>none) (λd hd k1 k2 h1 h2=>?_) ?_⟩
  ·obtain⟨x,hx⟩:=Jc.mp hd;obtain⟨hx,rfl⟩:=QiD hx;have h1:(if(!decide ((0+(x:Int)).toNat∈o))=true then some (Qk (0+(x:Int))) else none)=none->k1:=h1;have h2:∀e,(if(!decide ((0+(x:Int)).toNat∈o))=true then some (Qk (0+(x:Int))) else none)=some e->k2 e:=h2
   rw[show(0+(x:Int)).toNat=x by omega] at h1 h2;have ei:Qdn o=(o.map λ(y:Nat)=>(y:Int)).map Qk:=by unfold Qdn;rw[Je];rfl
   refine⟨⟨by rw[ei];exact Qad _,rfl,by show Zc (.int _)<=50;unfold Zc;decide⟩,?_⟩;show if(!(Qdn o).any λe=>JB e (.int (0+(x:Int))))=true then _ else k1
   rw[ei,QtV];have em:decide (0+(x:Int)∈o.map λ(y:Nat)=>(y:Int))=decide (x∈o):=decide_eq_decide.mpr (by
    rw[Qt];constructor
    ·rintro⟨y,hy,e⟩;have e:(y:Int)=0+(x:Int):=e;rw[show x=y by omega];exact hy
    ·intro hx;exact⟨x,hx,by show(x:Int)=0+x;omega⟩)
   rw[em];by_cases z:(!decide (x∈o))=true
   ·rw[if_pos z];exact h2 _ (if_pos z)
   ·rw[if_neg z];exact h1 (if_neg z)
  ·have er:(Qos 0 ((n:Nat):Int).toNat).filterMap (λd=>match d with | .int x=>if(!decide (x.toNat∈o))=true then some d else none | _=>none)=Qdn (oth n o):=by
    unfold Qos Qdn oth;rw[Yb,Qeb];refine Qv4 (p:=λx => !decide (x∈o)) λx _=>?_
    show(if(!decide ((0+(x:Int)).toNat∈o))=true then some (Qk (0+(x:Int))) else none)=if(!decide (x∈o))=true then some (Qk (x:Int)) else none
    rw[show(0+(x:Int)).toNat=x by omega,show(0:Int)+(x:Int)=(x:Int) by omega]
   rw[er];exact hR
theorem QjN:(["order", "number", "many"]:List Str).Nodup:=by decide +kernel
theorem Qf6:J3 ["many", "orders", "step"] ["many"] (QJ Qkx):=⟨rfl,rfl,rfl,by decide +kernel,rfl,by decide +kernel,by decide +kernel⟩
theorem Qs5{f f1  : Addr}{fd fd1:Q1}(F:Fun K "all_orders" "all_orders" Qkx f fd)(T:GlbA mg)
  (m1:mg "others" = some (.ref f1))(G1:FnOk P w K mg base CX0 1 f1 fd1 ["many", "numbers"] (ZW false QxV))(b1:Binds K fd1 ["many", "numbers"] [])(k1:PySem.W.keepIn K (.ref f1)=true) :
  FnOk P w K mg base CX0 2 f fd ["many"] (ZW true QkC):=by
 refine okQ true F Qf6 (λargs R EX h=>?_) (λcdv A outer s H E hr=>?_)
 ·obtain⟨n,rfl,_⟩:=h;rfl
 ·have hU:=Room.u60 hr;have hI:=Room.i60 hr;refine⟨_,JQ (QiE 1 (Qsx (QuY (Qao (QlR ZI)) ZI)) Qf6.nd)
   (JQ (Qfw ZH rfl (Qez (by rfl) T.range (qp 0)) (Qan 2 Qf6.nd rfl (by first | exact Jw rfl | exact Ju rfl))
    (Zb (QlP ["order", "number", "many"] [none,none,some 0] 1 Qf6.nd (Qpo 0) (Qcv (qp 1)) (λcl ex s3 H3 C=>⟨(Qan 0 QjN rfl (Jw rfl) (Ju rfl)),Qa7,(Qcv (QaZ G1 (hr.mono (by decide)) (by rfl) m1 k1 b1 Yw (QbH (qv 2) (QbH (qv 0) ZL)))),(Qan 1 QjN rfl (Jw rfl) (Ju rfl)),Qa7,(Qao (Qfb Qcw QeE (qp 0) (JL (QlR (QuY (qv 1) ZI)))))⟩))))
   (Zb (Qsw 1))),λargs R EX h=>?_⟩
  obtain⟨n,rfl,n6,hR⟩:=h;have eG:∀i,((ordsN n i).map tNn).flatMap (λd=>match d with | .tuple ds=>(oth n (ds.map λe=>(toI e).toNat)).map λx=>Zk (ds++[.int (x:Nat)]) | _=>[])=(ordsN n (i+1)).map tNn:=λi=>by
   show _=((ordsN n i).flatMap λo=>(oth n o).map λx=>o++[x]).map tNn;rw[List.flatMap_map,List.map_flatMap];refine QfJ λo _=>?_
   show(oth n ((Qdn o).map λe=>(toI e).toNat)).map (λx=>Zk (Qdn o++[.int (x:Nat)]))=((oth n o).map λx=>o++[x]).map tNn;rw[Qjt,Je];refine JX λx _=>?_
   show _=Zk (Qdn (o++[x]));unfold Qdn;rw[Jj];rfl
  refine⟨⟨by omega,by omega⟩,Qgs (λi δ=>∃ds x2,δ=[.v (.int n),.own ds,x2]/\ds=(ordsN n i).map tNn) ⟨_,_,rfl,rfl⟩ ?_ ?_⟩
  ·rintro i δ hi ⟨ds,x2,rfl,rfl⟩;rw[Yb] at hi;refine QtN (λd=>match d with | .tuple ds=>(oth n (ds.map λe=>(toI e).toNat)).map λx=>Zk (ds++[.int (x:Nat)]) | _=>[]) 50000 (by rw[eG,Qf];exact QoZ n6 (i+1) (by omega)) (λd hd acc N hb hN=>?_) ?_
   ·obtain⟨o,ho,rfl⟩:=Qt.mp hd;have lo:=Qcc ho;have hb:acc.length+((oth n ((Qdn o).map λe=>(toI e).toNat)).map λx=>Zk (Qdn o++[.int (x:Nat)])).length<=50000:=hb;have hN:N (acc++(oth n ((Qdn o).map λe=>(toI e).toNat)).map λx=>Zk (Qdn o++[.int (x:Nat)])):=hN;rw[Qjt] at hb hN;rw[Qf] at hb;have l1:(Qdn o).length=o.length:=by unfold Qdn;exact Qf _
    have l2:(Qdn (oth n o)).length=(oth n o).length:=by unfold Qdn;exact Qf _
    refine⟨_,_,rfl,n6,Qv0 (λd=>.tuple (Qdn o++[d])) (by rw[l2];exact Qaq hb (by decide)) (λd hd k2 hk=>?_) ?_⟩
    ·exact⟨by rw[l1];show _+1<=_;omega,hk⟩
    ·have e:(Qdn (oth n o)).map (λd=>Zk (Qdn o++[d]))=(oth n o).map λx=>Zk (Qdn o++[.int (x:Nat)]):=by
      conv=>lhs;unfold Qdn
      rw[Je];rfl
     rw[e];exact hN
   ·rw[eG];exact⟨_,_,rfl,rfl⟩
  ·rintro δ ⟨ds,x2,rfl,rfl⟩;rw[Yb];exact hR
theorem Qmn:(["place", "at", "put"]:List Str).Nodup:=by decide +kernel
theorem QuH:J3 ["put", "order"] ["put", "order"] (QJ sNBy):=⟨rfl,rfl,rfl,by decide +kernel,rfl,by decide +kernel,by decide +kernel⟩
theorem QvB{f   : Addr}{fd  : Q1}(F:Fun K "numbers_by" "numbers_by" sNBy f fd)(T:GlbA mg) :
  FnOk P w K mg base CX0 1 f fd ["put", "order"] (ZW false QwQ):=by
 refine okQ false F QuH (λargs R EX h=>?_) (λcdv A outer s H E hr=>?_)
 ·obtain⟨hs,o,rfl,_⟩:=h;rfl
 ·have hU:=Room.u60 hr;have hI:=Room.i60 hr;refine⟨_,Zb (Qbp (Qef Qcs Qke (by rfl) T.tuple Qdb (Qc1 (JL (Qcr ["place", "at", "put"] [none,none,some 0] (Qee (by rfl) T.enumerate (qp 1)) (λcl ex s3 H3 C=>⟨(QeA rfl (Qab 0 (Qab 1 QeB Qmn rfl (Jw rfl) (Ju rfl)) Qmn rfl (Jw rfl) (Ju rfl))),Qa7,(Qao (Qfb Qcw QeE (Yc (Qsy QeK QiU (qp 2) (qp 1) (λ_ _=>rfl))) (qp 0)))⟩))) ZI))),λargs R EX h=>?_⟩;obtain⟨hs,o,rfl,o6,hb,hR⟩:=h;refine QdY (λd=>match d with | .tuple [.int p,.int a]=>.int (hs.getD a.toNat 0+p) | _=>.none) (λd hd k2 hk=>?_) ?_
  ·obtain⟨i,hi⟩:=Jc.mp hd;obtain⟨e,he,rfl⟩:=Qc6 hi;obtain⟨x,hx,rfl⟩:=Qt.mp (QD he);have hx:=hb x hx;refine⟨rfl,.int (hs.getD x 0),Qb0 (j:=x) ?_,hk⟩;rw[Qy,Qd hx,Ql,Qd hx];rfl
  ·rw[Qm3];exact hR
end
end Rk
namespace Rk
open L2 _root_.Rd
open Rt Dl Zt
def Qp2:Sp:=λvs H Q _=>∃(a:Addr)(ns hs:List Int),vs=[.ref a]/\H a=some (.tup (ns.map V.int))/\Qat ns/\hs.Perm (hdL ns)/\hs.Pairwise (·<=·)/\∀(t:Addr)(ys:List V)(rows:List (List Int))(H':Hp),Same H H'->H t=none->H' t=some (.lst ys)->Dats H' ys (rows.map tI)->rows.Nodup->(∀x,x∈rows↔(∃o∈ordsN ns.length ns.length,nbI hs o=x)/\okR x=true)->(rows.map tI).Pairwise (λa b=>ltD b a=false)->Q (.ref t) H'
theorem Qo0:∀m:Fin 7,(ordsN m.val m.val).length<=720:=by decide +kernel
theorem QeC{m:Nat}(h:m<=6):(ordsN m m).length<=720:=Qo0 ⟨m,by omega⟩
theorem QmQ{α:Type}{l:List α}{i:Nat}{d:α}(h:i<l.length):l.getD i d∈l:=by
 rw[Ql,Qd h];exact Yi h
def unT:Qa->List Int
 |.tuple ds=>ds.map toI
 |_=>[]
theorem Qfj(x:List Int):unT (tI x)=x:=by
 show(x.map Qk).map toI=x;rw[Je]
 conv=>rhs;rw[<- Qba x]
 exact JX λ_ _=>rfl
theorem Qsd{L:List (List Int)}{es:List Qa}(h:es.Perm (L.map tI)):∃rows:List (List Int),es=rows.map tI/\rows.Perm L:=by
 refine⟨es.map unT,?_,?_⟩
 ·rw[Je]
  conv=>lhs;rw[<- Qba es]
  refine JX λd hd=>?_
  obtain⟨x,_,rfl⟩:=Qt.mp (h.mem_iff.mp hd);exact(congrArg tI (Qfj x)).symm
 ·have:=h.map unT;rw[Je] at this;rw[show L.map (unT∘tI)=L by
                   conv=>rhs;rw[<- Qba L]
                   exact JX λx _=>Qfj x] at this
  exact this
theorem Qkg{fr:Bool}{fD:DF}{vs:List V}{H:Hp}{Q:VK}{Ex:XK}(ds:List Qa)(R:Qa->Prop)(hv:DAs (λ_=>False) H vs ds)(hf:fD (ds.map Sl.v) R XF)(k:∀d,R d->∀v H',Same H H'->DA (λ_=>False) H' v d->(fr=true->FrV H H' v)->Q v H'):ZW fr fD vs H Q Ex:=by
 refine⟨λ_=>False,λ_=>False,ds.map Sl.v,R,XF,λ_ z=>z.elim,λ_ z=>z.elim,?_,hf,λd hd v H' kq da hfr=>k d hd v H' (λb o e=>kq.1 b o (λz=>z) e) da hfr,λC z=>z.elim⟩;clear hf k;induction vs generalizing ds with
 |nil=>cases hv;exact .nil
 |cons v vs ih=>cases hv with
  |cons q qs=>exact .cons q (ih _ qs)
theorem Qwc{H:Hp}{a:Addr}{ns:List Int}(h:H a=some (.tup (ns.map V.int))):DA (λ_=>False) H (.ref a) (tI ns):=.tup (λz=>z) h (Qce ns)
theorem daL{A:Addr->Prop}{H:Hp}{v:V}{ds:List Qa}(h:DA A H v (.list ds)):∃l xs,v=.ref l/\H l=some (.lst xs)/\DAs A H xs ds:=by
 cases h with
 |lst n e q=>exact⟨_,_,rfl,e,q⟩
theorem daT{A:Addr->Prop}{H:Hp}{v:V}{ds:List Qa}(h:DA A H v (.tuple ds)):∃l xs,v=.ref l/\H l=some (.tup xs)/\DAs A H xs ds:=by
 cases h with
 |tup n e q=>exact⟨_,_,rfl,e,q⟩
theorem Qod{a b:List Int}(p:a.Perm b)(h1:a.Pairwise (·<=·))(h2:b.Pairwise (·<=·)):a=b:=YX (le:=λa b=>a<=b) (λa b _ _ h1 h2=>Qg2 h1 h2) h1 h2 p
theorem Qnc{A:Addr->Prop}{H:Hp}:∀{xs:List V}{ds:List Qa},DAs A H xs ds->∀(i:Nat)(d:Qa),ds[i]? = some d->∃x,xs[i]? = some x/\DA A H x d
 |_,_,.nil,i,d,h=>by simp at h
 |_,_,.cons q qs,0,d,h=>by simp at h;subst h;exact⟨_,rfl,q⟩
 |_,_,.cons q qs,i+1,d,h=>by
  simp only[Ye] at h;obtain⟨x,e,q⟩:=Qnc qs i d h;exact⟨x,by simpa using e,q⟩
structure Sg (P:QB) (W:Q8) (H0 H:Hp) (p:Addr) (M:List (List Int)) (ps:List (List Int×Addr)):Prop where
 at_:H p=some (.ext (Qf4 P W p ps (ledOf W)))
 kp:∀b o,b≠p->H0 b=some o->H b=some o
 mem:∀q∈ps,H q.2=some (.tup (q.1.map V.int))
 nd:(ps.map (·.1)).Nodup
 iff_:∀x,x∈ps.map (·.1)↔x∈M
 len:ps.length<=M.length
theorem Sg.more{P:QB}{W:Q8}{H0 H H5:Hp}{p b:Addr}{M:List (List Int)}{ks:List Int}{ps:List (List Int×Addr)}(g:Sg P W H0 H p M ps)(s5:Same H H5)(eb:H5 b=some (.tup (ks.map V.int))):(ks∈ps.map (·.1)->Sg P W H0 (upd H5 p (.ext (Qf4 P W p ps (ledOf W)))) p (M++[ks]) ps)/\(ks∉ps.map (·.1)->∀ps',ps'.Perm ((ks,b)::ps)->Sg P W H0 (upd H5 p (.ext (Qf4 P W p ps' (ledOf W)))) p (M++[ks]) ps'):=by
 have np:∀(c:Addr)(xs:List V),H5 c=some (.tup xs)->c≠p:=λc xs e z=>by
  subst z;rw[s5 _ _ g.at_] at e;cases e
 refine⟨λhm=>{ at_:=Jp,kp:=λc o nc ec=>by rw[JK nc];exact s5 _ _ (g.kp _ _ nc ec),mem:=λq hq=>?_,nd:=g.nd,iff_:=λx=>?_,len:=?_ },λhm ps' pp=>{ at_:=Jp,kp:=λc o nc ec=>by rw[JK nc];exact s5 _ _ (g.kp _ _ nc ec),mem:=λq hq=>?_,nd:=?_,iff_:=λx=>?_,len:=?_ }⟩
 ·have e:=s5 _ _ (g.mem q hq);rw[JK (np _ _ e)];exact e
 ·rw[Ji,Q3,<- g.iff_];exact⟨.inl,λh=>h.elim id λe=>e ▸ hm⟩
 ·have:=g.len;rw[Qv];omega
 ·rcases Qs.mp (pp.mem_iff.mp hq) with z | z
  ·subst z;rw[JK (np _ _ eb)];exact eb
  ·have e:=s5 _ _ (g.mem q z);rw[JK (np _ _ e)];exact e
 ·exact((pp.map (·.1)).nodup_iff).mpr (Z8.mpr ⟨hm,g.nd⟩)
 ·rw[(pp.map (·.1)).mem_iff,Q7,Qs,Ji,Q3,<- g.iff_];exact⟨λh=>h.symm,λh=>h.symm⟩
 ·have:=g.len;rw[pp.length_eq,Qv,Qr];simp;omega
section
variable{P:QB}{w:Q8}{K:PySem.W.Frag}{mg:Str->Option Value}{base:Heap}
theorem Qmr:(["order", "put"]:List Str).Nodup:=by decide +kernel
theorem Qmq:(["numbers"]:List Str).Nodup:=by decide +kernel
theorem Qf5:J3 ["stairs", "put", "found"] ["stairs"] (QJ QiB):=⟨rfl,rfl,rfl,by decide +kernel,rfl,by decide +kernel,by decide +kernel⟩
theorem Qo7{f f1 f2 f3 f4  : Addr}{fd fd1 fd2 fd3 fd4:Q1}(F:Fun K "all_stairs" "all_stairs" QiB f fd)(T:GlbA mg)
  (m1:mg "heads" = some (.ref f1))(G1:FnOk P w K mg base CX0 5 f1 fd1 ["stairs"] (Dl.ZW true QdX))(b1:Binds K fd1 ["stairs"] [])(k1:PySem.W.keepIn K (.ref f1)=true)
  (m2:mg "numbers_by" = some (.ref f2))(G2:FnOk P w K mg base CX0 1 f2 fd2 ["put", "order"] (Dl.ZW false QwQ))(b2:Binds K fd2 ["put", "order"] [])(k2:PySem.W.keepIn K (.ref f2)=true)
  (m3:mg "all_orders" = some (.ref f3))(G3:FnOk P w K mg base CX0 2 f3 fd3 ["many"] (Dl.ZW true QkC))(b3:Binds K fd3 ["many"] [])(k3:PySem.W.keepIn K (.ref f3)=true)
  (m4:mg "is_never_falling" = some (.ref f4))(G4:FnOk P w K mg base CX0 1 f4 fd4 ["things"] (Dl.ZW false Qhy))(b4:Binds K fd4 ["things"] [])(k4:PySem.W.keepIn K (.ref f4)=true) :
  FnOk P w K mg base CX0 6 f fd ["stairs"] Qp2:=by
 refine F.ok Qf5 (λvs H Q E h=>?_) (λcdv A outer s H vs Q E hr h=>?_)
 ·obtain⟨a,ns,hs,rfl,_⟩:=h;rfl
 ·obtain⟨a,ns,hs,rfl,ha,hst,hp,hw,k⟩:=h;have un:=hr.units;have hU6:(A.deeper (envOfC "all_stairs" (QJ QiB) s.heap.objs.size f cdv)).units+60<cLine:=by omega
  refine⟨_,Zs (Qbx (i:=1) Qf5.nd rfl (by first | exact Jw rfl | exact Ju rfl) (Qa9 G1 (hr.mono (by decide)) (by rfl) m1 k1 b1 .nil QkB (Jr (pv 0) JN)))
   (Zs (Qoz (i:=2) (M:=["order", "put"]) (cap:=[none,some 1]) (g:=(QcA 0)) (tc:=Qet) (te:=(Qks (Dl.ZW false QwQ) [] E0 (Qd4 (Qfa 1) (Qd4 (Qfa 0) QpX)))) Qf5.nd rfl rfl hU6 rfl (by rfl) (Qgc (Qa9 G3 (hr.mono (by decide)) (by rfl) m3 k3 b3 .nil QkB (Jr (Zo Y2 (by rfl) T.len QbZ (Jr (pv 0) JN)) JN))) (λcl ex s3 H3 C=>⟨(Qa8 (i:=0) Qmr rfl (Jw rfl) (Ju rfl)),QiM,(Qa9 G2 (hr.mono (by decide)) (by rfl) m2 k2 b2 .nil QkB (Jr (pv 1) (Jr (pv 0) JN)))⟩))
   (Yd (Qar (Qeh (M:=["numbers"]) (cap:=[none]) (g:=(QcA 0)) (tc:=(Qyn (Qob (tOp (rI0 λi j=>.bl (decide (j<=i))) (tOp (QxB K) (Qfa 0) (tC (.int 0))) (tC (.int 0)))) (tB (Qks (Dl.ZW false Qhy) [] E0 (Qd4 (Qfa 0) QpX))))) (te:=(Qfa 0)) rfl (by rfl) (Qgc (Zo (QkT rfl hU6) (by rfl) T.sorted L2.boot_sorted (Jr (pv 2) JN))) (λcl ex s3 H3 C=>⟨(Qa8 (i:=0) Qmq rfl (Jw rfl) (Ju rfl)),(QiL (PW.pt (Qrd (QbQ Qs1 (QlY Qrs (pv 0) YA (λ_ _=>rfl)) YA (Z1 _)) (QlS (Qhn (Qa9 G4 (hr.mono (by decide)) (by rfl) m4 k4 b4 .nil QkB (Jr (pv 0) JN))))))),(pv 0)⟩))))),?_⟩
  have l6:=hst.l6;have l1:=hst.l1;refine⟨_,rfl,Qkg [tI ns] (λd=>d=.list (hs.map Qk)) (.cons (Qwc ha) .nil) ⟨ns,rfl,hst,λms pm pw=>?_⟩ λd hd v H1 s1 da _=>?_⟩
  ·rw[Qod (pm.trans hp.symm) pw hw]
  subst hd;obtain⟨p1,x1,rfl,e1,q1⟩:=daL da;rw[Qbs q1] at e1;refine⟨_,rfl,a,_,rfl,.inr (SqT.of (s1 _ _ ha)),Qkg [.int ns.length] (λd=>d=.list ((ordsN ns.length ns.length).map tNn)) (by rw[Qf];exact .cons (.int _) .nil) ⟨ns.length,rfl,l6,rfl⟩ λd hd v H2 s2 da2 _=>?_⟩;subst hd;obtain⟨p2,x2,rfl,e2,q2⟩:=daL da2;have lx:=q2.length;rw[Qf] at lx;have ln:hs.length=ns.length:=by rw[hp.length_eq];unfold hdL;rw[Qf,QF]
  refine⟨p2,rfl,⟨_,SqL.of e2⟩,λp np=>?_⟩;have pp2:p2≠p:=JY e2 np;have pp1:p1≠p:=JY (s2 _ _ e1) np;have few:=QeC l6;refine Qcx x2.length (λi H3=>∃ps,Sg P w H2 H3 p (((ordsN ns.length ns.length).take i).map (nbI hs)) ps) ⟨[],{ at_:=Jp,kp:=λb o nb eb=>by rw[JK nb];exact eb,mem:=λq hq=>(nomatch hq),nd:=Qh7,iff_:=λx=>by simp,len:=Qq _ }⟩ (λi H3 hi ⟨ps,g⟩=>?_) λH3 ⟨ps,g⟩=>⟨⟨x2,SqL.of (g.kp _ _ pp2 e2),Qg _⟩,?_⟩
  ·have e23:=g.kp _ _ pp2 e2;obtain⟨o,ho⟩:∃o,(ordsN ns.length ns.length)[i]? = some o:=⟨_,Qd (by omega)⟩
   obtain⟨x,hx,dx⟩:=Qnc q2 i (tNn o) (by rw[Qy,ho];rfl);refine⟨⟨x2,x,SqL.of e23,hx⟩,λy H4 ⟨eH,ey⟩ kk hk=>?_⟩;subst eH;have ey:=ey x2 (SqL.of e23);rw[hx] at ey;cases ey;have om:=QD ho;have ol:=Qcc om;have dx3:DA (λ_=>False) H4 x (tNn o):=dx.mv (λb ob _ eb=>g.kp b ob (JY eb np) eb) λb z=>z.elim
   have dp3:DA (λ_=>False) H4 (.ref p1) (.list (hs.map Qk)):=.lst (λz=>z) (g.kp _ _ pp1 (s2 _ _ e1)) (Qce hs);have e:((ordsN ns.length ns.length).take (i+1)).map (nbI hs)=((ordsN ns.length ns.length).take i).map (nbI hs)++[nbI hs o]:=by rw[Z6,ho,Jj];rfl
   refine⟨⟨rfl,trivial⟩,Qs8 ⟨_,rfl,_,rfl,Qkg [.list (hs.map Qk),tNn o] (λd=>d=tI (nbI hs o)) (.cons dp3 (.cons dx3 .nil)) ⟨hs,o,rfl,by omega,λz hz=>by rw[ln];exact Qge om z hz,rfl⟩ λd hd v H5 s5 da5 _=>?_⟩⟩;subst hd;obtain⟨b,xb,rfl,eb,qb⟩:=daT da5;rw[Qbs qb] at eb;have gl:=g.len;rw[Qf,Jl] at gl;obtain⟨ga,gb⟩:=g.more s5 eb;rw[<- e] at ga gb;exact⟨nbI hs o,b,ps,rfl,s5 _ _ g.at_,λq hq=>s5 _ _ (g.mem q hq),eb,by omega,λhm=>hk _ ⟨_,ga hm⟩,λhm ps' pp=>hk _ ⟨_,gb hm ps' pp⟩⟩
  ·have gl:=g.len;rw[Qf,Jl] at gl;refine⟨_,rfl,p,ps,rfl,by omega,g.at_,g.mem,λt ys es H4 s4 nt et dt pe pw _=>?_⟩;obtain⟨rw0,rfl,pr⟩:=Qsd (L:=ps.map (·.1)) (es:=es) (by rw[Je];exact pe);have yl:ys.length=rw0.length:=by have:=dt.length;rwa [Qf] at this
   have rl:rw0.length=ps.length:=by rw[pr.length_eq,Qf]
   have memR:∀x,x∈rw0↔∃o∈ordsN ns.length ns.length,nbI hs o=x:=λx=>by rw[pr.mem_iff,g.iff_,lx,ZD,Qt]
   refine⟨t,rfl,⟨_,SqL.of et⟩,λpl npl=>?_⟩;refine Qj8 rw0.length (Qgn (by omega)) (λi=>if okR (rw0.getD i [])=true then some (QbU (rw0.getD i [])) else none) (λi _ d e=>?_) npl (λi H5 hi s5 _=>?_) (λH5 s5=>⟨ys,SqL.of (s5 _ _ et),by omega⟩) λH5 zs s5 ez dz=>?_
   ·split at e
    ·cases e;exact QeF _
    ·cases e
   ·have hi':i<ys.length:=by omega
    refine⟨⟨ys,ys[i],SqL.of (s5 _ _ et),Qd hi'⟩,λz H6 ⟨eH,ev⟩ kn kv h1 h2=>?_⟩;subst eH;obtain⟨_,t',rfl,et'⟩:=Qpg dt (ev ys (SqL.of (s5 _ _ et)));have et':=s5 _ _ et';obtain⟨c,cs,ec⟩:∃c cs,rw0.getD i []=c::cs:=by
     obtain⟨o,om,eo⟩:=(memR _).mp (QmQ (l:=rw0) (d:=[]) hi);have:=congrArg QgO eo;rw[Qgg,Qcc om] at this
     match rw0.getD i [],this with
     |[],h=>exact absurd (show ns.length=0 from h) (by omega)
     |c::cs,_=>exact⟨c,cs,rfl⟩
    have et2:=et';rw[ec] at et2;refine⟨trivial,_,rfl,t',_,0,.int c,rfl,rfl,SqT.of et2,Qb0 (j:=0) rfl,c,0,rfl,rfl,_,rfl,?_⟩;cases hc:decide (0<=c) with
    |false=>exact QdW (h1 (if_neg (by rw[ec];show ¬(decide (0<=c)&&nfI (c::cs))=true;rw[hc];exact Qx)) _ (Same.refl _))
    |true=>
     refine QeM ⟨_,rfl,Qkg [tI (c::cs)] (λd=>d=.bool (nfI (c::cs))) (.cons (Qwc et2) .nil) ⟨_,rfl,rfl⟩ λd hd v H7 s7 da7 _=>?_⟩;subst hd;cases da7;refine⟨_,rfl,?_⟩;cases hn:nfI (c::cs) with
     |false=>exact QdW (h1 (if_neg (by rw[ec];show ¬(decide (0<=c)&&nfI (c::cs))=true;rw[hc,hn];decide)) _ s7)
     |true=>exact QeM ⟨_,rfl,h2 _ _ _ (if_pos (by rw[ec];show(decide (0<=c)&&nfI (c::cs))=true;rw[hc,hn];rfl)) s7 (QeO (s7 _ _ et'))⟩
   ·rw[Qhj rw0 [] okR QbU] at dz;have p24:∀(b:Addr)(o:HO),H b=some o->H4 b=some o:=λb o e=>s4 _ _ (g.kp _ _ (JY (s2 _ _ (s1 _ _ e)) np) (s2 _ _ (s1 _ _ e)))
    have npl':H pl=none:=by
     cases e:H pl with
     |none=>rfl
     |some o=>have:=p24 _ _ e;rw[npl] at this;cases this
    refine k pl zs (rw0.filter okR) H5 (λb o e=>s5 _ _ (p24 _ _ e)) npl' ez dz (QbE _ (pr.nodup_iff.mpr g.nd)) (λx=>?_) (Qxe (List.Sublist.map _ List.filter_sublist) pw);rw[Za,memR]
end
end Rk
namespace Rk
open L2 _root_.Rd
open Dl
open Rt
def Quz:Sp:=λvs H Q _=>∃(m:Nat),vs=[.int (m:Nat)]/\m<=6/\∀l H' ys,Same H H'->H l=none->H' l=some (.lst ys)->Dats H' ys ((ordsI m m).map QbU)->Q (.ref l) H'
def Qe0:DF:=λargs R _=>∃ns,args=[.v (tI ns)]/\Qat ns/\∀rows,AllS ns rows->R (.list (rows.map tI))
def Qt3:DF:=λargs R _=>∃x:List Int,args=[.v (tI x)]/\R (.bool (Qfu x))
def Qxx:DF:=λargs R _=>∃ns,args=[.v (tI ns)]/\Qat ns/\∀x,Qrx ns x->Qfu x=true->R (tI x)
def Qxv:DF:=λargs R _=>∃ns ms,args=[.v (tI ns),.v (tI ms)]/\Qat ns/\Qat ms/\ns.length=ms.length/\R (.bool (decide (srtS (hdL ns)=srtS (hdL ms))))
theorem Qs9:∀{ns:List Int},nfI ns=true->ns.Pairwise (·<=·)
 |[],_=>.nil
 |[x],_=>Qjm _ _
 |x::y::r,h=>by
  have h:=Qz.mp (show(decide (x<=y)&&nfI (y::r))=true from h);have ih:=Qs9 h.2;refine Yq.mpr ⟨λz hz=>?_,ih⟩;have hx:=of_decide_eq_true h.1;rcases Qs.mp hz with rfl | hz
  ·exact hx
  ·exact Qbv hx ((Yq.mp ih).1 z hz)
theorem pw_nf:∀{ns:List Int},ns.Pairwise (·<=·)->nfI ns=true
 |[],_=>rfl
 |[x],_=>rfl
 |x::y::r,h=>by
  have h:=Yq.mp h;show(decide (x<=y)&&nfI (y::r))=true;rw[decide_eq_true (h.1 y (.head _)),pw_nf h.2];rfl
theorem Qel:∀(ns ms:List Int),JB (.list (ns.map Qk)) (.list (ms.map Qk))=decide (ns=ms)
 |[],[]=>rfl
 |[],_::_=>rfl
 |_::_,[]=>rfl
 |n::ns,m::ms=>by
  show((n == m)&&JB (.list (ns.map Qk)) (.list (ms.map Qk)))=_;rw[Qel ns ms,YH];simp
theorem Quw{ns ms:List Int}(p:ms.Perm ns)(s:ms.Pairwise (·<=·)):decide (ns=ms)=nfI ns:=by
 rw[YH,decide_eq_true_eq];constructor
 ·intro e;rw[e];exact pw_nf s
 ·intro e;exact(YX (le:=λa b=>a<=b) (λa b _ _ h1 h2=>Qg2 h1 h2) s (Qs9 e) p).symm
theorem Qm7(ns:List Int):(QkZ (ns.map Qk)).depth<=50:=by
 show Jg (ns.map Qk)+1<=50;have:=QcC (n:=0) (ds:=ns.map Qk) λd hd=>by obtain⟨p,_,rfl⟩:=Qt.mp hd;exact Qg _
 omega
theorem QtL{items:List Qa}{wg:DG}{we:DE}{δ:Sts}{Q:Qa->Prop}{L:List Qa}(G:Qa->Qa)(e:items.map G=L)
  (h:∀d∈items,∀(k2:Qa->Prop),k2 (G d)->wg d δ λδ4=>we δ4 k2 XF)(q:Q (.list L)):QgK items wg QtG we δ Q:=QdY G h (by rw[e];exact q)
theorem Qgt(p:List Int->Bool):∀rows:List (List Int),(rows.map tI).filterMap (λd=>if p (unT d)=true then some d else none)=(rows.filter p).map tI
 |[]=>rfl
 |x::r=>by
  rw[Q7,ZP,Qfj,Qgt p r];cases h:p x with
  |true=>rw[Qb3 h];rfl
  |false=>rw[Qb4 (by rw[h];exact Qx)];rfl
theorem Qrk:∀m:Fin 7,ordsI m.val m.val=(ordsN m.val m.val).map λo=>o.map λ(x:Nat)=>(x:Int):=by decide +kernel
theorem QsX{m:Nat}(h:m<=6):(ordsI m m).map QbU=(ordsN m m).map tNn:=by
 have e:=Qrk ⟨m,by omega⟩;have e:ordsI m m=(ordsN m m).map λo=>o.map λ(x:Nat)=>(x:Int):=e
 rw[e,Je];refine JX λo _=>?_
 show Zk ((o.map λ(x:Nat)=>(x:Int)).map Qk)=.tuple (o.map λ(c:Nat)=>Qk (c:Int));rw[Je];rfl
theorem Qf7{A:Addr->Prop}{H:Hp}(dm:∀a,A a->∃xs,H a=some (.lst xs)):∀(rows:List (List Int))(ys:List V),Dats H ys (rows.map tI)->DAs A H ys (rows.map tI)
 |[],_,.nil=>.nil
 |x::r,_,.cons q qs=>by
  refine .cons ?_ (Qf7 dm r _ qs)
  obtain⟨t,rfl,et⟩:=QeV (ns:=x) q;exact .tup (λz=>by obtain⟨xs,e'⟩:=dm _ z;rw[e'] at et;cases et) et (Qce x)
theorem Qwu{vs:List V}{H:Hp}{Q:VK}{Ex:XK}(h:ZW true Qe0 vs H Q Ex):Qp2 vs H Q Ex:=by
 obtain⟨A,pt,args,R,EX,dm,hp,q,⟨ns,rfl,hs,hR⟩,k,_⟩:=h;cases q with
 |cons q1 q2=>
  cases q2;cases q1 with
  |@tup b xs ds nb e qq=>
   rw[Qbs qq] at e;have ln:(srtS (hdL ns)).length=ns.length:=by rw[(ZZ _).length_eq,QaP]
   refine⟨b,ns,srtS (hdL ns),rfl,e,hs,ZZ _,QbL _,λt ys rows H' s n e' dt nd im sr=>?_⟩;have al:AllS ns rows:=⟨nd,λx=>by
    rw[im x];have:=Qms (hs:=srtS (hdL ns)) (x:=x);rw[ln] at this;rw[this];exact⟨λz=>⟨z.1.trans (ZZ _),z.2⟩,λz=>⟨z.1.trans (ZZ _).symm,z.2⟩⟩,sr⟩
   have dm':∀a,A a->∃xs,H' a=some (.lst xs):=λa z=>by obtain⟨xs,e⟩:=dm a z;exact⟨xs,s _ _ e⟩
   refine k _ (hR rows al) _ H' ⟨λb o _ e=>s _ _ e,λp pp=>?_⟩ (.lst (λz=>by obtain⟨xs,e⟩:=dm _ z;rw[n] at e;cases e) e' (Qf7 dm' rows ys dt)) λ_=>Qay n
   obtain⟨_,m,em⟩:=hp p pp;exact⟨m,s _ _ em⟩
theorem Qtk{vs:List V}{H:Hp}{Q:VK}{Ex:XK}(h:ZW true QkC vs H Q Ex):Quz vs H Q Ex:=by
 obtain⟨A,pt,args,R,EX,dm,hp,q,⟨n,rfl,n6,hR⟩,k,_⟩:=h;cases q with
 |cons q1 q2=>
  cases q2;cases q1;refine⟨n,rfl,n6,λt H' ys s n' e' dt=>?_⟩;have e:=Qrk ⟨n,by omega⟩;have dm':∀a,A a->∃xs,H' a=some (.lst xs):=λa z=>by obtain⟨xs,e⟩:=dm a z;exact⟨xs,s _ _ e⟩
  have da:=Qf7 dm' (ordsI n n) ys dt;have e2:(ordsI n n).map tI=(ordsN n n).map tNn:=QsX n6;rw[e2] at da;refine k _ hR _ H' ⟨λb o _ e=>s _ _ e,λp pp=>?_⟩ (.lst (λz=>by obtain⟨xs,e⟩:=dm _ z;rw[n'] at e;cases e) e' da) λ_=>Qay n'
  obtain⟨_,m,em⟩:=hp p pp;exact⟨m,s _ _ em⟩
def QlI:Qa->Bool
 |.tuple [.int a,.int b]=>decide (b=0)||decide (a<b)
 |_=>false
theorem Qin:∀ns:List Int,(Qg4 (ns.map Qk) (Dl.cutD (ns.map Qk) (some 1) none)).all QlI=Qfu ns
 |[]=>by
  have h:(Qg4 ([]:List Qa) (Dl.cutD [] (some 1) none))=[]:=by unfold Qg4;rfl
  rw[Qe7,h];rfl
 |[x]=>by rw[Q7,Qpw];rfl
 |x::y::r=>by
  have ih:=Qin (y::r);rw[Q7,Qpw] at ih ⊢;show(QlI (.tuple [.int x,.int y])&&(Qg4 (Qk y::r.map Qk) (r.map Qk)).all QlI)=_;rw[ih];rfl
section
variable{P:QB}{w:Q8}{K:PySem.W.Frag}{mg:Str->Option Value}{base:Heap}
theorem QiY:(["_law_one", "_law_row"]:List Str).Nodup:=by decide +kernel
theorem QaH:J3 ["_law_many", "_law_found", "_law_turn", "_law_longer", "_law_row"] ["_law_many"] (QJ QdD):=⟨rfl,rfl,rfl,by decide +kernel,rfl,by decide +kernel,by decide +kernel⟩
theorem QkH{f   : Addr}{fd  : Q1}(F:Fun K "_law_orders" "_law_orders" QdD f fd)(T:GlbA mg) :
  FnOk P w K mg base CX0 1 f fd ["_law_many"] Quz:=by
 refine F.ok QaH (λvs H Q E h=>?_) (λcdv A outer s H vs Q E hr h=>?_)
 ·obtain⟨m,rfl,_⟩:=h;rfl
 ·obtain⟨m,rfl,hm6,k⟩:=h;have un:=hr.units;refine⟨_,Zs (Qbx (i:=1) QaH.nd rfl (by first | exact Jw rfl | exact Ju rfl) (QiP (Qfc (QiO JN) JN)))
   (Zs (QjB ZH rfl (Qc3 (by rfl) T.range (Jr (pv 0) JN)) (Qa8 (i:=2) QaH.nd rfl (by first | exact Jw rfl | exact Ju rfl))
    (Zs (Qbx (i:=3) QaH.nd rfl (by first | exact Jw rfl | exact Ju rfl) (QiP JN))
   (Zs (QjB ZH rfl (Qgc (pv 1)) (Qa8 (i:=4) QaH.nd rfl (by first | exact Jw rfl | exact Ju rfl))
    (Yd (QiN (Qu9 PySem.F.plainAttrs_list PySem.F.slot_list_extend PySem.F.type_list_extend Qmt (pv 3) (Jr (Qeh (M:=["_law_one", "_law_row"]) (cap:=[none,some 4]) (g:=(QcA 0)) (tc:=(Qob (tOp (rIn K true) (Qfa 0) (Qfa 1)))) (te:=(tOp Qst (Qfa 1) (Quu (Qd4 (Qfa 0) QpX)))) rfl (by rfl) (Qc3 (by rfl) T.range (Jr (pv 0) JN)) (λcl ex s3 H3 C=>⟨(Qa8 (i:=0) QiY rfl (Jw rfl) (Ju rfl)),(QiL (QbQ Qhu (pv 0) (pv 1) (by rfl))),(Qbf Qmb (pv 1) (QiO (Qfc (pv 0) JN)))⟩)) JN)))))
   (Yd (Qbx (i:=1) QaH.nd rfl (by first | exact Jw rfl | exact Ju rfl) (pv 3))))))
   (Yd (Qar (pv 1)))),?_⟩
  refine⟨Qq _,λt0 H1 s1 n1 e1=>⟨by show 1<=1000;decide,λl0 H2 s2 n2 e2=>?_⟩⟩;refine⟨_,rfl,_,rfl,by omega,by omega,QhJ (n:=m) (λi σ H3=>∃l v2 v3 v4 ys,σ=[some (.int (m:Nat)),some (.ref l),v2,v3,v4]/\Same H H3/\H l=none/\H3 l=some (.lst ys)/\Dats H3 ys ((ordsI m i).map QbU))
   ⟨l0,none,none,none,_,rfl,s1.trans s2,s1.free n2,e2,.cons (QeO (ns:=[]) (s2 _ _ e1)) .nil⟩ ?_ ?_⟩
  ·rintro i σ H3 hi ⟨l,v2,v3,v4,ys,rfl,s3,nl,e3,d3⟩;have hlen:ys.length=(ordsI m i).length:=by have:=d3.length;rwa [Qf] at this
   have hsm:=QiS hm6 (show i<=6 by omega);refine⟨Qq _,λll H4 s4 n4 e4=>?_⟩;have nll:l≠ll:=(Qte e3 n4).symm;have nHll:H ll=none:=s3.free n4;refine⟨_,rfl,l,rfl,⟨ys,SqL.of (s4 _ _ e3)⟩,Qps (K:=K) (a:=l) (xs:=ys) (λk' σ H5=>∃v4 zs,σ=[some (.int (m:Nat)),some (.ref l),some (.int (0+(i:Int))),some (.ref ll),v4]/\KX ll H4 H5/\H5 ll=some (.lst zs)/\Dats H5 zs ((((ordsI m i).take k').flatMap λo=>(Qbq m o).map λx=>o++[x]).map QbU))
    ⟨_,[],rfl,KX.refl _ _,e4,.nil⟩ (λ_ _ _ _ ⟨_,_,_,x5,_⟩=>SqL.of (x5 _ _ nll (s4 _ _ e3))) ?_ ?_⟩
   ·rintro k' x σ H5 hk' ⟨v4',zs,rfl,x5,l5,d5⟩;have hk2:k'<(ordsI m i).length:=by
     have:=(QQ.mp hk').1;omega
    obtain⟨d,hd,qd⟩:=d3.get k' x hk';have ed:d=QbU ((ordsI m i).getD k' []):=by
     rw[Qy,Qd hk2] at hd;cases hd;rw[Ql,Qd hk2];rfl
    subst ed;have olen:((ordsI m i).getD k' []).length<=6:=by
     rw[Ql,Qd hk2];have:=Qhs (Yi hk2);show(ordsI m i)[k'].length<=6;omega
    obtain⟨t,rfl,et⟩:=QeV qd;have tk:=Qln [] hk2;generalize (ordsI m i).getD k' []=o at *;have nt:t≠ll:=(Qte et n4).symm;have et5:=x5 _ _ nt (s4 _ _ et);have zlen:zs.length<=46656*6:=by
     have h1:=d5.length;rw[Qf] at h1;have key:∀q:List (List Int),(q.flatMap λo=>(Qbq m o).map λx=>o++[x]).length<=q.length*6:=λq=>by
      induction q with
      |nil=>simp
      |cons o q ih=>
       rw[QaA,Qv,Qf,Qr,QcR];have:=QbS m o;omega
     have h2:=key ((ordsI m i).take k');have h3:((ordsI m i).take k').length<=46656:=by rw[Jl];omega
     omega
    refine⟨_,rfl,.inl ⟨rfl,_,SqL.of l5⟩,_,rfl,(m:Nat),rfl,by omega,by omega,λpl hpl=>?_⟩;have npl:pl≠ll:=Qte l5 hpl;refine Qj8 m (Qgn (by omega)) (λj=>if(j:Int)∈o then none else some (QbU (o++[(j:Int)]))) (λj _ d e=>?_) hpl (λj H6 hj s6 _=>?_) (λH6 s6=>?_) λH6 ws s6 e6 d6=>?_
    ·split at e
     ·cases e
     ·cases e;exact QeF _
    ·refine⟨by show j<_;omega,λy H7 ⟨eH,ev⟩ kn kv h1 h2=>?_⟩;subst eH ev;refine⟨⟨rfl,trivial⟩,_,rfl,_,rfl,t,_,rfl,.inr (SqT.of (s6 _ _ et5)),rfl,Qm0 o,_,rfl,?_⟩;rw[Int.zero_add (j:Int),Qtt];by_cases hm:(j:Int)∈o
     ·rw[decide_eq_true hm];exact QdW (h1 (if_pos hm) _ (Same.refl _))
     ·rw[decide_eq_false hm];refine QeM ⟨_,rfl,_,rfl,by show 1<=1000;decide,λt2 H9 s9 n9 e9=>⟨t,t2,_,_,rfl,rfl,s9 _ _ (s6 _ _ et5),e9,?_,λt3 H10 s10 e10=>?_⟩⟩
      ·rw[Qf];exact Zz (Qgn (by show o.length+1<=_;omega))
      ·refine h2 _ _ H10 (if_neg hm) (s9.trans s10) (QeO ?_);rw[e10,Jj];rfl
    ·show _<=_;omega
    ·have e:(Qm m).filterMap (λ(j:Nat)=>if(j:Int)∈o then none else some (QbU (o++[(j:Int)])))=((Qbq m o).map λx=>o++[x]).map QbU:=by
      unfold Qbq;rw[Yr,Yr];refine congrArg (λg=>Qh9 g (Qm m)) (funext λj=>?_);by_cases hm:(j:Int)∈o
      ·rw[if_pos hm,if_pos hm];rfl
      ·rw[if_neg hm,if_neg hm];rfl
     rw[e] at d6;have wlen:ws.length<=6:=by
      have h1:=d6.length;rw[Qf,Qf] at h1;have:=QbS m o;omega
     have l6:=s6 _ _ l5;refine⟨ll,pl,zs,ws,rfl,rfl,l6,e6,Zz (Qgn (by omega)),?_⟩;refine⟨_,zs++ws,rfl,(x5.trans (KX.of s6)).trans KX.upd,Jp,?_⟩;have nL:∀q:List (List Int),QnS (q.map QbU)=true:=λq=>Qgf λd hd=>by
      obtain⟨y,_,rfl⟩:=Qt.mp hd;exact QeF y
     rw[tk,Qbb,Jj];refine(QbX l6 _ _ (nL _) (d5.same s6)).app ?_
     rw[List.flatMap_singleton];exact QbX l6 _ _ (nL _) d6
   ·rintro σ H5 ⟨v4',zs,rfl,x5,l5,d5⟩;rw[hlen,ZD] at d5;refine⟨_,rfl,ll,_,_,_,zs,rfl,λb ob eb=>x5 b ob (JY eb nHll) (s4 _ _ (s3 b ob eb)),nHll,l5,d5⟩
  ·rintro σ H3 ⟨l,v2,v3,v4,ys,rfl,s3,nl,e3,d3⟩;exact⟨_,rfl,k l H3 ys s3 nl e3 d3⟩
end
section
variable{P:QB}{w:Q8}{K:PySem.W.Frag}{mg:Str->Option Value}{base:Heap}
theorem Qmp:(["one", "other"]:List Str).Nodup:=by decide +kernel
theorem QuI:J3 ["numbers"] ["numbers"] (QJ sIsR):=⟨rfl,rfl,rfl,by decide +kernel,rfl,by decide +kernel,by decide +kernel⟩
theorem QvE{f   : Addr}{fd  : Q1}(F:Fun K "is_risen" "is_risen" sIsR f fd)(T:GlbA mg) :
  FnOk P w K mg base CX0 1 f fd ["numbers"] (ZW false Qt3):=by
 refine okQ false F QuI (λargs R EX h=>?_) (λcdv A outer s H E hr=>?_)
 ·obtain⟨x,rfl,_⟩:=h;rfl
 ·have hU:=Room.u60 hr;have hI:=Room.i60 hr;refine⟨_,Zb (Qbp (YF Qda (Qkf rfl) (by rfl) T.all QhV (Qc1 (JL (Qcr ["one", "other"] [none,none] (QiI (by rfl) T.zip (qp 0) (JL (QiJ (qp 0) (QiG (Yc Qac)) QiH))) (λcl ex s3 H3 C=>⟨(QeA rfl (Qab 0 (Qab 1 QeB Qmp rfl (Jw rfl) (Ju rfl)) Qmp rfl (Jw rfl) (Ju rfl))),Qa7,(QxG (JL (Qga QeD (QiV hU) (qp 1) (Yc Qac) (Z1 _))) (QiK (Qao (Qga Qvs QfD (qp 0) (qp 1) (Z1 _)))))⟩))) ZI))),λargs R EX h=>?_⟩;obtain⟨x,rfl,hR⟩:=h;refine QdY (λd=>.bool (QlI d)) (λd hd k2 hk=>?_) (QgJ (items:=Qg4 (x.map Qk) (Dl.cutD (x.map Qk) (some 1) none)) rfl (by rw[Qin];exact hR));obtain⟨i,hi⟩:=Jc.mp hd;obtain⟨a,b,ha,hb,rfl⟩:=Dl.zip_get hi;obtain⟨x,_,rfl⟩:=Qt.mp (QD ha);obtain⟨y,_,rfl⟩:=Qt.mp (QgA (QD hb));refine⟨rfl,?_⟩;have hk:k2 (.bool (decide (y=0)||decide (x<y))):=hk;show if decide (y=0)=true then k2 (.bool true) else k2 (.bool (decide (x<y)))
  cases z:decide (y=0) with
  |true=>rw[z] at hk;exact QeM hk
  |false=>rw[z] at hk;exact QdW hk
theorem QjM:(["_law_one", "_law_other"]:List Str).Nodup:=by decide +kernel
theorem Qso:J3 ["_law_row"] ["_law_row"] (QJ QfH):=⟨rfl,rfl,rfl,by decide +kernel,rfl,by decide +kernel,by decide +kernel⟩
theorem Qs4{f   : Addr}{fd  : Q1}(F:Fun K "_law_rises" "_law_rises" QfH f fd)(T:GlbA mg) :
  FnOk P w K mg base CX0 1 f fd ["_law_row"] (ZW false Qt3):=by
 refine okQ false F Qso (λargs R EX h=>?_) (λcdv A outer s H E hr=>?_)
 ·obtain⟨x,rfl,_⟩:=h;rfl
 ·have hU:=Room.u60 hr;have hI:=Room.i60 hr;refine⟨_,Zb (Qbp (YF Qda (Qkf rfl) (by rfl) T.all QhV (Qc1 (JL (Qcr ["_law_one", "_law_other"] [none,none] (QiI (by rfl) T.zip (qp 0) (JL (QiJ (qp 0) (QiG (Yc Qac)) QiH))) (λcl ex s3 H3 C=>⟨(QeA rfl (Qab 0 (Qab 1 QeB QjM rfl (Jw rfl) (Ju rfl)) QjM rfl (Jw rfl) (Ju rfl))),Qa7,(QxG (JL (Qga QeD (QiV hU) (qp 1) (Yc Qac) (Z1 _))) (QiK (Qao (Qga Qvt QfD (qp 1) (qp 0) (Z1 _)))))⟩))) ZI))),λargs R EX h=>?_⟩;obtain⟨x,rfl,hR⟩:=h;refine QdY (λd=>.bool (QlI d)) (λd hd k2 hk=>?_) (QgJ (items:=Qg4 (x.map Qk) (Dl.cutD (x.map Qk) (some 1) none)) rfl (by rw[Qin];exact hR));obtain⟨i,hi⟩:=Jc.mp hd;obtain⟨a,b,ha,hb,rfl⟩:=Dl.zip_get hi;obtain⟨x,_,rfl⟩:=Qt.mp (QD ha);obtain⟨y,_,rfl⟩:=Qt.mp (QgA (QD hb));refine⟨rfl,?_⟩;have hk:k2 (.bool (decide (y=0)||decide (x<y))):=hk;show if decide (y=0)=true then k2 (.bool true) else k2 (.bool (decide (x<y)))
  cases z:decide (y=0) with
  |true=>rw[z] at hk;exact QeM hk
  |false=>rw[z] at hk;exact QdW hk
theorem Qtc:(["numbers"]:List Str).Nodup:=by decide +kernel
theorem QuF:J3 ["stairs"] ["stairs"] (QJ Qfr):=⟨rfl,rfl,rfl,by decide +kernel,rfl,by decide +kernel,by decide +kernel⟩
theorem Qvy{f f1 f2  : Addr}{fd fd1 fd2:Q1}(F:Fun K "risen" "risen" Qfr f fd)(T:GlbA mg)
  (m1:mg "all_stairs" = some (.ref f1))(G1:FnOk P w K mg base CX0 6 f1 fd1 ["stairs"] (ZW true Qe0))(b1:Binds K fd1 ["stairs"] [])(k1:PySem.W.keepIn K (.ref f1)=true)
  (m2:mg "is_risen" = some (.ref f2))(G2:FnOk P w K mg base CX0 1 f2 fd2 ["numbers"] (ZW false Qt3))(b2:Binds K fd2 ["numbers"] [])(k2:PySem.W.keepIn K (.ref f2)=true) :
  FnOk P w K mg base CX0 7 f fd ["stairs"] (ZW false Qxx):=by
 refine okQ false F QuF (λargs R EX h=>?_) (λcdv A outer s H E hr=>?_)
 ·obtain⟨ns,rfl,_⟩:=h;rfl
 ·have hU:=Room.u60 hr;have hI:=Room.i60 hr;refine⟨_,Zb (QbP (Qsy QeK QiU (JL (Qcr ["numbers"] [none] (Qcv (JL (YE G1 (hr.mono (by decide)) (by rfl) m1 k1 b1 Yw (QbH (qv 0) ZL)))) (λcl ex s3 H3 C=>⟨(Qan 0 Qtc rfl (Jw rfl) (Ju rfl)),(Qf9 (Qex (Yc (QaZ G2 (hr.mono (by decide)) (by rfl) m2 k2 b2 Yw (QbH (qv 0) ZL))))),(qv 0)⟩))) (Yc Qac) (λ_ _=>rfl))),λargs R EX h=>?_⟩;obtain⟨ns,rfl,hs,hR⟩:=h;refine⟨ns,rfl,hs,λrows ha=>?_⟩;obtain⟨x,ix,rx,ux⟩:=QlH hs;refine QtM (λd=>if Qfu (unT d)=true then some d else none) (λd hd k1 k2 h1 h2=>?_) ?_
  ·obtain⟨y,_,rfl⟩:=Qt.mp hd;refine⟨y,rfl,?_⟩;rw[Qfj] at h1 h2;show if Qfu y=true then k2 (tI y) else k1
   cases r:Qfu y with
   |true=>exact QeM (h2 _ (by rw[r];rfl))
   |false=>exact QdW (h1 (by rw[r];rfl))
  ·rw[Qgt Qfu,QmW ha.nd ((ha.iff_ x).mpr ix) rx λy hy ry=>ux y ((ha.iff_ y).mp hy) ry];exact⟨_,Qb0 (j:=0) rfl,hR x ix rx⟩
theorem QuE:J3 ["one", "other"] ["one", "other"] (QJ Qfq):=⟨rfl,rfl,rfl,by decide +kernel,rfl,by decide +kernel,by decide +kernel⟩
theorem Qvx{f f1 f2  : Addr}{fd fd1 fd2:Q1}(F:Fun K "same_counts" "same_counts" Qfq f fd)(T:GlbA mg)
  (m1:mg "refuse_no_stairs" = some (.ref f1))(G1:FnOk P w K mg base CX0 4 f1 fd1 ["stairs"] (ZW false Qou))(b1:Binds K fd1 ["stairs"] [])(k1:PySem.W.keepIn K (.ref f1)=true)
  (m2:mg "heads" = some (.ref f2))(G2:FnOk P w K mg base CX0 5 f2 fd2 ["stairs"] (ZW true QdX))(b2:Binds K fd2 ["stairs"] [])(k2:PySem.W.keepIn K (.ref f2)=true) :
  FnOk P w K mg base CX0 6 f fd ["one", "other"] (ZW false Qxv):=by
 refine okQ false F QuE (λargs R EX h=>?_) (λcdv A outer s H E hr=>?_)
 ·obtain⟨ns,ms,rfl,_⟩:=h;rfl
 ·have hU:=Room.u60 hr;have hI:=Room.i60 hr;refine⟨_,JQ (QiF (Yc (QaZ G1 (hr.mono (by decide)) (by rfl) m1 k1 b1 Yw (QbH (qv 0) ZL))))
   (JQ (QiF (Yc (QaZ G1 (hr.mono (by decide)) (by rfl) m1 k1 b1 Yw (QbH (qv 1) ZL))))
   (JQ (Qhl (Qey Qrm (QvF hU) (JL (YF Qbg QfM (by rfl) T.len QbZ (Qc1 (qp 0) ZI))) (JL (YF Qbg QfM (by rfl) T.len QbZ (Qc1 (qp 1) ZI))) (Z1 _)) Qhk QbN)
   (Zb (Qbp (Qga QeD (QiV hU) (JL (YE G2 (hr.mono (by decide)) (by rfl) m2 k2 b2 Yw (QbH (qv 0) ZL))) (JL (YE G2 (hr.mono (by decide)) (by rfl) m2 k2 b2 Yw (QbH (qv 1) ZL))) (Z1 _)))))),λargs R EX h=>?_⟩
  obtain⟨ns,ms,rfl,hs,hm,el,hR⟩:=h;refine⟨ns,rfl,hs,⟨ms,rfl,hm,ifF ?_ ⟨ns,rfl,hs,λa pa wa=>⟨ms,rfl,hm,λb pb wb=>⟨⟨Qad _,Qad _,.inl (Qm7 _)⟩,?_⟩⟩⟩⟩⟩
  ·show(!decide (((ns.map Qk).length:Int)=(ms.map Qk).length))=false;rw[Qf,Qf,decide_eq_true (by omega)];rfl
  ·rw[Qel,Qeu (pa.trans (ZZ _).symm) wa (QbL _),Qeu (pb.trans (ZZ _).symm) wb (QbL _)];exact hR
theorem Qmo:(["_law_place", "_law_one", "_law_left"]:List Str).Nodup:=by decide +kernel
theorem Qhg:J3 ["_law_stairs_here", "_law_left", "_law_found", "_law_order", "_law_row"] ["_law_stairs_here"] (QJ lAll):=⟨rfl,rfl,rfl,by decide +kernel,rfl,by decide +kernel,by decide +kernel⟩
theorem QvD{f f1 f2  : Addr}{fd fd1 fd2:Q1}(F:Fun K "_law_all" "_law_all" lAll f fd)(T:GlbA mg)
  (m1:mg "_law_heads" = some (.ref f1))(G1:FnOk P w K mg base CX0 1 f1 fd1 ["_law_stairs_here"] (ZW true QdX))(b1:Binds K fd1 ["_law_stairs_here"] [])(k1:PySem.W.keepIn K (.ref f1)=true)
  (m2:mg "_law_orders" = some (.ref f2))(G2:FnOk P w K mg base CX0 1 f2 fd2 ["_law_many"] (ZW true QkC))(b2:Binds K fd2 ["_law_many"] [])(k2:PySem.W.keepIn K (.ref f2)=true) :
  FnOk P w K mg base CX0 2 f fd ["_law_stairs_here"] (ZW true Qe0):=by
 refine okQ true F Qhg (λargs R EX h=>?_) (λcdv A outer s H E hr=>?_)
 ·obtain⟨ns,rfl,_⟩:=h;rfl
 ·have hU:=Room.u60 hr;have hI:=Room.i60 hr;refine⟨_,JQ (QbO 1 (Qao (YE G1 (hr.mono (by decide)) (by rfl) m1 k1 b1 Yw (QbH (qv 0) ZL))) Qhg.nd)
   (JQ (QiE 2 (Qsx ZI) Qhg.nd)
   (JQ (Qfw ZH rfl (Qcv (Qao (YE G2 (hr.mono (by decide)) (by rfl) m2 k2 b2 Yw (QbH (Qao (YF Qbg QfM (by rfl) T.len QbZ (Qc1 (qp 0) ZI))) ZL)))) (Qan 3 Qhg.nd rfl (by first | exact Jw rfl | exact Ju rfl))
    (JQ (QbO 4 (Qao (Qef Qcs Qke (by rfl) T.tuple Qdb (Qc1 (JL (Qcr ["_law_place", "_law_one", "_law_left"] [none,none,some 1] (Qee (by rfl) T.enumerate (qp 3)) (λcl ex s3 H3 C=>⟨(QeA rfl (Qab 0 (Qab 1 QeB Qmo rfl (Jw rfl) (Ju rfl)) Qmo rfl (Jw rfl) (Ju rfl))),Qa7,(Qao (Qfb Qcw QeE (Yc (Qsy QeK QiU (qp 2) (qp 1) (λ_ _=>rfl))) (qp 0)))⟩))) ZI))) Qhg.nd)
   (Zb (Qhl (QxF (QuW (Qey Qs1 QfD (Yc (Qsy QeK QiU (qp 4) (Yc Qac) (λ_ _=>rfl))) (Yc Qac) (Z1 _)) (Qsu (Qey QeD (QiV hU) (JL (Qef QgG QtR (by rfl) T.list Qjf (Qc1 (qp 4) ZI))) (JL (YF QdJ Qjc (by rfl) T.sorted Qdc (Qc1 (qp 4) ZI))) (Z1 _))))) (Zb (Qra 2 (qv 4))) QbN))))
   (Zb (Qbp (Qkz hU (by rfl) T.sorted (by rfl) T.set (qp 2)))))),λargs R EX h=>?_⟩
  obtain⟨ns,rfl,hs,hR⟩:=h;have l6:=hs.l6;have l1:=hs.l1;have few:=QeC l6;refine⟨ns,rfl,hs,λhh pm pw=>?_⟩;have lh:hh.length=ns.length:=by rw[pm.length_eq,QaP]
  refine⟨ns.length,by rw[Qf],l6,?_⟩;refine QhK (λi δ=>∃x3 x4,δ=[.v (tI ns),.v (.list (hh.map Qk)),.own (((((ordsN ns.length ns.length).take i).map (nbI hh)).filter okR).map tI),x3,x4]) ⟨_,_,rfl⟩ ?_ ?_
  ·rintro i d δ hd ⟨x3,x4,rfl⟩;obtain⟨o,ho,rfl⟩:∃o,(ordsN ns.length ns.length)[i]? = some o/\tNn o=d:=by
    rw[Qy] at hd;cases e:(ordsN ns.length ns.length)[i]? with
    |none=>rw[e] at hd;cases hd
    |some o=>rw[e] at hd;cases hd;exact⟨o,rfl,rfl⟩
   have om:=QD ho;have ol:=Qcc om;have e:((ordsN ns.length ns.length).take (i+1)).map (nbI hh)=((ordsN ns.length ns.length).take i).map (nbI hh)++[nbI hh o]:=by rw[Z6,ho,Jj];rfl
   have len:(nbI hh o).length=ns.length:=by rw[Qgg,ol]
   obtain⟨c,cs,ex⟩:∃c cs,nbI hh o=c::cs:=by
    match nbI hh o,len with
    |[],h=>exact absurd (show 0=ns.length from h) (by omega)
    |c::cs,_=>exact⟨c,cs,rfl⟩
   rw[ex] at e len;have len:cs.length+1=ns.length:=len;have em:=Qm3 hh o;rw[ex] at em;have eF:(((ordsN ns.length ns.length).take (i+1)).map (nbI hh)).filter okR=(((ordsN ns.length ns.length).take i).map (nbI hh)).filter okR++(if okR (c::cs)=true then[c::cs] else[]):=by
    rw[e,List.filter_append];cases h:okR (c::cs) with
    |true=>rw[Qb3 h];rfl
    |false=>rw[Qb4 (by rw[h];exact Qx)];rfl
   have fl:=QaG okR (((ordsN ns.length ns.length).take i).map (nbI hh));rw[Qf,Jl] at fl;rw[eF];generalize ((((ordsN ns.length ns.length).take i).map (nbI hh)).filter okR)=rows at fl ⊢;have ok:okR (c::cs)=(decide (0<=c)&&nfI (c::cs)):=rfl;rw[ok];refine QtL (λd=>match d with | .tuple [.int p,.int a]=>.int (hh.getD a.toNat 0+p) | _=>.none) em (λd hd k2 hk=>?_) ?_
   ·obtain⟨j,hj⟩:=Jc.mp hd;obtain⟨q,hq,rfl⟩:=Qc6 hj;obtain⟨x,hx,rfl⟩:=Qt.mp (QD hq);have hx:=Qge om x hx;refine⟨rfl,.int (hh.getD x 0),Qb0 (j:=x) ?_,hk⟩;rw[Qy,Qd (by omega),Ql,Qd (by omega)];rfl
   ·refine⟨.int c,Qb0 (j:=0) rfl,?_⟩;refine ifC (λz=>?_) λz=>?_
    ·rw[show decide (0<=c)=true from z,Qb6];refine(Qiz (ds:=(c::cs).map Qk) (ns:=c::cs) (QdK _) (by show cs.length+1<_;omega) λms pm pw=>?_).2;refine⟨⟨Qad (c::cs),Qad _,.inl (Qm7 (c::cs))⟩,?_⟩;rw[Qel (c::cs) ms,Quw pm pw];refine ifC (λz2=>?_) λz2=>?_
     ·refine⟨by rw[Qf];show _<1000000;omega,.v (tNn o),.v (tI (c::cs)),?_⟩;rw[z2,Jj];rfl
     ·refine⟨.v (tNn o),.v (tI (c::cs)),?_⟩;rw[z2,Jj];show _=[_,_,Sl.own (rows.map tI++[]),_,_];rw[JA];rfl
    ·rw[show decide (0<=c)=false from z,Qul];refine⟨.v (tNn o),.v (tI (c::cs)),?_⟩;rw[Jj];show _=[_,_,Sl.own (rows.map tI++[]),_,_];rw[JA];rfl
  ·rintro δ ⟨x3,x4,rfl⟩;rw[Qf,ZD];refine Qop _ ?_ λrows nd im sr=>hR rows ⟨nd,λx=>?_,sr⟩
   ·have:=QaG okR ((ordsN ns.length ns.length).map (nbI hh));rw[Qf] at this;omega
   ·rw[im x,Za,Qt];have:=Qms (hs:=hh) (x:=x);rw[lh] at this;rw[this];exact⟨λz=>⟨z.1.trans pm,z.2⟩,λz=>⟨z.1.trans pm.symm,z.2⟩⟩
end
theorem Qlq{α:Type}[DecidableEq α]:∀{L ns:List α},L.Nodup->(∀x∈L,x∈ns)->L.length<=ns.length
 |[],_,_,_=>Qq _
 |x::L,ns,nd,h=>by
  obtain⟨n1,n2⟩:=Z8.mp nd;have hx:=h x (.head _);have:=Qlq (ns:=ns.erase x) n2 λy hy=>(Qle λ(e:y=x)=>n1 (by rw[<- e];exact hy)).mpr (h y (.tail _ hy))
  rw[Qik hx] at this;have:=Qcq hx;rw[Qr];omega
theorem AllS.len{ns:List Int}{rows:List (List Int)}(h:AllS ns rows)(hs:Qat ns):rows.length<=720:=by
 have few:=QeC hs.l6;have:=Qlq (ns:=(ordsN ns.length ns.length).map (nbI (hdL ns))) h.nd λx hx=>by
  have e:=Qms (hs:=hdL ns) (x:=x);rw[QaP] at e;exact Qt.mpr (e.mpr ((h.iff_ x).mp hx).1)
 rw[Qf] at this;omega
theorem QrG{items:List Qa}{wg:DG}{wt:DT}{we:DE}{δ:Sts}{Q:Qa->Prop}{L:List Qa}(G:Qa->Option Qa)(e:items.filterMap G=L)
  (h:∀d∈items,∀(k1:Prop)(k2:Qa->Prop),(G d=none->k1)->(∀e,G d=some e->k2 e)->wg d δ λδ4=>wt δ4 (λb=>if b=true then we δ4 k2 XF else k1) XF)(q:Q (.list L)) :
  QgK items wg wt we δ Q:=QtM G h (by rw[e];exact q)
def le6(x:List Int):Bool:=match x.getLast? with
 |some q=>decide (q<=6)
 |none=>false
theorem Qgo(qs:List Int)(q:Int):le6 (qs++[q])=decide (q<=6):=by
 unfold le6;rw[List.getLast?_concat]
theorem QvO{ns:List Int}(h:Qat ns):le6 ns=true:=by
 have l1:=h.l1;have ne:ns≠[]:=λe=>by rw[e] at l1;cases l1
 have e:=Yt ne;rw[<- e,Qgo];exact decide_eq_true (h.bd _ (List.getLast_mem ne)).2
theorem Qxu{ns z:List Int}(h:Qat ns)(iz:Qrx ns z)(z6:le6 z=true):Qat z:=by
 have lz:=Qcf iz;have l1:=h.l1;have l6:=h.l6;have ok:=Qz.mp iz.2;have pw:=Qs9 ok.2;have ne:z≠[]:=λe=>by rw[e] at lz;exact absurd (show 0=ns.length from lz) (by omega)
 refine⟨by omega,by omega,λi hi=>⟨?_,?_⟩,ok.2⟩
 ·have z0:=of_decide_eq_true ok.1
  match z,hi,pw,z0 with
  |a::r,hi,pw,z0=>
   have z0:(0:Int)<=a:=z0;rcases Qs.mp hi with e | e
   ·omega
   ·have:=(Yq.mp pw).1 i e;omega
 ·have e:=Yt ne;rw[<- e,Qgo] at z6;have z6:=of_decide_eq_true z6;rw[<- e] at hi pw;rcases Ji.mp hi with q | q
  ·have:=(Jx.mp pw).2.2 i q _ (.head _);omega
  ·rw[Q3.mp q];exact z6
theorem Qmm:∀rows:List (List Int),nd (.list (rows.map tI))=true
 |[]=>rfl
 |x::r=>by
  show(nds (x.map Qk)&&nds (r.map tI))=true;rw[Qad,Qb6];exact Qmm r
theorem QmX{n:Nat}{ns:List Int}(hl:ns.length<=36):Qc5 (n+1) (tI ns)=true:=by
 show(decide ((ns.map Qk).length<=1000)&&(ns.map Qk).all (Qc5 n))=true;rw[Qf,decide_eq_true (by omega),show(ns.map Qk).all (Qc5 n)=true from Jm.mpr λd hd=>by
  obtain⟨p,_,rfl⟩:=Qt.mp hd;cases n<;>rfl];rfl
theorem QmY{rows:List (List Int)}(hl:rows.length<=720)(h:∀y∈rows,y.length<=36):Qc5 3 (.list (rows.map tI))=true:=by
 show(decide ((rows.map tI).length<=1000)&&(rows.map tI).all (Qc5 2))=true;rw[Qf,decide_eq_true (by omega),show(rows.map tI).all (Qc5 2)=true from Jm.mpr λd hd=>by
  obtain⟨p,hp,rfl⟩:=Qt.mp hd;exact QmX (h p hp)];rfl
section
variable{P:QB}{w:Q8}{K:PySem.W.Frag}{mg:Str->Option Value}{base:Heap}
theorem Qtg:(["_law_row"]:List Str).Nodup:=by decide +kernel
theorem Qtf:(["_law_row"]:List Str).Nodup:=by decide +kernel
theorem QbM:J3 ["_law_script", "_law_at", "_law_pot_here", "_law_columns", "_law_stairs_here", "_law_due", "_law_turn", "_law_found", "_law_tall", "_law_few", "_law_other"] ["_law_script"] (QJ sLaw):=⟨rfl,rfl,rfl,by decide +kernel,rfl,by decide +kernel,by decide +kernel⟩
theorem QvC{f f1 f2 f3 f4 f5 f6 f7 f8 f9 f10 f11  : Addr}{fd fd1 fd2 fd3 fd4 fd5 fd6 fd7 fd8 fd9 fd10 fd11:Q1}(F:Fun K "law" "law" sLaw f fd)(T:GlbA mg)
  (m1:mg "_law_cell_at" = some (.ref f1))(G1:FnOk P w K mg base CX0 1 f1 fd1 ["_law_script", "_law_k"] (QcY K))(b1:Binds K fd1 ["_law_script", "_law_k"] [])(k1:PySem.W.keepIn K (.ref f1)=true)
  (m2:mg "_law_pot" = some (.ref f2))(G2:FnOk P w K mg base CX0 1 f2 fd2 ["_law_cell"] (ZW true QxJ))(b2:Binds K fd2 ["_law_cell"] [])(k2:PySem.W.keepIn K (.ref f2)=true)
  (m3:mg "_law_take" = some (.ref f3))(G3:FnOk P w K mg base CX0 1 f3 fd3 ["_law_pot_here", "_law_far"] (ZW true Qoa))(b3:Binds K fd3 ["_law_pot_here", "_law_far"] [])(k3:PySem.W.keepIn K (.ref f3)=true)
  (m4:mg "_law_stairs" = some (.ref f4))(G4:FnOk P w K mg base CX0 2 f4 fd4 ["_law_pot_here", "_law_columns", "_law_most"] (ZW false Qgl))(b4:Binds K fd4 ["_law_pot_here", "_law_columns", "_law_most"] [])(k4:PySem.W.keepIn K (.ref f4)=true)
  (m5:mg "_law_all" = some (.ref f5))(G5:FnOk P w K mg base CX0 2 f5 fd5 ["_law_stairs_here"] (ZW true Qe0))(b5:Binds K fd5 ["_law_stairs_here"] [])(k5:PySem.W.keepIn K (.ref f5)=true)
  (m6:mg "all_stairs" = some (.ref f6))(G6:FnOk P w K mg base CX0 6 f6 fd6 ["stairs"] (ZW true Qe0))(b6:Binds K fd6 ["stairs"] [])(k6:PySem.W.keepIn K (.ref f6)=true)
  (m7:mg "_law_same" = some (.ref f7))(G7:FnOk P w K mg base CX0 5 f7 fd7 ["_law_found", "_law_due"] (ZW false (Qsp 3)))(b7:Binds K fd7 ["_law_found", "_law_due"] [])(k7:PySem.W.keepIn K (.ref f7)=true)
  (m8:mg "_law_rises" = some (.ref f8))(G8:FnOk P w K mg base CX0 1 f8 fd8 ["_law_row"] (ZW false Qt3))(b8:Binds K fd8 ["_law_row"] [])(k8:PySem.W.keepIn K (.ref f8)=true)
  (m9:mg "risen" = some (.ref f9))(G9:FnOk P w K mg base CX0 7 f9 fd9 ["stairs"] (ZW false Qxx))(b9:Binds K fd9 ["stairs"] [])(k9:PySem.W.keepIn K (.ref f9)=true)
  (m10:mg "same_counts" = some (.ref f10))(G10:FnOk P w K mg base CX0 6 f10 fd10 ["one", "other"] (ZW false Qxv))(b10:Binds K fd10 ["one", "other"] [])(k10:PySem.W.keepIn K (.ref f10)=true)
  (m11:mg "_law_heads" = some (.ref f11))(G11:FnOk P w K mg base CX0 1 f11 fd11 ["_law_stairs_here"] (ZW true QdX))(b11:Binds K fd11 ["_law_stairs_here"] [])(k11:PySem.W.keepIn K (.ref f11)=true) :
  FnOk P w K mg base CX0 8 f fd ["_law_script"] (Qfn K):=by
 refine Qzf F QbM (λcdv A outer s H E hr=>?_);have hU:=Room.u60 hr;have hI:=Room.i60 hr;refine⟨_,JQ (Qfw ZH rfl (Qez (by rfl) T.range (JL (YF (Qnn rfl) QtQ (by rfl) T.max Qwp (Qc1 (Yc Qac) (Qc1 (JL (YF (QhS rfl) Qnl (by rfl) T.min QrM (Qc1 (JL (Qu0 0 (by rfl) T.len)) (Qc1 (Yc Qac) ZI)))) ZI))))) (Qan 1 QbM.nd rfl (by first | exact Jw rfl | exact Ju rfl))
    (JQ (Qsv 2 (YE G2 (hr.mono (by decide)) (by rfl) m2 k2 b2 Yw (QbH (Qao (Qu1 0 G1 (hr.mono (by decide)) (by rfl) m1 k1 b1 (qp 1))) ZL)) QbM.nd)
   (JQ (QbO 3 (Qao (Qfb Qcw QeE (Yc Qac) (JL (YE G3 (hr.mono (by decide)) (by rfl) m3 k3 b3 Yw (QdS 2 (QbH Qac ZL)))))) QbM.nd)
   (JQ (QbO 4 (QaZ G4 (hr.mono (by decide)) (by rfl) m4 k4 b4 Yw (QdS 2 (QbH (qv 3) (QbH Qac ZL)))) QbM.nd)
   (JQ (QbO 5 (Qao (YE G5 (hr.mono (by decide)) (by rfl) m5 k5 b5 Yw (QbH (qv 4) ZL))) QbM.nd)
   (JQ (Qfw ZH rfl (Qez (by rfl) T.range (Yc Qac)) (Qan 6 QbM.nd rfl (by first | exact Jw rfl | exact Ju rfl))
    (JQ (QiE 7 (YE G6 (hr.mono (by decide)) (by rfl) m6 k6 b6 Yw (QbH (qv 4) ZL)) QbM.nd)
   (JQ (Qhl (Qfv (Qex (JL (Qgb G7 (hr.mono (by decide)) (by rfl) m7 k7 b7 Yw (Qc1 (qp 7) (Qc1 (qp 5) ZI)))))) (Zb (QbP Qu2)) QbN)
   (Zb (Qra 7 (Qao (QlR ZI)))))))
   (JQ (QlQ ["_law_row"] [none] 8 QbM.nd (Qcv (qp 5)) (λcl ex s3 H3 C=>⟨(Qan 0 Qtg rfl (Jw rfl) (Ju rfl)),(Qf9 (Qex (Yc (QaZ G8 (hr.mono (by decide)) (by rfl) m8 k8 b8 Yw (QbH (qv 0) ZL))))),(qv 0)⟩))
   (JQ (Qhl (QxF (QuV (Qey Qrm (QvF hU) (JL (YF Qbg QfM (by rfl) T.len QbZ (Qc1 (qp 8) ZI))) (Yc Qac) (Z1 _)) (Qp9 (Qfv (Qex (JL (Qgb G7 (hr.mono (by decide)) (by rfl) m7 k7 b7 Yw (Qc1 (Yc (QaZ G9 (hr.mono (by decide)) (by rfl) m9 k9 b9 Yw (QbH (qv 4) ZL))) (Qc1 (Yc (Qsy QeK QiU (qp 8) (Yc Qac) (λ_ _=>rfl))) ZI))))))))) (Zb (QbP Qu2)) QbN)
   (JQ (QlQ ["_law_row"] [none] 9 QbM.nd (Qcv (qp 5)) (λcl ex s3 H3 C=>⟨(Qan 0 Qtf rfl (Jw rfl) (Ju rfl)),(Qf9 (Qey QkF QfD (Yc (Qsy QeK QiU (qp 0) (JL (QxH (Yc Qac))) (λ_ _=>rfl))) (Yc Qac) (Z1 _))),(qv 0)⟩))
   (Zb (Qfw ZH rfl (Qcv (Qao (Qsx (QuY (QaZ G4 (hr.mono (by decide)) (by rfl) m4 k4 b4 Yw (QdS 2 (QbH (qv 3) (QbH Qac ZL)))) (QuY (Qsy QeK QiU (qp 9) (JL (YE G3 (hr.mono (by decide)) (by rfl) m3 k3 b3 Yw (QdS 2 (QbH (Qao (YF Qbg QfM (by rfl) T.len QbZ (Qc1 (qp 9) ZI))) ZL)))) (λ_ _=>rfl)) ZI))))) (Qan 10 QbM.nd rfl (by first | exact Jw rfl | exact Ju rfl))
    (Zb (Qhl (Qfv (Qex (JL (Qgb G7 (hr.mono (by decide)) (by rfl) m7 k7 b7 Yw (Qc1 (Yc (QaZ G10 (hr.mono (by decide)) (by rfl) m10 k10 b10 Yw (QbH (qv 4) (QbH (qv 10) ZL)))) (Qc1 (JL (Qga QeD (QiV hU) (JL (YE G11 (hr.mono (by decide)) (by rfl) m11 k11 b11 Yw (QbH (qv 4) ZL))) (JL (YE G11 (hr.mono (by decide)) (by rfl) m11 k11 b11 Yw (QbH (qv 10) ZL))) (Z1 _))) ZI)))))) (Zb (QbP Qu2)) QbN)))))))))))))
   (Zb (QbP Qu2)),?_⟩
 intro n0 n63;refine⟨⟨by split<;>split<;>omega,by split<;>split<;>omega⟩,Qgs (λi δ=>∃x1 x2 x3 x4 x5 x6 x7 x8 x9 x10,δ=[.scr,x1,x2,x3,x4,x5,x6,x7,x8,x9,x10]) ⟨_,_,_,_,_,_,_,_,_,_,rfl⟩ ?_ ?_⟩
 ·rintro i δ hi ⟨x1,x2,x3,x4,x5,x6,x7,x8,x9,x10,rfl⟩;refine⟨by omega,λc=>⟨c,rfl,λn1=>?_⟩⟩;refine⟨_,rfl,by decide,by decide,λa a0 a1=>⟨1+a,rfl,by omega,by omega,λns hs hl=>?_⟩⟩;have l6:=hs.l6;have l1:=hs.l1;refine⟨ns,rfl,hs,λdue hd=>?_⟩;obtain⟨x,ix,rx,ux⟩:=QlH hs;have dl:=hd.len hs;have fd:due.filter Qfu=[x]:=QmW hd.nd ((hd.iff_ x).mpr ix) rx λy hy ry=>ux y ((hd.iff_ y).mp hy) ry
  refine⟨⟨by decide,by decide⟩,Qgs (λj δ=>∃x6 x7 x8 x9 x10,δ=[.scr,.v (.int (0+(i:Int))),.pot,.v (.int (1+a)),.v (tI ns),.v (.list (due.map tI)),x6,x7,x8,x9,x10]) ⟨_,_,_,_,_,rfl⟩ ?_ ?_⟩
  ·rintro j δ hj ⟨x6,x7,x8,x9,x10,rfl⟩;refine⟨ns,rfl,hs,λrows ha=>?_⟩;obtain rfl:=ha.uniq hd;refine⟨_,rfl,Qmm _,QmY dl λy hy=>?_,?_⟩
   ·have:=Qcf ((hd.iff_ y).mp hy);omega
   exact⟨rfl,by rw[Qf];show _<1000000;omega,_,_,_,_,_,rfl⟩
  ·rintro δ ⟨x6,x7,x8,x9,x10,rfl⟩;refine QrG (λd=>if Qfu (unT d)=true then some d else none) (Qgt Qfu due) (λd hd k1 k2 h1 h2=>?_) ?_
   ·obtain⟨y,_,rfl⟩:=Qt.mp hd;refine⟨y,rfl,?_⟩;rw[Qfj] at h1 h2;show if Qfu y=true then k2 (tI y) else k1
    cases r:Qfu y with
    |true=>exact QeM (h2 _ (by rw[r];rfl))
    |false=>exact QdW (h1 (by rw[r];rfl))
   rw[fd];refine⟨ns,rfl,hs,λy iy ry=>?_⟩;obtain rfl:=ux y iy ry;refine⟨_,Qb0 (j:=0) rfl,⟨_,rfl,Qad y,QmX (by have:=Qcf iy;omega),rfl,?_⟩⟩;refine QrG (λd=>if le6 (unT d)=true then some d else none) (Qgt le6 due) (λd hd2 k1 k2 h1 h2=>?_) ?_
   ·obtain⟨z,hz,rfl⟩:=Qt.mp hd2;have lz:=Qcf ((hd.iff_ z).mp hz);rw[Qfj] at h1 h2;obtain⟨q,qs,rfl⟩:∃q qs,z=qs++[q]:=⟨_,_,(Yt (λe=>by rw[e] at lz;exact absurd (show 0=ns.length from lz) (by omega))).symm⟩
    refine⟨.int q,by rw[Jj];exact QpD _ _,?_⟩;rw[Qgo] at h1 h2;show if decide (q<=6)=true then k2 (tI (qs++[q])) else k1
    cases r:decide (q<=6) with
    |true=>exact QeM (h2 _ (by rw[r];rfl))
    |false=>exact QdW (h1 (by rw[r];rfl))
   have fl:=QaG le6 due;have fm:ns∈due.filter le6:=Za.mpr ⟨(hd.iff_ ns).mpr (QmJ hs),QvO hs⟩;have f0:=Qcq fm;refine⟨1+a,rfl,by omega,by omega,λms hm hml=>?_⟩;refine⟨((due.filter le6).length:Int),by rw[Qf],by omega,by omega,λb b0 b1=>QxY b0 (by rw[Qf];exact b1) λe he=>?_⟩;obtain⟨z,hz,rfl⟩:=Qt.mp he;obtain⟨hz1,hz2⟩:=Za.mp hz;have iz:=(hd.iff_ z).mp hz1;have sz:Qat z:=Qxu hs iz hz2;have lz:=Qcf iz;refine QhK (λ_ δ=>∃x10,δ=[.scr,.v (.int (0+(i:Int))),.pot,.v (.int (1+a)),.v (tI ns),.v (.list (due.map tI)),x6,x7,.v (.list [tI y]),.v (.list ((due.filter le6).map tI)),x10]) ⟨_,rfl⟩ ?_ ?_
   ·rintro j d δ hd3 ⟨x10,rfl⟩;obtain⟨u,rfl,su,lu⟩:=QnB (p:=λd=>∃u,d=tI u/\Qat u/\u.length=ns.length) ⟨ms,rfl,hm,by omega⟩ (QnB ⟨z,rfl,sz,lz⟩ Qww) d (QD hd3);refine⟨ns,u,rfl,hs,su,lu.symm,⟨ns,rfl,hs,λa pa wa=>⟨u,rfl,su,λb pb wb=>⟨⟨Qad _,Qad _,.inl (Qm7 _)⟩,?_⟩⟩⟩⟩;refine⟨.bool (decide (srtS (hdL ns)=srtS (hdL u))),?_,rfl,rfl,rfl,⟨_,rfl⟩⟩;rw[Qel,Qeu (pa.trans (ZZ _).symm) wa (QbL _),Qeu (pb.trans (ZZ _).symm) wb (QbL _)];rfl
   ·rintro δ ⟨x10,rfl⟩;exact⟨_,_,_,_,_,_,_,_,_,_,rfl⟩
 ·rintro δ ⟨x1,x2,x3,x4,x5,x6,x7,x8,x9,x10,rfl⟩;rfl
end
end Rk
namespace Rk
open L2 _root_.Rd
def QvY:Qa->Bool
 |.tuple _=>true
 |.list _=>true
 |_=>false
def Qzm:Qa->Bool
 |.list _=>true
 |_=>false
def Qzj:Qa->Bool
 |.tuple _=>true
 |_=>false
def Qzn:Qa->Bool
 |.bool _=>true
 |_=>false
def Qzk:Qa->Bool
 |.str _=>true
 |_=>false
theorem Quo{K:PySem.W.Frag}{H:Hp}:∀{x:V}{d:Qa},Dat H x d->∃t,TyOf K H x t/\PySem.W.kitAny K t [.type "list",.type "tuple"]=some (QvY d)/\PySem.W.kitOne K t (.type "list")=some (Qzm d)/\PySem.W.kitOne K t (.type "tuple")=some (Qzj d) /\
  PySem.W.kitOne K t (.type "bool")=some (Qzn d)/\PySem.W.kitOne K t (.type "str")=some (Qzk d)
 |_,_,.non=>⟨_,.non,rfl,rfl,rfl,rfl,rfl⟩
 |_,_,.bl _=>⟨_,.bl _,rfl,rfl,rfl,rfl,rfl⟩
 |_,_,.int _=>⟨_,.int _,rfl,rfl,rfl,rfl,rfl⟩
 |_,_,.str _ _=>⟨_,.str _,rfl,rfl,rfl,rfl,rfl⟩
 |_,_,.tup e _=>⟨_,.tup e,rfl,rfl,rfl,rfl,rfl⟩
 |_,_,.lst e _=>⟨_,.lst e,rfl,rfl,rfl,rfl,rfl⟩
def Qlv:Sp:=λvs H Q _=>∃p x,vs=[x]/\Kn p H x/\Q (.bl (isI x)) H
section
variable{P:QB}{w:Q8}{K:PySem.W.Frag}{mg:Str->Option Value}{base:Heap}
theorem Qon:J3 ["_law_found"] ["_law_found"] (QJ QdV):=⟨rfl,rfl,rfl,by decide +kernel,rfl,by decide +kernel,by decide +kernel⟩
theorem Qmd{f:Addr}{fd:Q1}(F:Fun K "_law_whole" "_law_whole" QdV f fd)(T:GlbA mg):FnOk P w K mg base CX0 1 f fd ["_law_found"] Qlv:=by
 refine F.ok Qon (λvs H Q E h=>?_) (λcdv A outer s H vs Q E hr h=>?_)
 ·obtain⟨p,x,rfl,_⟩:=h;rfl
 ·obtain⟨p,x,rfl,kn,k⟩:=h;refine⟨_,Yd (Qar (Qfy (Zo Zv (by rfl) T.isinstance J9 (Jr (pv 0) (Jr (Qax (v:=.ty "int") (by rfl) T.int QhU rfl) JN)))
   (Qfx (Qrg (Zo Zv (by rfl) T.isinstance J9 (Jr (pv 0) (Jr (Qax (v:=.ty "bool") (by rfl) T.bool QeX rfl) JN))))))),?_⟩
  obtain⟨t,ty,e⟩:=QjW (K:=K) kn;obtain⟨t2,ty2,e2⟩:=QmG (K:=K) kn;refine⟨_,rfl,_,t,_,_,rfl,ty,e,_,rfl,?_⟩;cases x with
  |int i=>exact QeM ⟨_,rfl,_,t2,_,_,rfl,ty2,e2,_,rfl,k⟩
  |bl i=>exact QeM ⟨_,rfl,_,t2,_,_,rfl,ty2,e2,_,rfl,k⟩
  |_=>exact QdW k
theorem QvP{H:Hp}:∀{x:V}{d:Qa},Dat H x d->∃p,Kn p H x
 |_,_,.non=>⟨0,trivial⟩
 |_,_,.bl _=>⟨0,trivial⟩
 |_,_,.int _=>⟨0,trivial⟩
 |_,_,.str _ _=>⟨0,trivial⟩
 |_,_,.tup (a:=a) e _=>⟨(a+1:Nat),QC (QaV a),.inl ⟨_,e⟩⟩
 |_,_,.lst (a:=a) e _=>⟨(a+1:Nat),QC (QaV a),.inr (.inl ⟨_,e⟩)⟩
theorem QjL:(["_law_one", "_law_other"]:List Str).Nodup:=by decide +kernel
theorem Qsn:J3 ["_law_found", "_law_due"] ["_law_found", "_law_due"] (QJ QkP):=⟨rfl,rfl,rfl,by decide +kernel,rfl,by decide +kernel,by decide +kernel⟩
theorem Qmf{f f1:Addr}{fd fd1:Q1}(F:Fun K "_law_same" "_law_same" QkP f fd)(T:GlbA mg)(mf:mg "_law_same" = some (.ref f))(bf:Binds K fd ["_law_found", "_law_due"] [])(kf:PySem.W.keepIn K (.ref f)=true)
  (m1:mg "_law_whole" = some (.ref f1))(G1:FnOk P w K mg base CX0 1 f1 fd1 ["_law_found"] Qlv)(b1:Binds K fd1 ["_law_found"] [])(k1:PySem.W.keepIn K (.ref f1)=true) :
  ∀n:Nat,FnOk P w K mg base CX0 (n+1) f fd ["_law_found", "_law_due"] (Qiy n)
 |0=>⟨λ_ _ _ _ h=>h.elim,λ_ _ _ _ _ _ _ _ _ _ _ _ _ h=>h.elim⟩
 |n+1=>by
  have IH:=Qmf F T mf bf kf m1 G1 b1 k1 n;refine F.ok Qsn (λvs H Q E h=>?_) (λcdv A outer s H vs Q E hr h=>?_)
  ·obtain⟨x,y,d,rfl,_⟩:=h;rfl
  ·obtain⟨x,y,d,rfl,qx,qy,fl,k⟩:=h;have hr1:Room 1 _:=hr.mono (by omega);refine⟨_,Zs (Qho (QbQ Qrn (pv 1) Qrh (Z1 _)) (Yd (Qar (Qdz Qrn (pv 0) Qrh (Z1 _)))) QbR)
    (Zs (Qho (Qhn (Zo Zv (by rfl) T.isinstance J9 (Jr (pv 1) (Jr (Qax (v:=.ty "bool") (by rfl) T.bool QeX rfl) JN)))) (Yd (Qar (Qfy (Zo Zv (by rfl) T.isinstance J9 (Jr (pv 0) (Jr (Qax (v:=.ty "bool") (by rfl) T.bool QeX rfl) JN))) (Qfx (Qdz QjG (pv 0) (pv 1) (Z1 _)))))) QbR)
    (Zs (Qho (Qhn (Zo Zv (by rfl) T.isinstance J9 (Jr (pv 1) (Jr (Qax (v:=.ty "int") (by rfl) T.int QhU rfl) JN)))) (Yd (Qar (Qfy (Qa9 G1 hr1 (by rfl) m1 k1 b1 .nil QkB (Jr (pv 0) JN)) (Qfx (Qdz QjG (pv 0) (pv 1) (Z1 _)))))) QbR)
    (Zs (Qho (Qhn (Zo Zv (by rfl) T.isinstance J9 (Jr (pv 1) (Jr (Qax (v:=.ty "str") (by rfl) T.str QrL rfl) JN)))) (Yd (Qar (Qfy (Zo Zv (by rfl) T.isinstance J9 (Jr (pv 0) (Jr (Qax (v:=.ty "str") (by rfl) T.str QrL rfl) JN))) (Qfx (Qdz QjG (pv 0) (pv 1) (Z1 _)))))) QbR)
    (Zs (Qho (PW.pt (Qu3 (QbQ QsY (Zo Zv (by rfl) T.isinstance J9 (Jr (pv 1) (Jr (Qax (v:=.ty "tuple") (by rfl) T.tuple Qdb rfl) JN))) (Zo Zv (by rfl) T.isinstance J9 (Jr (pv 0) (Jr (Qax (v:=.ty "tuple") (by rfl) T.tuple Qdb rfl) JN))) (Z1 _)) (Qrc (QbQ QsY (Zo Zv (by rfl) T.isinstance J9 (Jr (pv 1) (Jr (Qax (v:=.ty "list") (by rfl) T.list Qjf rfl) JN))) (Zo Zv (by rfl) T.isinstance J9 (Jr (pv 0) (Jr (Qax (v:=.ty "list") (by rfl) T.list Qjf rfl) JN))) (Z1 _))))) (Yd (Qar Qva)) QbR)
    (Yd (Qar (Qfy (Qdz Qvv (Zo Y2 (by rfl) T.len QbZ (Jr (pv 0) JN)) (Zo Y2 (by rfl) T.len QbZ (Jr (pv 1) JN)) (Z1 _)) (Qfx (Zo Qda (by rfl) T.all QhV (Jr (Qeh (M:=["_law_one", "_law_other"]) (cap:=[none,none]) (g:=(Qx8 K 2 (Qpq (QcA 0) (Qpq (QcA 1) Qx9)))) (tc:=Qet) (te:=(Qks (Qiy n) [] E0 (Qd4 (Qfa 0) (Qd4 (Qfa 1) QpX)))) rfl (by rfl) (QxK (Qre (by rfl) T.zip (Jr (pv 0) (Jr (pv 1) JN))) (QlV (by rfl) T.zip (Jr (pv 0) (Jr (pv 1) JN)))) (λcl ex s3 H3 C=>⟨(Qrf rfl (Qgd (Qa8 (i:=0) QjL rfl (Jw rfl) (Ju rfl)) (Qgd (Qa8 (i:=1) QjL rfl (Jw rfl) (Ju rfl)) QlW))),QiM,(Qa9 IH (hr.mono (Qg _)) (by rfl) mf kf bf .nil QkB (Jr (pv 0) (Jr (pv 1) JN)))⟩)) JN)))))))))),?_⟩
   obtain⟨t,ty,a1,a2,a3,a4,a5⟩:=Quo (K:=K) qy;obtain⟨t',ty',a1',a2',a3',a4',a5'⟩:=Quo (K:=K) qx;obtain⟨p0,kn⟩:=QvP qy;obtain⟨tI,tyI,eI⟩:=QjW (K:=K) kn;cases d with
   |none=>
    have hy:y=.non:=by cases qy;rfl
    have hx:x=.non:=by cases qx;rfl
    subst hy hx;exact⟨_,rfl,rfl,_,rfl,QeM ⟨_,rfl,rfl,k H (Same.refl H)⟩⟩
   |bool v=>
    have hy:y=.bl v:=by cases qy;rfl
    have hx:x=.bl v:=by cases qx;rfl
    subst hy hx;refine⟨_,rfl,rfl,_,rfl,QdW ⟨_,rfl,_,t,_,_,rfl,ty,a4,_,rfl,QeM ⟨_,rfl,_,t',_,_,rfl,ty',a4',_,rfl,QeM ?_⟩⟩⟩;refine⟨_,rfl,_,rfl,(Yx v),(Yx v),qx,qy,by rw[QcS];show _+Zc (Yx v)<cLine;rw[show Zc (Yx v)=0 from by simp[Zc]];exact hr.units0,?_⟩;rw[QgX (Yx v) rfl];exact k H (Same.refl H)
   |int i=>
    have hy:y=.int i:=by cases qy;rfl
    have hx:x=.int i:=by cases qx;rfl
    subst hy hx;refine⟨_,rfl,rfl,_,rfl,QdW ⟨_,rfl,_,t,_,_,rfl,ty,a4,_,rfl,QdW ⟨_,rfl,_,tI,_,_,rfl,tyI,eI,_,rfl,QeM ⟨_,rfl,0,.int i,rfl,trivial,_,rfl,QeM ?_⟩⟩⟩⟩;refine⟨_,rfl,_,rfl,.int i,.int i,qx,qy,by rw[QcS];show _+Zc (.int i)<cLine;rw[show Zc (.int i)=0 from by simp[Zc]];exact hr.units0,?_⟩;rw[QgX (.int i) rfl];exact k H (Same.refl H)
   |str v=>
    have cl:QcP (.str v)=true:=by cases qy with | str _ c=>exact c
    have hy:y=.str v:=by cases qy;rfl
    have hx:x=.str v:=by cases qx;rfl
    subst hy hx;refine⟨_,rfl,rfl,_,rfl,QdW ⟨_,rfl,_,t,_,_,rfl,ty,a4,_,rfl,QdW ⟨_,rfl,_,tI,_,_,rfl,tyI,eI,_,rfl,QdW ⟨_,rfl,_,t,_,_,rfl,ty,a5,_,rfl,QeM ⟨_,rfl,_,t',_,_,rfl,ty',a5',_,rfl,QeM ?_⟩⟩⟩⟩⟩;refine⟨_,rfl,_,rfl,(Qd8 v),(Qd8 v),qx,qy,by rw[QcS];show _+Zc (Qd8 v)<cLine;rw[show Zc (Qd8 v)=0 from by simp[Zc]];exact hr.units0,?_⟩;rw[QgX (Qd8 v) cl];exact k H (Same.refl H)
   |tuple ds=>
    obtain⟨m,rfl⟩:∃m,n=m+1:=by
     cases n with
     |zero=>cases fl
     |succ m=>exact⟨m,rfl⟩
    have fl':=Qz.mp (show(decide (ds.length<=1000)&&ds.all (Qc5 m))=true from fl);have hdl:ds.length<=1000:=of_decide_eq_true fl'.1;cases qy with
    |@tup b ys _ eb qs=>
    cases qx with
    |@tup a xs _ ea ps=>
    refine⟨_,rfl,rfl,_,rfl,QdW ⟨_,rfl,_,t,_,_,rfl,ty,a4,_,rfl,QdW ⟨_,rfl,_,tI,_,_,rfl,tyI,eI,_,rfl,QdW ⟨_,rfl,_,t,_,_,rfl,ty,a5,_,rfl,QdW ?_⟩⟩⟩⟩;refine⟨_,rfl,_,t,_,_,rfl,ty,a3,_,rfl,_,t',_,_,rfl,ty',a3',rfl,_,rfl,Qph rfl ?_⟩;refine⟨_,rfl,_,t,_,_,rfl,ty,a2,_,rfl,_,t',_,_,rfl,ty',a2',rfl,_,rfl,Qph rfl ?_⟩;have hxl:=ps.length;have hyl:=qs.length;refine⟨_,rfl,a,xs,rfl,.inr (SqT.of ea),_,rfl,b,ys,rfl,.inr (SqT.of eb),rfl,_,rfl,?_⟩;rw[show decide (V.int (xs.length:Nat)=V.int (ys.length:Nat))=true from decide_eq_true (by rw[hxl,hyl])];refine QeM (.inl ⟨_,rfl,_,rfl,a,b,xs,ys,rfl,ea,eb,λp hp=>?_⟩);refine QfK ds.length (QaN hdl) (λ_=>true) hp (λi H2 hi2 s2=>?_) (λH2 s2=>?_) λH2 s2 e2=>?_
    ·have hx:xs[i]? = some xs[i]:=Qd (by omega);have hy:ys[i]? = some ys[i]:=Qd (by omega);have ea2:=s2 a _ ea;have eb2:=s2 b _ eb;refine⟨⟨xs,ys,_,_,ea2,eb2,hx,hy⟩,λv H3 ⟨r,x',y',hr0,ex,ey,ev,eH⟩ kk hk=>?_⟩;have ex':=ex xs ea2;have ey':=ey ys eb2;rw[hx] at ex';rw[hy] at ey';cases ex';cases ey';subst ev eH;obtain⟨d1,hd1,q1⟩:=ps.get i _ hx;obtain⟨d2,hd2,q2⟩:=qs.get i _ hy;rw[hd1] at hd2;cases hd2;have fd1:Qc5 m d1=true:=Jm.mp fl'.2 d1 (QD hd1);refine⟨r,[xs[i],ys[i]],rfl,SqT.of Jp,rfl,xs[i],[ys[i]],rfl,ys[i],[],rfl,rfl,⟨trivial,?_⟩⟩;exact⟨_,rfl,_,rfl,xs[i],ys[i],d1,rfl,(q1.same s2).same (Jy hr0),(q2.same s2).same (Jy hr0),fd1,λH' s'=>hk H' ((Jy hr0).trans s')⟩
    ·refine⟨xs,ys,s2 a _ ea,s2 b _ eb,?_⟩;omega
    ·refine⟨p,_,rfl,SqL.of e2,rfl,?_⟩;have e3:((Qm ds.length).map λ_=>true).all id=true:=by
      rw[Jm];intro z hz;obtain⟨_,_,rfl⟩:=Qt.mp hz;rfl
     rw[e3];exact k H2 s2
   |list ds=>
    obtain⟨m,rfl⟩:∃m,n=m+1:=by
     cases n with
     |zero=>cases fl
     |succ m=>exact⟨m,rfl⟩
    have fl':=Qz.mp (show(decide (ds.length<=1000)&&ds.all (Qc5 m))=true from fl);have hdl:ds.length<=1000:=of_decide_eq_true fl'.1;cases qy with
    |@lst b ys _ eb qs=>
    cases qx with
    |@lst a xs _ ea ps=>
    refine⟨_,rfl,rfl,_,rfl,QdW ⟨_,rfl,_,t,_,_,rfl,ty,a4,_,rfl,QdW ⟨_,rfl,_,tI,_,_,rfl,tyI,eI,_,rfl,QdW ⟨_,rfl,_,t,_,_,rfl,ty,a5,_,rfl,QdW ?_⟩⟩⟩⟩;refine⟨_,rfl,_,t,_,_,rfl,ty,a3,_,rfl,_,t',_,_,rfl,ty',a3',rfl,_,rfl,Qph rfl ?_⟩;refine⟨_,rfl,_,t,_,_,rfl,ty,a2,_,rfl,_,t',_,_,rfl,ty',a2',rfl,_,rfl,Qph rfl ?_⟩;have hxl:=ps.length;have hyl:=qs.length;refine⟨_,rfl,a,xs,rfl,.inl (SqL.of ea),_,rfl,b,ys,rfl,.inl (SqL.of eb),rfl,_,rfl,?_⟩;rw[show decide (V.int (xs.length:Nat)=V.int (ys.length:Nat))=true from decide_eq_true (by rw[hxl,hyl])];refine QeM (.inr ⟨_,rfl,_,rfl,a,b,xs,ys,rfl,ea,eb,λp hp=>?_⟩);refine QfK ds.length (QaN hdl) (λ_=>true) hp (λi H2 hi2 s2=>?_) (λH2 s2=>?_) λH2 s2 e2=>?_
    ·have hx:xs[i]? = some xs[i]:=Qd (by omega);have hy:ys[i]? = some ys[i]:=Qd (by omega);have ea2:=s2 a _ ea;have eb2:=s2 b _ eb;refine⟨⟨xs,ys,_,_,ea2,eb2,hx,hy⟩,λv H3 ⟨r,x',y',hr0,ex,ey,ev,eH⟩ kk hk=>?_⟩;have ex':=ex xs ea2;have ey':=ey ys eb2;rw[hx] at ex';rw[hy] at ey';cases ex';cases ey';subst ev eH;obtain⟨d1,hd1,q1⟩:=ps.get i _ hx;obtain⟨d2,hd2,q2⟩:=qs.get i _ hy;rw[hd1] at hd2;cases hd2;have fd1:Qc5 m d1=true:=Jm.mp fl'.2 d1 (QD hd1);refine⟨r,[xs[i],ys[i]],rfl,SqT.of Jp,rfl,xs[i],[ys[i]],rfl,ys[i],[],rfl,rfl,⟨trivial,?_⟩⟩;exact⟨_,rfl,_,rfl,xs[i],ys[i],d1,rfl,(q1.same s2).same (Jy hr0),(q2.same s2).same (Jy hr0),fd1,λH' s'=>hk H' ((Jy hr0).trans s')⟩
    ·refine⟨xs,ys,s2 a _ ea,s2 b _ eb,?_⟩;omega
    ·refine⟨p,_,rfl,SqL.of e2,rfl,?_⟩;have e3:((Qm ds.length).map λ_=>true).all id=true:=by
      rw[Jm];intro z hz;obtain⟨_,_,rfl⟩:=Qt.mp hz;rfl
     rw[e3];exact k H2 s2
   |dict ds=>cases qx
end
end Rk
def PySem.W.Fast.tw7171425889507382017:Nat:=0
def PySem.W.Fast.tw8837743200293253820:Nat:=0
def PySem.W.Fast.tw6983243055071154300:Nat:=0
def PySem.W.Fast.tw14284209913735381736:Nat:=0
def PySem.W.Fast.tw7777828328698496387:Nat:=0
def PySem.W.Fast.tw17392238851352505990:Nat:=0
def PySem.W.Fast.tw8521918324932293517:Nat:=0
def PySem.W.Fast.tw1300312093755026022:Nat:=0
def PySem.W.Fast.tw3930215056845446918:Nat:=0
def PySem.W.Fast.tw8783935652646253658:Nat:=0
def PySem.W.Fast.tw1952685024161917924:Nat:=0
def PySem.W.Fast.tw2964647891065739576:Nat:=0
def PySem.W.Fast.tw421614484772392820:Nat:=0
def PySem.W.Fast.tw8287319046353261538:Nat:=0
def PySem.W.Fast.tw17546720535096218617:Nat:=0
def PySem.W.Fast.tw5523128657488942225:Nat:=0
def PySem.W.Fast.tw13108366067872339166:Nat:=0
def PySem.W.Fast.tw4784234836872715443:Nat:=0
def PySem.W.Fast.tw14719363907839461454:Nat:=0
def PySem.W.Fast.tw15636069362108482180:Nat:=0
def PySem.W.Fast.tw462860792630725756:Nat:=0
def PySem.W.Fast.tw69574822096007354:Nat:=0
def PySem.W.Fast.tw11651495032031646359:Nat:=0
def PySem.W.Fast.tw12382889654629053490:Nat:=0
def PySem.W.Fast.tw18306032979285934852:Nat:=0
def PySem.W.Fast.tw12809723961131565295:Nat:=0
def PySem.W.Fast.tw5410577428576426063:Nat:=0
def PySem.W.Fast.tw6978014427277828979:Nat:=0
def PySem.W.Fast.tw12563548660030730385:Nat:=0
def PySem.W.Fast.tw8183133321617166517:Nat:=0
def PySem.W.Fast.tw5208172518299360007:Nat:=0
def PySem.W.Fast.tw7689440240548650584:Nat:=0
def PySem.W.Fast.tw7156302826441499915:Nat:=0
def PySem.W.Fast.tw5439103609742427718:Nat:=0
def PySem.W.Fast.tw6039972437497907488:Nat:=0
def PySem.W.Fast.tw6522285310956561630:Nat:=0
def PySem.W.Fast.tw2159301172421500499:Nat:=0
def PySem.W.Fast.tw10742938905365213113:Nat:=0
def PySem.W.Fast.tw6483428532766534490:Nat:=0
def PySem.W.Fast.tw2998039064468248788:Nat:=0
def PySem.W.Fast.tw8046122065162423331:Nat:=0
def PySem.W.Fast.tw16440531954289130203:Nat:=0
def PySem.W.Fast.tw15415360575593762876:Nat:=0
def PySem.W.Fast.tw15261874366129939634:Nat:=0
def PySem.W.Fast.tw5029172211178696437:Nat:=0
def PySem.W.Fast.tw13471603134546557244:Nat:=0
def PySem.W.Fast.tw12355170564836027540:Nat:=0
def PySem.W.Fast.tw9282348819319859271:Nat:=0
def PySem.W.Fast.tw9354602979498623453:Nat:=0
def PySem.W.Fast.tw13315809336857030341:Nat:=0
def PySem.W.Fast.tw16123618241970891717:Nat:=0
def PySem.W.Fast.tw6924141738007640482:Nat:=0
def PySem.W.Fast.tw2794172866252981538:Nat:=0
def PySem.W.Fast.tw15611595488711885717:Nat:=0
def PySem.W.Fast.tw4136682828400889400:Nat:=0
def PySem.W.Fast.tw5922457062398143506:Nat:=0
def PySem.W.Fast.tw979756894936470284:Nat:=0
def PySem.W.Fast.tw14511639248152247666:Nat:=0
def PySem.W.Fast.tw9306304476271761238:Nat:=0
def PySem.W.Fast.tw15288331890160912225:Nat:=0
def PySem.W.Fast.tw2554394391363732045:Nat:=0
def PySem.W.Fast.tw13091008805108617048:Nat:=0
def PySem.W.Fast.tw6827638707205715780:Nat:=0
def PySem.W.Fast.tw14398069537852157002:Nat:=0
def PySem.W.Fast.tw4369044031245324932:Nat:=0
def PySem.W.Fast.tw9332624515526577453:Nat:=0
def PySem.W.Fast.tw4782687071927352857:Nat:=0
namespace Rk
open L2
theorem Qwv{l:PySem.W.OpenLaw}{w:Q8}{K:PySem.W.Frag}{h:Heap}{mg:Str->Option Value}{fa f1 f2 f3 f4 f5 f6 f7 f8 f9 f10 f11 f12 f13 f14 f15 f16 f17 f18 f19 f20 f21 f22 f23 f24:Addr}(X:K.In h)(G:h.Ns mainGlobals mg)(hfa:mg "law" = some (.ref fa))
  {od1 an1 od2 an2 od3 an3 od4 an4 od5 an5 od6 an6 od7 an7 od8 an8 od9 an9 od10 an10 od11 an11 od12 an12 od13 an13 od14 an14 od15 an15 od16 an16 od17 an17 od18 an18 od19 an19 od20 an20 od21 an21 od22 an22 od23 an23 od24 an24:Option Addr} {sl1 sl2 sl3 sl4 sl5 sl6 sl7 sl8 sl9 sl10 sl11 sl12 sl13 sl14 sl15 sl16 sl17 sl18 sl19 sl20 sl21 sl22 sl23 sl24:Array (Option Value)} {oc1 kV1 dc1 pm1 cd1 ct1 oc2 kV2 dc2 pm2 cd2 ct2 oc3 kV3 dc3 pm3 cd3 ct3 oc4 kV4 dc4 pm4 cd4 ct4 oc5 kV5 dc5 pm5 cd5 ct5 oc6 kV6 dc6 pm6 cd6 ct6 oc7 kV7 dc7 pm7 cd7 ct7 oc8 kV8 dc8 pm8 cd8 ct8 oc9 kV9 dc9 pm9 cd9 ct9 oc10 kV10 dc10 pm10 cd10 ct10 oc11 kV11 dc11 pm11 cd11 ct11 oc12 kV12 dc12 pm12 cd12 ct12 oc13 kV13 dc13 pm13 cd13 ct13 oc14 kV14 dc14 pm14 cd14 ct14 oc15 kV15 dc15 pm15 cd15 ct15 oc16 kV16 dc16 pm16 cd16 ct16 oc17 kV17 dc17 pm17 cd17 ct17 oc18 kV18 dc18 pm18 cd18 ct18 oc19 kV19 dc19 pm19 cd19 ct19 oc20 kV20 dc20 pm20 cd20 ct20 oc21 kV21 dc21 pm21 cd21 ct21 oc22 kV22 dc22 pm22 cd22 ct22 oc23 kV23 dc23 pm23 cd23 ct23 oc24 kV24 dc24 pm24 cd24 ct24:Value}
  (a1:PySem.W.nsIn K mainGlobals "is_whole" = some (some (.ref f1))) (l1:K.lookup f1=some ⟨oc1,od1,.func (PySem.W.fnOf "is_whole" "is_whole" (Zg Qfp) (JW Qfp) (QJ Qfp) .none kV1 dc1 pm1 an1 cd1 ct1),sl1⟩) (c1:PySem.W.codeIn K cd1 "is_whole" = true) (k1:PySem.W.keepIn K (.ref f1)=true)
  (a2:PySem.W.nsIn K mainGlobals "is_whole_within" = some (some (.ref f2)))(l2:K.lookup f2=some ⟨oc2,od2,.func (PySem.W.fnOf "is_whole_within" "is_whole_within" (Zg Qdv) (JW Qdv) (QJ Qdv) .none kV2 dc2 pm2 an2 cd2 ct2),sl2⟩)(c2:PySem.W.codeIn K cd2 "is_whole_within" = true)(k2:PySem.W.keepIn K (.ref f2)=true)
  (a3:PySem.W.nsIn K mainGlobals "is_never_falling" = some (some (.ref f3)))(l3:K.lookup f3=some ⟨oc3,od3,.func (PySem.W.fnOf "is_never_falling" "is_never_falling" (Zg Qfs) (JW Qfs) (QJ Qfs) .none kV3 dc3 pm3 an3 cd3 ct3),sl3⟩)(c3:PySem.W.codeIn K cd3 "is_never_falling" = true)(k3:PySem.W.keepIn K (.ref f3)=true)
  (a4:PySem.W.nsIn K mainGlobals "all_orders" = some (some (.ref f4)))(l4:K.lookup f4=some ⟨oc4,od4,.func (PySem.W.fnOf "all_orders" "all_orders" (Zg Qkx) (JW Qkx) (QJ Qkx) .none kV4 dc4 pm4 an4 cd4 ct4),sl4⟩)(c4:PySem.W.codeIn K cd4 "all_orders" = true)(k4:PySem.W.keepIn K (.ref f4)=true)
  (a5:PySem.W.nsIn K mainGlobals "others" = some (some (.ref f5)))(l5:K.lookup f5=some ⟨oc5,od5,.func (PySem.W.fnOf "others" "others" (Zg sOth) (JW sOth) (QJ sOth) .none kV5 dc5 pm5 an5 cd5 ct5),sl5⟩)(c5:PySem.W.codeIn K cd5 "others" = true)(k5:PySem.W.keepIn K (.ref f5)=true)
  (a6:PySem.W.nsIn K mainGlobals "is_stairs" = some (some (.ref f6)))(l6:K.lookup f6=some ⟨oc6,od6,.func (PySem.W.fnOf "is_stairs" "is_stairs" (Zg Qdw) (JW Qdw) (QJ Qdw) .none kV6 dc6 pm6 an6 cd6 ct6),sl6⟩)(c6:PySem.W.codeIn K cd6 "is_stairs" = true)(k6:PySem.W.keepIn K (.ref f6)=true)
  (a7:PySem.W.nsIn K mainGlobals "refuse_no_stairs" = some (some (.ref f7)))(l7:K.lookup f7=some ⟨oc7,od7,.func (PySem.W.fnOf "refuse_no_stairs" "refuse_no_stairs" (Zg Qkw) (JW Qkw) (QJ Qkw) .none kV7 dc7 pm7 an7 cd7 ct7),sl7⟩)(c7:PySem.W.codeIn K cd7 "refuse_no_stairs" = true)(k7:PySem.W.keepIn K (.ref f7)=true)
  (a8:PySem.W.nsIn K mainGlobals "heads" = some (some (.ref f8)))(l8:K.lookup f8=some ⟨oc8,od8,.func (PySem.W.fnOf "heads" "heads" (Zg Qft) (JW Qft) (QJ Qft) .none kV8 dc8 pm8 an8 cd8 ct8),sl8⟩)(c8:PySem.W.codeIn K cd8 "heads" = true)(k8:PySem.W.keepIn K (.ref f8)=true)
  (a9:PySem.W.nsIn K mainGlobals "same_counts" = some (some (.ref f9)))(l9:K.lookup f9=some ⟨oc9,od9,.func (PySem.W.fnOf "same_counts" "same_counts" (Zg Qfq) (JW Qfq) (QJ Qfq) .none kV9 dc9 pm9 an9 cd9 ct9),sl9⟩)(c9:PySem.W.codeIn K cd9 "same_counts" = true)(k9:PySem.W.keepIn K (.ref f9)=true)
  (a10:PySem.W.nsIn K mainGlobals "all_stairs" = some (some (.ref f10)))(l10:K.lookup f10=some ⟨oc10,od10,.func (PySem.W.fnOf "all_stairs" "all_stairs" (Zg QiB) (JW QiB) (QJ QiB) .none kV10 dc10 pm10 an10 cd10 ct10),sl10⟩)(c10:PySem.W.codeIn K cd10 "all_stairs" = true)(k10:PySem.W.keepIn K (.ref f10)=true)
  (a11:PySem.W.nsIn K mainGlobals "numbers_by" = some (some (.ref f11)))(l11:K.lookup f11=some ⟨oc11,od11,.func (PySem.W.fnOf "numbers_by" "numbers_by" (Zg sNBy) (JW sNBy) (QJ sNBy) .none kV11 dc11 pm11 an11 cd11 ct11),sl11⟩)(c11:PySem.W.codeIn K cd11 "numbers_by" = true)(k11:PySem.W.keepIn K (.ref f11)=true)
  (a12:PySem.W.nsIn K mainGlobals "risen" = some (some (.ref f12)))(l12:K.lookup f12=some ⟨oc12,od12,.func (PySem.W.fnOf "risen" "risen" (Zg Qfr) (JW Qfr) (QJ Qfr) .none kV12 dc12 pm12 an12 cd12 ct12),sl12⟩)(c12:PySem.W.codeIn K cd12 "risen" = true)(k12:PySem.W.keepIn K (.ref f12)=true)
  (a13:PySem.W.nsIn K mainGlobals "is_risen" = some (some (.ref f13)))(l13:K.lookup f13=some ⟨oc13,od13,.func (PySem.W.fnOf "is_risen" "is_risen" (Zg sIsR) (JW sIsR) (QJ sIsR) .none kV13 dc13 pm13 an13 cd13 ct13),sl13⟩)(c13:PySem.W.codeIn K cd13 "is_risen" = true)(k13:PySem.W.keepIn K (.ref f13)=true)
  (a14:PySem.W.nsIn K mainGlobals "_law_cell_at" = some (some (.ref f14)))(l14:K.lookup f14=some ⟨oc14,od14,.func (PySem.W.fnOf "_law_cell_at" "_law_cell_at" (Zg QdE) (JW QdE) (QJ QdE) .none kV14 dc14 pm14 an14 cd14 ct14),sl14⟩)(c14:PySem.W.codeIn K cd14 "_law_cell_at" = true)(k14:PySem.W.keepIn K (.ref f14)=true)
  (a15:PySem.W.nsIn K mainGlobals "_law_pot" = some (some (.ref f15)))(l15:K.lookup f15=some ⟨oc15,od15,.func (PySem.W.fnOf "_law_pot" "_law_pot" (Zg lPot) (JW lPot) (QJ lPot) .none kV15 dc15 pm15 an15 cd15 ct15),sl15⟩)(c15:PySem.W.codeIn K cd15 "_law_pot" = true)(k15:PySem.W.keepIn K (.ref f15)=true)
  (a16:PySem.W.nsIn K mainGlobals "_law_take" = some (some (.ref f16)))(l16:K.lookup f16=some ⟨oc16,od16,.func (PySem.W.fnOf "_law_take" "_law_take" (Zg QkO) (JW QkO) (QJ QkO) .none kV16 dc16 pm16 an16 cd16 ct16),sl16⟩)(c16:PySem.W.codeIn K cd16 "_law_take" = true)(k16:PySem.W.keepIn K (.ref f16)=true)
  (a17:PySem.W.nsIn K mainGlobals "_law_whole" = some (some (.ref f17)))(l17:K.lookup f17=some ⟨oc17,od17,.func (PySem.W.fnOf "_law_whole" "_law_whole" (Zg QdV) (JW QdV) (QJ QdV) .none kV17 dc17 pm17 an17 cd17 ct17),sl17⟩)(c17:PySem.W.codeIn K cd17 "_law_whole" = true)(k17:PySem.W.keepIn K (.ref f17)=true)
  (a18:PySem.W.nsIn K mainGlobals "_law_same" = some (some (.ref f18)))(l18:K.lookup f18=some ⟨oc18,od18,.func (PySem.W.fnOf "_law_same" "_law_same" (Zg QkP) (JW QkP) (QJ QkP) .none kV18 dc18 pm18 an18 cd18 ct18),sl18⟩)(c18:PySem.W.codeIn K cd18 "_law_same" = true)(k18:PySem.W.keepIn K (.ref f18)=true)
  (a19:PySem.W.nsIn K mainGlobals "_law_orders" = some (some (.ref f19)))(l19:K.lookup f19=some ⟨oc19,od19,.func (PySem.W.fnOf "_law_orders" "_law_orders" (Zg QdD) (JW QdD) (QJ QdD) .none kV19 dc19 pm19 an19 cd19 ct19),sl19⟩)(c19:PySem.W.codeIn K cd19 "_law_orders" = true)(k19:PySem.W.keepIn K (.ref f19)=true)
  (a20:PySem.W.nsIn K mainGlobals "_law_stairs" = some (some (.ref f20)))(l20:K.lookup f20=some ⟨oc20,od20,.func (PySem.W.fnOf "_law_stairs" "_law_stairs" (Zg QdC) (JW QdC) (QJ QdC) .none kV20 dc20 pm20 an20 cd20 ct20),sl20⟩)(c20:PySem.W.codeIn K cd20 "_law_stairs" = true)(k20:PySem.W.keepIn K (.ref f20)=true)
  (a21:PySem.W.nsIn K mainGlobals "_law_heads" = some (some (.ref f21)))(l21:K.lookup f21=some ⟨oc21,od21,.func (PySem.W.fnOf "_law_heads" "_law_heads" (Zg QfI) (JW QfI) (QJ QfI) .none kV21 dc21 pm21 an21 cd21 ct21),sl21⟩)(c21:PySem.W.codeIn K cd21 "_law_heads" = true)(k21:PySem.W.keepIn K (.ref f21)=true)
  (a22:PySem.W.nsIn K mainGlobals "_law_rises" = some (some (.ref f22)))(l22:K.lookup f22=some ⟨oc22,od22,.func (PySem.W.fnOf "_law_rises" "_law_rises" (Zg QfH) (JW QfH) (QJ QfH) .none kV22 dc22 pm22 an22 cd22 ct22),sl22⟩)(c22:PySem.W.codeIn K cd22 "_law_rises" = true)(k22:PySem.W.keepIn K (.ref f22)=true)
  (a23:PySem.W.nsIn K mainGlobals "_law_all" = some (some (.ref f23)))(l23:K.lookup f23=some ⟨oc23,od23,.func (PySem.W.fnOf "_law_all" "_law_all" (Zg lAll) (JW lAll) (QJ lAll) .none kV23 dc23 pm23 an23 cd23 ct23),sl23⟩)(c23:PySem.W.codeIn K cd23 "_law_all" = true)(k23:PySem.W.keepIn K (.ref f23)=true)
  (a24:PySem.W.nsIn K mainGlobals "law" = some (some (.ref f24)))(l24:K.lookup f24=some ⟨oc24,od24,.func (PySem.W.fnOf "law" "law" (Zg sLaw) (JW sLaw) (QJ sLaw) .none kV24 dc24 pm24 an24 cd24 ct24),sl24⟩)(c24:PySem.W.codeIn K cd24 "law" = true)(k24:PySem.W.keepIn K (.ref f24)=true)
  (z1:PySem.W.nsIn K mainGlobals "isinstance" = some none)
  (z2:PySem.W.nsIn K mainGlobals "int" = some none)
  (z3:PySem.W.nsIn K mainGlobals "bool" = some none)
  (z4:PySem.W.nsIn K mainGlobals "str" = some none)
  (z5:PySem.W.nsIn K mainGlobals "tuple" = some none)
  (z6:PySem.W.nsIn K mainGlobals "list" = some none)
  (z7:PySem.W.nsIn K mainGlobals "all" = some none)
  (z8:PySem.W.nsIn K mainGlobals "len" = some none)
  (z9:PySem.W.nsIn K mainGlobals "zip" = some none)
  (z10:PySem.W.nsIn K mainGlobals "enumerate" = some none)
  (z11:PySem.W.nsIn K mainGlobals "range" = some none)
  (z12:PySem.W.nsIn K mainGlobals "max" = some none)
  (z13:PySem.W.nsIn K mainGlobals "min" = some none)
  (z14:PySem.W.nsIn K mainGlobals "sorted" = some none)
  (z15:PySem.W.nsIn K mainGlobals "sum" = some none)
  (z16:PySem.W.nsIn K mainGlobals "set" = some none)
  (z17:PySem.W.nsIn K mainGlobals "any" = some none)
  (z18:PySem.W.nsIn K mainGlobals "reversed" = some none)
  (z19:PySem.W.nsIn K mainGlobals "divmod" = some none)
  {tA:_} (aA:PySem.W.nsIn K mainGlobals "MOST_LINES" = some (some (.int 6 tA)))
  :
  ∃fd:Q1,(∀(s:Shared)(v:Value),Qn3 s fd ⟨[v],[]⟩ [("_law_script",v)])/\∀base:Heap,K.In base->base.Ns mainGlobals mg->FnOk l.prog w K mg base CX0 8 fa fd ["_law_script"] (Dl.Qfn K):=by
 have e:=hfa.symm.trans (PySem.W.mg_of X G a24);cases e;have T:=(⟨(PySem.W.mg_none_of X G z1),(PySem.W.mg_none_of X G z2),(PySem.W.mg_none_of X G z3),(PySem.W.mg_none_of X G z4),(PySem.W.mg_none_of X G z5),(PySem.W.mg_none_of X G z6),(PySem.W.mg_none_of X G z7),(PySem.W.mg_none_of X G z8),(PySem.W.mg_none_of X G z9),(PySem.W.mg_none_of X G z10),(PySem.W.mg_none_of X G z11),(PySem.W.mg_none_of X G z12),(PySem.W.mg_none_of X G z13),(PySem.W.mg_none_of X G z14),(PySem.W.mg_none_of X G z15),(PySem.W.mg_none_of X G z16),(PySem.W.mg_none_of X G z17),(PySem.W.mg_none_of X G z18),(PySem.W.mg_none_of X G z19)⟩:GlbA mg);have F1:=Yf (st:=Qfp) l1 c1 k1;have b1:=F1.binds (ps:=["thing"]) λ_ _ _ _ _ _ us hl=>match us,hl with | [_],_=>rfl
 have m1:=PySem.W.mg_of X G a1;have F2:=Yf (st:=Qdv) l2 c2 k2;have b2:=F2.binds (ps:=["thing", "least", "most"]) λ_ _ _ _ _ _ us hl=>match us,hl with | [_,_,_],_=>rfl
 have m2:=PySem.W.mg_of X G a2;have F3:=Yf (st:=Qfs) l3 c3 k3;have b3:=F3.binds (ps:=["things"]) λ_ _ _ _ _ _ us hl=>match us,hl with | [_],_=>rfl
 have m3:=PySem.W.mg_of X G a3;have F4:=Yf (st:=Qkx) l4 c4 k4;have b4:=F4.binds (ps:=["many"]) λ_ _ _ _ _ _ us hl=>match us,hl with | [_],_=>rfl
 have m4:=PySem.W.mg_of X G a4;have F5:=Yf (st:=sOth) l5 c5 k5;have b5:=F5.binds (ps:=["many", "numbers"]) λ_ _ _ _ _ _ us hl=>match us,hl with | [_,_],_=>rfl
 have m5:=PySem.W.mg_of X G a5;have F6:=Yf (st:=Qdw) l6 c6 k6;have b6:=F6.binds (ps:=["thing"]) λ_ _ _ _ _ _ us hl=>match us,hl with | [_],_=>rfl
 have m6:=PySem.W.mg_of X G a6;have F7:=Yf (st:=Qkw) l7 c7 k7;have b7:=F7.binds (ps:=["stairs"]) λ_ _ _ _ _ _ us hl=>match us,hl with | [_],_=>rfl
 have m7:=PySem.W.mg_of X G a7;have F8:=Yf (st:=Qft) l8 c8 k8;have b8:=F8.binds (ps:=["stairs"]) λ_ _ _ _ _ _ us hl=>match us,hl with | [_],_=>rfl
 have m8:=PySem.W.mg_of X G a8;have F9:=Yf (st:=Qfq) l9 c9 k9;have b9:=F9.binds (ps:=["one", "other"]) λ_ _ _ _ _ _ us hl=>match us,hl with | [_,_],_=>rfl
 have m9:=PySem.W.mg_of X G a9;have F10:=Yf (st:=QiB) l10 c10 k10;have b10:=F10.binds (ps:=["stairs"]) λ_ _ _ _ _ _ us hl=>match us,hl with | [_],_=>rfl
 have m10:=PySem.W.mg_of X G a10;have F11:=Yf (st:=sNBy) l11 c11 k11;have b11:=F11.binds (ps:=["put", "order"]) λ_ _ _ _ _ _ us hl=>match us,hl with | [_,_],_=>rfl
 have m11:=PySem.W.mg_of X G a11;have F12:=Yf (st:=Qfr) l12 c12 k12;have b12:=F12.binds (ps:=["stairs"]) λ_ _ _ _ _ _ us hl=>match us,hl with | [_],_=>rfl
 have m12:=PySem.W.mg_of X G a12;have F13:=Yf (st:=sIsR) l13 c13 k13;have b13:=F13.binds (ps:=["numbers"]) λ_ _ _ _ _ _ us hl=>match us,hl with | [_],_=>rfl
 have m13:=PySem.W.mg_of X G a13;have F14:=Yf (st:=QdE) l14 c14 k14;have b14:=F14.binds (ps:=["_law_script", "_law_k"]) λ_ _ _ _ _ _ us hl=>match us,hl with | [_,_],_=>rfl
 have m14:=PySem.W.mg_of X G a14;have F15:=Yf (st:=lPot) l15 c15 k15;have b15:=F15.binds (ps:=["_law_cell"]) λ_ _ _ _ _ _ us hl=>match us,hl with | [_],_=>rfl
 have m15:=PySem.W.mg_of X G a15;have F16:=Yf (st:=QkO) l16 c16 k16;have b16:=F16.binds (ps:=["_law_pot_here", "_law_far"]) λ_ _ _ _ _ _ us hl=>match us,hl with | [_,_],_=>rfl
 have m16:=PySem.W.mg_of X G a16;have F17:=Yf (st:=QdV) l17 c17 k17;have b17:=F17.binds (ps:=["_law_found"]) λ_ _ _ _ _ _ us hl=>match us,hl with | [_],_=>rfl
 have m17:=PySem.W.mg_of X G a17;have F18:=Yf (st:=QkP) l18 c18 k18;have b18:=F18.binds (ps:=["_law_found", "_law_due"]) λ_ _ _ _ _ _ us hl=>match us,hl with | [_,_],_=>rfl
 have m18:=PySem.W.mg_of X G a18;have F19:=Yf (st:=QdD) l19 c19 k19;have b19:=F19.binds (ps:=["_law_many"]) λ_ _ _ _ _ _ us hl=>match us,hl with | [_],_=>rfl
 have m19:=PySem.W.mg_of X G a19;have F20:=Yf (st:=QdC) l20 c20 k20;have b20:=F20.binds (ps:=["_law_pot_here", "_law_columns", "_law_most"]) λ_ _ _ _ _ _ us hl=>match us,hl with | [_,_,_],_=>rfl
 have m20:=PySem.W.mg_of X G a20;have F21:=Yf (st:=QfI) l21 c21 k21;have b21:=F21.binds (ps:=["_law_stairs_here"]) λ_ _ _ _ _ _ us hl=>match us,hl with | [_],_=>rfl
 have m21:=PySem.W.mg_of X G a21;have F22:=Yf (st:=QfH) l22 c22 k22;have b22:=F22.binds (ps:=["_law_row"]) λ_ _ _ _ _ _ us hl=>match us,hl with | [_],_=>rfl
 have m22:=PySem.W.mg_of X G a22;have F23:=Yf (st:=lAll) l23 c23 k23;have b23:=F23.binds (ps:=["_law_stairs_here"]) λ_ _ _ _ _ _ us hl=>match us,hl with | [_],_=>rfl
 have m23:=PySem.W.mg_of X G a23;have F24:=Yf (st:=sLaw) l24 c24 k24;refine⟨PySem.W.fnOf "law" "law" (Zg sLaw) (JW sLaw) (QJ sLaw) .none kV24 dc24 pm24 an24 cd24 ct24,λs v=>.of_eq rfl,λbase _ _=>?_⟩;have G1:FnOk l.prog w K mg base CX0 1 f1 _ ["thing"] (Dl.ZW false Dl.Qg6):=Qo3 F1 T ;have G2:FnOk l.prog w K mg base CX0 2 f2 _ ["thing", "least", "most"] (Dl.ZW false Qis):=Qmc F2 T m1 G1 b1 k1;have G3:FnOk l.prog w K mg base CX0 1 f3 _ ["things"] (Dl.ZW false Qhy):=Qo5 F3 T ;have G6:FnOk l.prog w K mg base CX0 3 f6 _ ["thing"] (Dl.ZW false Qiw):=Qme ⟨_,PySem.W.mg_of X G aA⟩ F6 T m2 G2 b2 k2 m3 G3 b3 k3;have G7:FnOk l.prog w K mg base CX0 4 f7 _ ["stairs"] (Dl.ZW false Qou):=Qo4 F7 T m6 G6 b6 k6;have G8:FnOk l.prog w K mg base CX0 5 f8 _ ["stairs"] (Dl.ZW true QdX):=Qo6 F8 T m7 G7 b7 k7;have G5:FnOk l.prog w K mg base CX0 1 f5 _ ["many", "numbers"] (Dl.ZW false QxV):=QvA F5 T ;have G4:FnOk l.prog w K mg base CX0 2 f4 _ ["many"] (Dl.ZW true QkC):=Qs5 F4 T m5 G5 b5 k5;have G11:FnOk l.prog w K mg base CX0 1 f11 _ ["put", "order"] (Dl.ZW false QwQ):=QvB F11 T ;have G10:FnOk l.prog w K mg base CX0 6 f10 _ ["stairs"] (Dl.ZW true Qe0):=(Qo7 F10 T m8 G8 b8 k8 m11 G11 b11 k11 m4 G4 b4 k4 m3 G3 b3 k3).imp λ_ _ _ _ h=>Qwu h
 have G13:FnOk l.prog w K mg base CX0 1 f13 _ ["numbers"] (Dl.ZW false Qt3):=QvE F13 T ;have G12:FnOk l.prog w K mg base CX0 7 f12 _ ["stairs"] (Dl.ZW false Qxx):=Qvy F12 T m10 G10 b10 k10 m13 G13 b13 k13;have G9:FnOk l.prog w K mg base CX0 6 f9 _ ["one", "other"] (Dl.ZW false Qxv):=Qvx F9 T m7 G7 b7 k7 m8 G8 b8 k8;have G14:FnOk l.prog w K mg base CX0 1 f14 _ ["_law_script", "_law_k"] (QcY K):=Qmi F14 T ;have G15:FnOk l.prog w K mg base CX0 1 f15 _ ["_law_cell"] (Dl.ZW true Dl.QxJ):=(Qvz F15 T).imp λ_ _ _ _ h=>Dl.QxI h
 have G16:FnOk l.prog w K mg base CX0 1 f16 _ ["_law_pot_here", "_law_far"] (Dl.ZW true Dl.Qoa):=(Qs3 F16 T).imp λ_ _ _ _ h=>Dl.Qut h
 have G17:FnOk l.prog w K mg base CX0 1 f17 _ ["_law_found"] (Dl.ZW false Dl.Qg6):=Qmg F17 T ;have G18:FnOk l.prog w K mg base CX0 5 f18 _ ["_law_found", "_law_due"] (Dl.ZW false (Dl.Qsp 3)):=(Qmf F18 T m18 b18 k18 m17 (Qmd F17 T) b17 k17 4).imp λ_ _ _ _ h=>Dl.QuJ h
 have G19:FnOk l.prog w K mg base CX0 1 f19 _ ["_law_many"] (Dl.ZW true QkC):=(QkH F19 T ).imp λ_ _ _ _ h=>Qtk h
 have G20:FnOk l.prog w K mg base CX0 2 f20 _ ["_law_pot_here", "_law_columns", "_law_most"] (Dl.ZW false Qgl):=QkI F20 T m16 G16 b16 k16;have G21:FnOk l.prog w K mg base CX0 1 f21 _ ["_law_stairs_here"] (Dl.ZW true QdX):=Qmh F21 T ;have G22:FnOk l.prog w K mg base CX0 1 f22 _ ["_law_row"] (Dl.ZW false Qt3):=Qs4 F22 T ;have G23:FnOk l.prog w K mg base CX0 2 f23 _ ["_law_stairs_here"] (Dl.ZW true Qe0):=QvD F23 T m21 G21 b21 k21 m19 G19 b19 k19;exact QvC F24 T m14 G14 b14 k14 m15 G15 b15 k15 m16 G16 b16 k16 m20 G20 b20 k20 m23 G23 b23 k23 m10 G10 b10 k10 m18 G18 b18 k18 m22 G22 b22 k22 m12 G12 b12 k12 m9 G9 b9 k9 m21 G21 b21 k21
theorem QyZ{l:PySem.W.OpenLaw}{q:QB}{loose:List Str}{XP:(Str->Option Value)->Heap->Prop}{YP:Q8->Heap->Prop}{d:DefRec}{K:Params->PySem.W.Frag}(hn:l.most=some 63)(hdf:d.params.defaults=[])
  (hY:∀(w:Q8)(h:Heap),YP w h->(K w.params).In h)
  (F:∀(w:Q8)(mg:Str->Option Value)(fa:Addr)(h:Heap),(K w.params).In h->h.Ns mainGlobals mg->mg d.name=some (.ref fa) ->
   ∃fd:Q1,(∀(s:Shared)(u:Value),Qn3 s fd ⟨[u],[]⟩ [("_law_script",u)])/\∀base:Heap,(K w.params).In base->base.Ns mainGlobals mg->FnOk l.prog w (K w.params) mg base CX0 8 fa fd ["_law_script"] (Dl.Qfn (K w.params))) :
  PySem.W.WalkO q loose XP YP l.row.toRowW d [] (λf vs=>PySem.call f vs):=
 L2.Qsc (n:=63) (k:=8) (x := "_law_script") (CX:=λ_=>CX0) (sp:=λw=>(Dl.Qfn (K w.params))) hn (by decide) hdf ⟨rfl,by decide,by decide⟩ hY F (λ_ _ a ns hl _ hS=>⟨a,ns,rfl,hS,hl,λ_=>rfl⟩) λ_ _ _ _ _ z=>z
end Rk
open PySem.W
set_option maxRecDepth 100000 in
set_option maxHeartbeats 0 in
theorem PySem.Challenge.cw_rooklands_k64_stairs_of_the_same_heads_holds : PySem.Challenge.rw_rooklands_k64_stairs_of_the_same_heads.Holds := by
 w_on;o_law;k_head;(case hw=>w_witness2)
 k_fill
 refine Rk.QyZ (l:=PySem.Challenge.rw_rooklands_k64_stairs_of_the_same_heads) rfl rfl (λw h Y=>PySem.W.kIn_of Y) ?F
 case F=>
  intro w mg fa h KX G hmg;refine' Rk.Qwv KX G hmg ?a1 ?l1 ?c1 ?k1 ?a2 ?l2 ?c2 ?k2 ?a3 ?l3 ?c3 ?k3 ?a4 ?l4 ?c4 ?k4 ?a5 ?l5 ?c5 ?k5 ?a6 ?l6 ?c6 ?k6 ?a7 ?l7 ?c7 ?k7 ?a8 ?l8 ?c8 ?k8 ?a9 ?l9 ?c9 ?k9 ?a10 ?l10 ?c10 ?k10 ?a11 ?l11 ?c11 ?k11 ?a12 ?l12 ?c12 ?k12 ?a13 ?l13 ?c13 ?k13 ?a14 ?l14 ?c14 ?k14 ?a15 ?l15 ?c15 ?k15 ?a16 ?l16 ?c16 ?k16 ?a17 ?l17 ?c17 ?k17 ?a18 ?l18 ?c18 ?k18 ?a19 ?l19 ?c19 ?k19 ?a20 ?l20 ?c20 ?k20 ?a21 ?l21 ?c21 ?k21 ?a22 ?l22 ?c22 ?k22 ?a23 ?l23 ?c23 ?k23 ?a24 ?l24 ?c24 ?k24 ?z1 ?z2 ?z3 ?z4 ?z5 ?z6 ?z7 ?z8 ?z9 ?z10 ?z11 ?z12 ?z13 ?z14 ?z15 ?z16 ?z17 ?z18 ?z19 ?aA
  (case a1=>k_is)
  (case l1=>k_is)
  (case c1=>k_is)
  (case k1=>k_is)
  (case a2=>k_is)
  (case l2=>k_is)
  (case c2=>k_is)
  (case k2=>k_is)
  (case a3=>k_is)
  (case l3=>k_is)
  (case c3=>k_is)
  (case k3=>k_is)
  (case a4=>k_is)
  (case l4=>k_is)
  (case c4=>k_is)
  (case k4=>k_is)
  (case a5=>k_is)
  (case l5=>k_is)
  (case c5=>k_is)
  (case k5=>k_is)
  (case a6=>k_is)
  (case l6=>k_is)
  (case c6=>k_is)
  (case k6=>k_is)
  (case a7=>k_is)
  (case l7=>k_is)
  (case c7=>k_is)
  (case k7=>k_is)
  (case a8=>k_is)
  (case l8=>k_is)
  (case c8=>k_is)
  (case k8=>k_is)
  (case a9=>k_is)
  (case l9=>k_is)
  (case c9=>k_is)
  (case k9=>k_is)
  (case a10=>k_is)
  (case l10=>k_is)
  (case c10=>k_is)
  (case k10=>k_is)
  (case a11=>k_is)
  (case l11=>k_is)
  (case c11=>k_is)
  (case k11=>k_is)
  (case a12=>k_is)
  (case l12=>k_is)
  (case c12=>k_is)
  (case k12=>k_is)
  (case a13=>k_is)
  (case l13=>k_is)
  (case c13=>k_is)
  (case k13=>k_is)
  (case a14=>k_is)
  (case l14=>k_is)
  (case c14=>k_is)
  (case k14=>k_is)
  (case a15=>k_is)
  (case l15=>k_is)
  (case c15=>k_is)
  (case k15=>k_is)
  (case a16=>k_is)
  (case l16=>k_is)
  (case c16=>k_is)
  (case k16=>k_is)
  (case a17=>k_is)
  (case l17=>k_is)
  (case c17=>k_is)
  (case k17=>k_is)
  (case a18=>k_is)
  (case l18=>k_is)
  (case c18=>k_is)
  (case k18=>k_is)
  (case a19=>k_is)
  (case l19=>k_is)
  (case c19=>k_is)
  (case k19=>k_is)
  (case a20=>k_is)
  (case l20=>k_is)
  (case c20=>k_is)
  (case k20=>k_is)
  (case a21=>k_is)
  (case l21=>k_is)
  (case c21=>k_is)
  (case k21=>k_is)
  (case a22=>k_is)
  (case l22=>k_is)
  (case c22=>k_is)
  (case k22=>k_is)
  (case a23=>k_is)
  (case l23=>k_is)
  (case c23=>k_is)
  (case k23=>k_is)
  (case a24=>k_is)
  (case l24=>k_is)
  (case c24=>k_is)
  (case k24=>k_is)
  (case z1=>k_is)
  (case z2=>k_is)
  (case z3=>k_is)
  (case z4=>k_is)
  (case z5=>k_is)
  (case z6=>k_is)
  (case z7=>k_is)
  (case z8=>k_is)
  (case z9=>k_is)
  (case z10=>k_is)
  (case z11=>k_is)
  (case z12=>k_is)
  (case z13=>k_is)
  (case z14=>k_is)
  (case z15=>k_is)
  (case z16=>k_is)
  (case z17=>k_is)
  (case z18=>k_is)
  (case z19=>k_is)
  (case aA=>k_is)
