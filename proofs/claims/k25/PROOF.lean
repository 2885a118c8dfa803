import PyProof.Rows.All
import Wide.All
import OpenK.AllK
import Wide.FinOn
import Lean
import PyProof.EqAt
import PyProof.EqKinds
import PyProof.TupleCall
import PyProof.SetRoads
import PyProof.FactsAll.set_1
import PyProof.Rows.SetFrom
import PyProof.CollectWalk
import PyProof.Walks
import PyProof.TupleIter
import PyProof.TupleKey
import PyProof.P3Eq
import PyProof.Draws
import PyProof.EnumMake
import PyProof.NeData
import KE.LcSums
import PyProof.WalkInts
import PyProof.SeqI3
import PyProof.Rows.SortRuns
import PyProof.Rows.SortShellK
import KE.KSortTup
import PyProof.Rows.CallKwBuiltin
import KE.KRevIter
import PyProof.FactsAll.range_2
import PyProof.DictCompW
import PySem.Challenge.RW_rooklands_k25_whole_most
local macro_rules | `(tactic| omega) => `(tactic| first | lia | omega +splitDisjunctions)
open PySem renaming PyData->Qa,Program->QF,FuncData->QM,Expr->QV,Around->Q9,World->Jk,wpAny_newObj_type->Jx,wpAny_call_entry->JJ,wpAny_holding->JT,wpAny_callSpecial?_slot->J6,wpAny_field->J9,wpAny_seqItems->Ze,wpAny_truthy_bool->Zp,wpAny_of_eq->ZH,Stmt->ZY,wpAny_askSetting->Z0,wpAny_setField_rec->YD,wpAny_pyIter_tuple->YE,wpAny_passesOwn->YS,sizeLine_eq->YT,codeAny_builtin->YU,Builtin->YV,Scope->Y0,mem_of_lookup->Y1,wpAny_tryCatch->Qad,wpAny_comprehension_free->Qal,wpAny_loadPart'->Qat,wpAny_Call_Name_kw->Qau,plainId_quiet->Qav,Fin->Qaw,wpAny_setState_of->QaN,NameKind->QaR,wpAny_newFunctionEnv->Qbe,Paired->Qbf,wpAny_updateSeq->Qbo,wpAny_letGo->Qbp,wpAny_setField->Qb8,isSubtype_type->Qb9,wpAny_pyIter_enum->Qcm,Operator->QcP,Keyword->QcS,Comprehension->QcU,wpAny_pyIter_zip->Qc7,wpAny_pyNext_list_item->Qc9,wpAny_pyIter_rangeiter->Qda,codeAny_compStart_list->Qdb,wpAny_typeOf->QdP,wpAny_pyNext_list_end->QdQ,wpAny_execs_nil->QdR,exec_Assign_Name_used->QdS,codeAny_mono->QdT,builtinLookup_eq_fast->QdU,ReadsAll->QdZ,wpAny_updateSeq_pair->Qei,wpAny_onRaise->QfJ,wpAny_attempt->QfK,rangeSize_one->QfL,PassesOwn->QfP,wpAny_pyIter_list->QgU,call_meets->QgV,seqIndex_neg->QhS,IsPart->QhW,wpAny_isInstance->Qh0,wpAny_eqBool_int->Qh1,noFill_tuple_add->Qh2,typeLookup_type->Qj2,seqIndex_of->Qj3,codeAny_of_tree->Qj4,Result->Qj5,IsRangeIter->Qj7,wpAny_letOwnedTupleGo_enum->Qk0,wpAny_letOwnedTupleGo_zip->Qla,Reads->Qle,intKind_is->Qn8,wpAny_newList->Qol,seq_tuple_add->Qon,call->Qoq,BindsTo->Qox,wpAny_pyNext_range_end->Qrz,wpAny_getItem_list_neg->QrA,concat_meets->QsM,IsZip->QsX,CmpOp->QsY,wpAny_loadName_local->QvB,wpAny_setEntries_of->QvP,wpAny_loadName_cell->QvQ,IsRange->QvZ,wpAny_List_spliced->QyI,ZipApart->QyK,Within->QyL,wpAny_storeSet_of->Qy3,wpAny_sequenceKey->Qy4,wpAny_pyIter_slot->Qy5,wpAny_call->Qy6,wpAny_assign_Name->Qy7,wpAny_Name->Qy8,typeIs_int->Qy9,slot_list_getitem->Qza
open PySem.W renaming keepIn->Qb,Frag->Qc,nsIn->Qp,codeIn->Qs,fnOf->Qw,mg_of->Qz,mg_none_of->Q2,kia_one->Zc,methodObj->QdV,instObj->QeY,OpenLaw->QeZ,lookIn->QfM,kitOne->QfN,cellsFrom_some->QhT,kitx_list->Qlf,kitx_dict->Qlg,plainGet->Qoc,findIn->QrE,WalkO->QsP
open List renaming length_map->Qd,getElem?_eq_getElem->Qf,mem_map->Qh,mem_filter->Qj,size_toArray->Ql,getD_eq_getElem?_getD->Qo,range->Qt,length_append->Qu,getElem?_map->Qv,mem_singleton->Qx,mem_cons->Qy,mem_append_right->QB,map_map->QL,length_cons->QQ,mem_range->Q0,length_range->Q1,not_mem_nil->Q3,getElem?_eq_none->Q6,filter_cons_of_pos->Q7,filter_cons_of_neg->Q8,mem_of_getElem?->Ja,pairwise_map->Jb,getElem?_eq_some_iff->Jd,mem_append->Jf,replicate->Ji,lookup_cons->Jn,getElem?_range->Jo,map_append->Jr,map_cons->Js,flatMap_cons->JA,mem_iff_getElem?->JK,nodup_range->JN,nodup_cons->JO,nodup_append->JP,mem_flatMap->JV,all_eq_true->JW,mem_cons_of_mem->J4,perm_ext_iff_of_nodup->Zg,replicate_succ->Zk,filter_eq_self->Zl,append_nil->Zo,filterMap_map->Zs,getElem_mem->Zw,mem_append_left->ZB,map_congr_left->ZK,length_pos_of_mem->ZM,take_length->ZQ,mem_cons_self->ZR,length_set->Z7,flatten_cons->Z8,ext_getElem?->Z9,eraseIdx_eq_take_drop_succ->Ya,toArray->Yf,getElem?_replicate->Yh,getElem?_cons_succ->Yi,filter_eq_nil_iff->Yl,filter_filter->Ym,filter_append->Yn,countP_eq_length_filter->Yo,length_filter_le->Yy,take_add_one->YF,sum_cons->YG,getElem?_append_right->YK,pairwise_append->YM,pairwise_iff_getElem->YW,getElem?_append_left->YX,countP_cons_of_pos->Qaf,countP_cons_of_neg->Qag,pairwise_lt_range->Qan,filter_congr->Qaq,length_replicate->QaB,length_take->QaK,any_eq_true->QaL,getElem?_set_ne->QaP,dropLast_concat_getLast->QaS,toList_toArray->Qa3,flatMap_append->Qa4,filterMap_cons->Qa5,length_erase_of_mem->Qbv,append_assoc->Qbw,mem_toArray->Qca,length_drop->Qcb,take_of_length_le->Qcd,getElem?_set_self->Qce,zipWith->QcF,range_succ->QcG,pairwise_and_iff->QcH,length_singleton->QcI,map_take->Qd0,any_cons->Qd1,all_cons->Qd2,of_mem_zip->QgK,nil_append->QgL,map_id->QgM,lookup->QgN,length_nil->QgO,forIn_cons->QgP,foldl_cons->QgQ,drop_eq_getElem_cons->QhV,take_nil->QiR,pairwise_singleton->QiS,map_drop->QiT,getElem?_cons_zero->QiU,take_append_drop->Qk2,pairwise_flatMap->Qk3,getElem?_toArray->Qk4,filterMap_append->Qk5,countP_mono_left->Qk6,mem_of_getLast?->Qlj,mem_erase_of_ne->Qlk,getLast?_append->Qll,length_zipWith->Qod,filter_sublist->Qoe,countP_eq_zero->Qof,zip_cons_cons->Qot,pairwise_cons->Qou,mem_filterMap->Qov,reverse_cons->QrF,getElem?_set->QrG,foldl->QrH,zipIdx_cons->QsT,getElem_map->QsU,getElem_inj->QsV,flatMap_map->QsW,zipIdx_nil->QvI,take_range->QvJ,filter_nil->QvK,filter_map->QvL,forIn_nil->QvX,drop_zero->QvY,drop_nil->QyO,map_nil->Qzn,any_map->Qzo
open PySem.Heap renaming get?_push_of_some->Qe,lt_size->Qk,get?_push_size->Qr,get?_update_self->JU,get?_update_other->Zj,size_push->Zm,SameBut->QaC,IsTuple->Qk7
open Nat renaming le_refl->Qg,ne_of_lt->QD,lt_of_lt_of_le->QP,le_trans->QU,zero_le->Jc,le_of_lt->Zq,pow_le_pow_right->Z6,add_sub_cancel->Yu,lt_succ_of_lt->YI,lt_irrefl->YJ,ne_of_gt->QaD,two_pow_pos->Qa7,lt_of_le_of_lt->Qbl,min_eq_left->QcR,mul_le_mul->QdD,le_succ->QdW,lt_trichotomy->Qe1,min_le_right->QfQ,zero_add->Qlh,succ_mul->Qli,testBit_two_pow->Qos,mod_lt->QsR,le_of_lt_succ->QsS,succ_le_succ->QvE,min_eq_right->QvF,le_max_right->QvG,le_add_right->QvH,not_lt_zero->QvV,min_le_left->QvW,testBit_or->QyN
open PySem.PyData renaming int->Qi,eqv->QX,depthAll->JS,canLayAll0->JX,depth->ZP,tuple->Yb,list->Ys,bool->Qbu,eqvAll->QdC,canLay0->QgJ
open Bool renaming false_ne_true->Qm,and_eq_true_iff->QR,and_eq_true->JB,eq_iff_iff->J8,false_eq_true->Zu,true_and->YH,or_eq_true->Qa6,and_true->QbS,and_comm->QiV,not_eq_true'->QrK
open Int renaming toNat_natCast->QH,zero_add->QaE,add_zero->QcT,le_refl->Qow,natCast_nonneg->QrI,le_antisymm->Qv0
open Option.some renaming inj->QJ
open Or renaming inr->QK,inl->QN
open Array renaming length_toList->Q4,getElem?_eq_none->ZL,getElem?_eq_getElem->ZU,getD_eq_getD_getElem?->Yx,getElem_toList->QaM,getElem?_toList->Qcp,toList_map->Qe2,toList_inj->Qe3,perm_iff_toList_perm->QgS,toList->Qj8,mem_toList_iff->Qk8
open PySem.NameKind renaming free->Jh,cell->Yv
open List.Pairwise renaming filter->Ju,imp_of_mem->ZO,sublist->Qzp,nil->Qzq,map->Qzr,imp->Qzs
open PySem.Value renaming none->Jz,ref->J7,int->Yw,type->Qam,bool->Qbq,builtin->Qh3,str->QsN,float->Qze
open PySem.Builtin.Range renaming rangeFitsLong->JC,rangeSize->Za,rangeFields->Qzy
open PyProof.Rows renaming callWith_type1->JD,slot_tuple_getitem->JR,Keyed->Qa8,IntsAre->Qa9,SortKind->QbR,step_dedup->Qcn,AllBare->Qe4,sortedHeap_old->Qlb,list_sort_tree->Qlc,sortedHeap_at->Qom,listUpdate_at->Qoo,subscriptTail_builtinR->QrB,seqEpoch_at->QvR,entry_tuple_getitem->QvS,args_tuple_getitem->QyJ,size_push'->Qzb
open PySem.SetTable renaming insertAt->JE,Probe->Qa2,below->Qco,grown->Qfd,runEnd->Qoa
open PySem.Builtin.SmallTypes renaming nextOf->JG,ownedTupleIsFree->Zn,ownedTupleHandOut->Qba
open PySem.PassesOwn renaming never->JQ
open Prod.mk renaming inj->JZ
open PySem.Builtin.Int renaming intBits->Zd,intTooBig->QfR
open Option renaming map_eq_some_iff->Zf,getD_none->Qor,none->QyM
open False renaming elim->Zr
open PySem.Obj renaming mapSeq->Zv,data_mapFields->Yt,isFreed_of_fields->QcQ,cls_mapFields->Qe0,mapFields->Qj6,putSet->QsQ
open PySem.Heap.SameBut renaming update->Zx,refl->QhX
open PySem.Around renaming under_plainId->Zy
open ForInStep renaming yield->ZC
open List.Perm renaming eq_of_pairwise->ZT,refl->Qcf
open PySem.F renaming plain_min_loop->ZZ,slot_tuple_iterator_next->YY,plainAttrs_list->Y6,args_tuple_add_2->Qbh,entry_tuple_add->Qbr,slot_tuple_add->Qbx,entry_min_loop->QcJ,slot_zip_next->Qdc,slot_range_reversed->Qdd,type_list_append->QgH,slot_list_append->QgI,args_tuple_iterator_next_1->QhY,slot_set_iter->Qh6,entry_tuple_iterator_next->Qh7,plain_reversed_new->QrJ,plain_list_iadd->Qv1,args_zip_next_1->Qv2,entry_zip_next->QyQ,slot_int_rmul->Qzt
open PySem.Builtin.Slice renaming slicePlaces->Yp,sliceAdjust->QaF,sliceApplied->QdF,slicePartIndex->Qzw,sliceFields->Qzx
open PySem.Builtin.Tuple renaming tupleExact->Yz,tupleItemsOf->QdE,tupleIsExact->Qzu,tupleCompareSizes->Qzv
open Classical renaming byContradiction->YA
open PySem.Str renaming ofString->Y8
open PySem.Challenge renaming rw_rooklands_k25_whole_most->QaO,pw_rooklands_k25_whole_most->QvU
open Ne renaming symm->QaQ
open PySem.Builtin.List renaming listTooLong->QaT,listExtendWith->QdG,listSameRef->Qej
open True renaming intro->Qbt
open PySem.Builtin renaming bitAnd->QcK,bitOr->Qde
open PySem.Builtin.Builtins renaming bindParams->QcL
open Sum renaming inl->QcO,inr->QgW
open Prod renaming ext->QfO
open PySem.Calls renaming Name_function_global->QgR,call_function_entry->QgX
open Nat.succ renaming inj->QhU
open PySem.SeqAt.EqAt renaming str_int->Qh4,int_str->Qh5
open PySem.Shared renaming heap->Qk1,TypeIs->QvC
open PySem.SeqAt renaming notIn_tupleAt->Qld,notIn_listAt->Qob,EqAt->Qop,eqAt_reads->QrD
open String renaming splitOnAux->Qn9,splitOn->QsO
open PySem.pickOrder renaming go->QrC
open PySem.Builtin.Frozenset renaming oneOther->QsZ
open PySem.Paired renaming length->QvD
open Sum.inl renaming inj->QvT
open And renaming intro->Qv3
open PySem.Heap.IsSliceOf renaming new->QyP
open PySem.Walks renaming range->Qzc
open PySem.W.WShape renaming has->Qzd
open PySem.EqMixed renaming ne_str_int->Qzf,ne_str_bool->Qzg,ne_int_str->Qzh,ne_bool_str->Qzi,eq_str_int->Qzj,eq_str_bool->Qzk,eq_int_str->Qzl,eq_bool_str->Qzm
open PySem PySem.Spec PyProof.Rows
set_option Elab.async false
set_option linter.all false
set_option maxRecDepth 100000
namespace L2
abbrev Key:=Sum Int Str
def QxT:Key->Value->Bool
 |.inl k,v=>Value.isInt k v
 |.inr x,v=>Value.isStrOf x v
def QCa(w:Jk):Key->Int
 |.inl k=>hashInt k
 |.inr x=>hashStr w x
theorem Z5:∀{k:Key}{v:Value},QxT k v=true->(∃i t,k=QcO i/\v=Yw i t)∨(∃x t,k=QgW x/\v=QsN x t)
 |.inl i,v,h=>by
  obtain⟨t,e⟩:=Value.isInt_shape (k:=i) (v:=v) h;exact .inl ⟨i,t,rfl,e⟩
 |.inr x,v,h=>by
  obtain⟨t,e⟩:=Value.isStrOf_shape (x:=x) (v:=v) h;exact .inr ⟨x,t,rfl,e⟩
theorem QxS(a b:Int):decide ((QcO a:Key)=QcO b)=(a == b):=by
 by_cases e:a=b
 ·subst e;simp
 ·have h:¬(QcO a:Key)=QcO b:=λq=>e (QvT q)
  rw[decide_eq_false h];exact(beq_eq_false_iff_ne.mpr e).symm
theorem QxP(a b:Str):decide ((QgW a:Key)=QgW b)=decide (a=b):=by
 by_cases e:a=b
 ·subst e;simp
 ·have h:¬(QgW a:Key)=QgW b:=λq=>e (Sum.inr.inj q)
  rw[decide_eq_false h,decide_eq_false e]
theorem QxR(a:Int)(b:Str):decide ((QcO a:Key)=QgW b)=false:=decide_eq_false (λq=>nomatch q)
theorem QxQ(a:Str)(b:Int):decide ((QgW a:Key)=QcO b)=false:=decide_eq_false (λq=>nomatch q)
def mixKind(prog:QF)(w:Jk):PySem.KeyKind prog w Key where
 is:=QxT
 hash:=QCa w
 inj:=λv a b ha hb=>by
  rcases Z5 ha with⟨i,t,rfl,rfl⟩ | ⟨x,t,rfl,rfl⟩
  ·rcases Z5 hb with⟨j,u,rfl,e⟩ | ⟨y,u,rfl,e⟩
   ·injection e with e1 _;rw[e1]
   ·exact nomatch e
  ·rcases Z5 hb with⟨j,u,rfl,e⟩ | ⟨y,u,rfl,e⟩
   ·exact nomatch e
   ·injection e with e1 _;rw[e1]
 byValue:=λk v h=>by
  rcases Z5 h with⟨i,t,rfl,rfl⟩ | ⟨x,t,rfl,rfl⟩<;>rfl
 pyHash:=λhv h=>by
  rcases Z5 hv with⟨i,t,rfl,rfl⟩ | ⟨x,t,rfl,rfl⟩
  ·exact wpAny_pyHash_int h
  ·exact wpAny_pyHash_str h
 eqBool:=λhu hv h=>by
  rcases Z5 hu with⟨i,t,rfl,rfl⟩ | ⟨x,t,rfl,rfl⟩
  ·rcases Z5 hv with⟨j,u,rfl,rfl⟩ | ⟨y,u,rfl,rfl⟩
   ·rw[QxS] at h;exact Qh1 h
   ·rw[QxR] at h;exact Qh5 i t y u _ _ _ _ h
  ·rcases Z5 hv with⟨j,u,rfl,rfl⟩ | ⟨y,u,rfl,rfl⟩
   ·rw[QxQ] at h;exact Qh4 x t j u _ _ _ _ h
   ·rw[QxP] at h;exact wpAny_eqBool_str h
 «strs» := λk x t v h=>by
  rcases Z5 h with⟨i,u,rfl,e⟩ | ⟨y,u,rfl,e⟩
  ·exact nomatch e
  ·injection e with e1 _
   subst e1;cases v<;>rfl
inductive V where
 |non | bl (b:Bool) | int (i:Int) | str (x:Str) | byt (b:Array UInt8) | flt (b:UInt64) | ref (a:Addr) | ty (n:String)
 deriving DecidableEq
def RelV:V->Value->Prop
 |.non,u=>u=Jz
 |.bl b,u=>u=Qbq b
 |.int i,u=>∃t,u=Yw i t
 |.str x,u=>∃t,u=QsN x t
 |.byt b,u=>∃t,u=Value.bytes b t
 |.flt b,u=>∃t,u=Qze b t
 |.ref a,u=>u=J7 a
 |.ty n,u=>u=Qam n
abbrev Vals:List V->List Value->Prop:=Qbf RelV
theorem Vals.length{xs:List V}{us:List Value}(r:Vals xs us):xs.length=us.length:=QvD r
theorem Vals.get:∀{xs:List V}{us:List Value}{i:Nat}{x:V},Vals xs us->xs[i]? = some x->∃u,us[i]? = some u/\RelV x u
 |_,_,_,_,.nil,e=>by simp at e
 |_,_,0,_,.cons r _,e=>by simp at e;subst e;exact⟨_,rfl,r⟩
 |_,_,i+1,x,.cons _ t,e=>by
  obtain⟨u,h1,h2⟩:=Vals.get (i:=i) (x:=x) t (by simpa using e);exact⟨u,by simpa using h1,h2⟩
theorem Vals.set{x:V}{u:Value}(r:RelV x u):∀{xs:List V}{us:List Value}(i:Nat),Vals xs us->Vals (xs.set i x) (us.set i u)
 |_,_,_,.nil=>.nil
 |_,_,0,.cons _ t=>.cons r t
 |_,_,i+1,.cons q t=>.cons q (Vals.set r i t)
theorem Vals.append:∀{xs ys:List V}{us ws:List Value},Vals xs us->Vals ys ws->Vals (xs++ys) (us++ws)
 |_,_,_,_,.nil,s=>s
 |_,_,_,_,.cons r t,s=>.cons r (Vals.append t s)
theorem Vals.take:∀{xs:List V}{us:List Value}(n:Nat),Vals xs us->Vals (xs.take n) (us.take n)
 |_,_,0,_=>.nil
 |_,_,_+1,.nil=>.nil
 |_,_,n+1,.cons r t=>.cons r (Vals.take n t)
theorem Vals.drop:∀{xs:List V}{us:List Value}(n:Nat),Vals xs us->Vals (xs.drop n) (us.drop n)
 |_,_,0,r=>r
 |_,_,_+1,.nil=>.nil
 |_,_,n+1,.cons _ t=>Vals.drop n t
def QA0:Option V->Option Value->Prop
 |some v,some u=>RelV v u
 |none,none=>True
 |_,_=>False
def KV{κ:Type}:List (κ×V)->List (κ×Value)->Prop:=Qbf λ(p:κ×V)(q:κ×Value)=>p.1=q.1/\RelV p.2 q.2
def kV:Key->V
 |.inl i=>.int i
 |.inr x=>.str x
inductive HO where
 /-- a list -/
 |lst (xs:List V)
 /-- a tuple (never changes) -/
 |tup (xs:List V)
 /-- a dict whose keys are ints and texts;one whose keys are tuples of ints and texts (the empty one is both) -/
 |dK (kvs:List (Key×V)) | dT (kvs:List (List Key×V))
 /-- a set of ints: its members,its size -/
 |set (S:Int->Bool) (n:Nat)
 /-- an instance of the class at C,its dict at dx,its attributes -/
 |ins (C dx:Addr) (fs:List (Str×V))
 /-- the dict of the instance at x -/
 |own (x:Addr)
 /-- the dict of an exception -/
 |xd (fs:List (Str×V))
 /-- a bound method,f of x -/
 |met (f x:Addr)
 /-- a range object lo,lo+1,.. below hi -/
 |rng (lo hi:Int)
 /-- a thing that is known to the object (the script;a dict while a loop walks it): read,never written while it is so -/
 |frz (o:Obj) (u:HO)
 /-- a code object's table -/
 |tbl (ps:Array Value)
 /-- any other thing,by what is true of its one object (a def of one's own: SetO a S n:=HO.ext λh=>..) -/
 |ext (φ:Heap->Prop)
abbrev Hp:=Addr->Option HO
def upd(H:Hp)(a:Addr)(o:HO):Hp:=λb=>if b=a then some o else H b
theorem Jy{H:Hp}{a:Addr}{o:HO}:upd H a o a=some o:=by unfold upd;rw[if_pos rfl]
theorem JM{H:Hp}{a b:Addr}{o:HO}(h:b≠a):upd H a o b=H b:=by unfold upd;rw[if_neg h]
theorem ZX{H:Hp}{a b:Addr}{o:HO}(h:H a=some o)(h':H b=none):a≠b:=by
 intro e;subst e;rw[h] at h';cases h'
def TupN(h:Heap)(a:Addr)(items:Array Value):Prop:=∃o,h.get? a=some o/\o.cls=.type "tuple" /\ o.dict=none/\∃n,o.data=.seq items n
theorem TupN.tup{h:Heap}{a:Addr}{items:Array Value}(x:TupN h a items):IsTup h a items:=let ⟨o,e,c,_,d⟩:=x;⟨o,e,c,d⟩
theorem TupN.lt{h:Heap}{a:Addr}{items:Array Value}(x:TupN h a items):a<h.objs.size:=let ⟨_,e,_⟩:=x;Qk e
theorem TupN.new(h:Heap)(items:Array Value):TupN (h.push { cls:=.type "tuple",data:=.seq items }) h.objs.size items:=⟨_,Qr _ rfl,rfl,rfl,_,rfl⟩
section
variable(P:QF)(w:Jk)
def ObjOk(H:Hp)(h:Heap)(a:Addr):HO->Prop
 |.lst xs=>xs.length<=sizeLine/\∃(its:List Value)(n:Nat),Vals xs its/\h.get? a=some { cls:=.type "list",data:=.seq its.toArray n }
 |.tup xs=>xs.length<=sizeLine/\∃its:List Value,Vals xs its/\TupN h a its.toArray
 |.dK kvs=>kvs.length<=sizeLine/\(a == sysModules)=false/\∃vs,KV kvs vs/\h.DictOf (mixKind P w) a vs
 |.dT kvs=>kvs.length<=sizeLine/\(a == sysModules)=false/\∃xs:List (List Key×Addr×Value),
   Qbf (λ(p:List Key×V)(q:List Key×Addr×Value)=>p.1=q.1/\H q.2.1=some (.tup (p.1.map kV))/\RelV p.2 q.2.2) kvs xs /\
   ∃o es ep,h.get? a=some o/\o.ExactDict/\o.data=.dict es ep/\es.toList=xs.map (entryOfKey (tupleKind (mixKind P w)))/\(xs.map (·.1)).Nodup
 |.set S n=>h.SetOf (intKind P w) a S n
 |.ins C dx fs=>H dx=some (.own a)/\fs.length<=1000/\dx≠a/\h.get? a=some (PySem.W.instObj C dx) /\
   ∃mA,h.Ns1 dx mA/\(∀f,QA0 (fs.lookup f) (mA f))/\PySem.Within mA (fs.map (·.1))
 |.own _=>∃o,h.get? a=some o
 |.xd fs=>∃mA,h.Ns1 a mA/\∀f,QA0 (fs.lookup f) (mA f)
 |.rng lo hi=>∃t u v,h.get? a=some { cls:=.type "range",data:=.fields #[.int lo t,.int hi u,.int 1 v] }
 |.frz o u=>h.get? a=some o/\ObjOk H h a u
 |.tbl ps=>h.get? a=some { cls:=.none,data:=.fields ps }
 |.met f x=>h.get? a=some (PySem.W.methodObj (.ref f) (.ref x))
 |.ext φ=>φ h/\(∃o,h.get? a=some o)/\∀h1 h2:Heap,φ h1->(∀o,h1.get? a=some o->h2.get? a=some o)->φ h2
def HOk(H:Hp)(h:Heap):Prop:=∀a o,H a=some o->ObjOk P w H h a o
end
section
variable{P:QF}{w:Jk}{H H':Hp}{h h':Heap}{a:Addr}{o:HO}
theorem ObjOk.lt(x:ObjOk P w H h a o):a<h.objs.size:=by
 cases o with
 |lst xs=>obtain⟨_,_,_,_,e⟩:=x;exact Qk e
 |tup xs=>obtain⟨_,_,_,p⟩:=x;exact p.lt
 |dK kvs=>obtain⟨_,_,_,_,o,_,_,e,_⟩:=x;exact Qk e
 |dT kvs=>obtain⟨_,_,_,_,o,_,_,e,_⟩:=x;exact Qk e
 |set S n=>obtain⟨o,_,_,_,e,_⟩:=x;exact Qk e
 |ins C dx fs=>obtain⟨_,_,_,e,_⟩:=x;exact Qk e
 |own y=>obtain⟨_,e⟩:=x;exact Qk e
 |xd fs=>obtain⟨_,⟨_,_,_,e,_⟩,_⟩:=x;exact Qk e
 |rng lo hi=>obtain⟨_,_,_,e⟩:=x;exact Qk e
 |frz ob u=>obtain⟨e,_⟩:=x;exact Qk e
 |tbl ps=>exact Qk (show h.get? a=some _ from x)
 |met f y=>exact Qk (show h.get? a=some _ from x)
 |ext φ=>obtain⟨_,⟨_,e⟩,_⟩:=x;exact Qk e
theorem Qbf.mapP{α β:Type}{F G:α->β->Prop}:∀{l₁:List α}{l₂:List β},Qbf F l₁ l₂->(∀a b,F a b->G a b)->Qbf G l₁ l₂
 |_,_,.nil,_=>.nil
 |_,_,.cons r t,f=>.cons (f _ _ r) (Qbf.mapP t f)
theorem ObjOk.stay(x:ObjOk P w H h a o)(k:∀b u,(b=a∨H b=some (.own a))->h.get? b=some u->h'.get? b=some u)
  (ho:∀b,H b=some (.own a)->H' b=some (.own a))(ht:∀b xs,H b=some (.tup xs)->H' b=some (.tup xs)):ObjOk P w H' h' a o:=by
 induction o with
 |lst xs=>obtain⟨z,its,n,r,e⟩:=x;exact⟨z,its,n,r,k _ _ (.inl rfl) e⟩
 |tup xs=>obtain⟨z,its,r,ob,e,c⟩:=x;exact⟨z,its,r,ob,k _ _ (.inl rfl) e,c⟩
 |dK kvs=>obtain⟨z,y,vs,r,ob,es,ep,e,c⟩:=x;exact⟨z,y,vs,r,ob,es,ep,k _ _ (.inl rfl) e,c⟩
 |dT kvs=>
  obtain⟨z,y,xs,r,ob,es,ep,e,c⟩:=x;exact⟨z,y,xs,Qbf.mapP r λp q z=>⟨z.1,ht _ _ z.2.1,z.2.2⟩,ob,es,ep,k _ _ (.inl rfl) e,c⟩
 |set S n=>obtain⟨ob,es,ep,t,e,c⟩:=x;exact⟨ob,es,ep,t,k _ _ (.inl rfl) e,c⟩
 |ins C dx fs=>
  obtain⟨d,z,ne,e,mA,⟨od,es,ep,e2,c⟩,r⟩:=x;exact⟨ho _ d,z,ne,k _ _ (.inl rfl) e,mA,⟨od,es,ep,k _ _ (.inr d) e2,c⟩,r⟩
 |own y=>obtain⟨ob,e⟩:=x;exact⟨ob,k _ _ (.inl rfl) e⟩
 |xd fs=>obtain⟨mA,⟨od,es,ep,e,c⟩,r⟩:=x;exact⟨mA,⟨od,es,ep,k _ _ (.inl rfl) e,c⟩,r⟩
 |rng lo hi=>obtain⟨t,u,v,e⟩:=x;exact⟨t,u,v,k _ _ (.inl rfl) e⟩
 |frz ob u ih=>obtain⟨e,q⟩:=x;exact⟨k _ _ (.inl rfl) e,ih q⟩
 |tbl ps=>
  have e:h.get? a=some { cls:=.none,data:=.fields ps }:=x;show h'.get? a=some { cls:=.none,data:=.fields ps };exact k a _ (.inl rfl) e
 |met f y=>
  have e:h.get? a=some (PySem.W.methodObj (.ref f) (.ref y)):=x;show h'.get? a=some (PySem.W.methodObj (.ref f) (.ref y));exact k a _ (.inl rfl) e
 |ext φ=>obtain⟨p,⟨o,e⟩,st⟩:=x;exact⟨st _ _ p λo q=>k _ _ (.inl rfl) q,⟨o,k _ _ (.inl rfl) e⟩,st⟩
theorem HOk.lt(x:HOk P w H h)(e:H a=some o):a<h.objs.size:=(x a o e).lt
theorem HOk.fresh(x:HOk P w H h)(e:h.objs.size<=a):H a=none:=by
 cases q:H a with
 |none=>rfl
 |some u=>exact absurd (QP (x.lt q) e) (YJ _)
theorem HOk.kept(x:HOk P w H h)(k:∀b u,h.get? b=some u->h'.get? b=some u):HOk P w H h':=λa o e=>
 (x a o e).stay (λb u _ q=>k b u q) (λ_ q=>q) λ_ _ q=>q
theorem HOk.laid(x:HOk P w H h)(k:∀b u,h.get? b=some u->h'.get? b=some u)(hp:h.objs.size<=a)(new:ObjOk P w (upd H a o) h' a o):HOk P w (upd H a o) h':=λb u e=>by
 have hn:=x.fresh hp;by_cases hb:b=a
 ·subst hb;rw[Jy] at e;cases e;exact new
 ·rw[JM hb] at e;exact(x b u e).stay (λc v _ q=>k c v q) (λc q=>by rw[JM (ZX q hn)];exact q) λc xs q=>by rw[JM (ZX q hn)];exact q
end
def Rd(H:Hp)(a:Addr)(u:HO):Prop:=H a=some u∨∃o,H a=some (.frz o u)
theorem Rd.ok{P:QF}{w:Jk}{H:Hp}{h:Heap}{a:Addr}{u:HO}(r:Rd H a u)(x:HOk P w H h):ObjOk P w H h a u:=by
 rcases r with r | ⟨o,r⟩
 ·exact x a u r
 ·obtain⟨_,q⟩:=x a _ r;exact q
def Mut:Option HO->Prop
 |some (.lst _)=>True
 |some (.dK _)=>True
 |some (.dT _)=>True
 |some (.set _ _)=>True
 |some (.ins _ _ _)=>True
 |some (.ext _)=>True
 |_=>False
section
variable{P:QF}{w:Jk}{H:Hp}{h h':Heap}{x e:Addr}{o':HO}
theorem HOk.write(ok:HOk P w H h)(mu:Mut (H x))(he:e=x∨H e=some (.own x))(k:∀b u,b≠e->h.get? b=some u->h'.get? b=some u)(heo:∃u,h'.get? e=some u)
  (new:ObjOk P w (upd H x o') h' x o'):HOk P w (upd H x o') h':=λb u q=>by
 have nown:∀c y,H c=some (.own y)->c≠x:=λc y r z=>by subst z;rw[r] at mu;exact mu
 have ntup:∀c xs,H c=some (.tup xs)->c≠x:=λc xs r z=>by subst z;rw[r] at mu;exact mu
 by_cases hb:b=x
 ·subst hb;rw[Jy] at q;cases q;exact new
 ·rw[JM hb] at q;by_cases hbe:b=e
  ·have q':H b=some (.own x):=by
    rcases he with z | z
    ·exact absurd (hbe.trans z) hb
    ·rw[hbe];exact z
   rw[q] at q';cases q';obtain⟨v,hv⟩:=heo;exact⟨v,by rw[hbe];exact hv⟩
  ·refine(ok b u q).stay (λc v hc r=>k c v ?_ r) (λc r=>by rw[JM (nown c b r)];exact r) λc xs r=>by rw[JM (ntup c xs r)];exact r
   rcases hc with rfl | hc
   ·exact hbe
   ·rintro rfl;rcases he with z | z
    ·exact nown c b hc z
    ·rw[hc] at z;cases z;exact hb rfl
end
structure Un (fs ex:List Addr) (H H':Hp) (h h':Heap):Prop where
 keep:∀b o,h.get? b=some o->H b=none->b∉fs->b∉ex->h'.get? b=some o
 slot:∀b o,h.get? b=some o->H b=none->b∈fs->b∉ex->∃sl,h'.get? b=some { o with slots:=sl }
 free:∀b o,h.get? b=some o->H b=none->b∉ex->H' b=none
 there:∀b o,h.get? b=some o->b∉ex->∃o',h'.get? b=some o'
 tups:∀b xs,H b=some (.tup xs)->H' b=some (.tup xs)
 frzs:∀b o u,H b=some (.frz o u)->H' b=some (.frz o u)
 tbls:∀b ps,H b=some (.tbl ps)->∃more,H' b=some (.tbl (ps++more))
section
variable{fs fs' ex ex':List Addr}{H H1 H2:Hp}{h h1 h2 h':Heap}{a x e:Addr}{o:HO}
theorem Un.any(u:Un fs ex H H1 h h1){b:Addr}{ob:Obj}(q:h.get? b=some ob)(n:H b=none)(hx:b∉ex):∃sl,h1.get? b=some { ob with slots:=sl }:=by
 by_cases hb:b∈fs
 ·exact u.slot b ob q n hb hx
 ·exact⟨ob.slots,u.keep b ob q n hb hx⟩
theorem Un.kept(k:∀b u,h.get? b=some u->h'.get? b=some u):Un fs ex H H h h':=
 ⟨λb ob q _ _ _=>k b ob q,λb ob q _ _ _=>⟨ob.slots,k b ob q⟩,λ_ _ _ n _=>n,λb ob q _=>⟨ob,k b ob q⟩,λ_ _ q=>q,λ_ _ _ q=>q,λ_ ps q=>⟨#[],by rw[q];simp⟩⟩
theorem Un.refl:Un fs ex H H h h:=Un.kept λ_ _ q=>q
theorem Un.laid(k:∀b u,h.get? b=some u->h'.get? b=some u)(hp:h.objs.size<=a)(hn:H a=none):Un fs ex H (upd H a o) h h' where
 keep:=λb u q _ _ _=>k b u q
 slot:=λb u q _ _ _=>⟨u.slots,k b u q⟩
 free:=λb u q n _=>by rw[JM (QD (QP (Qk q) hp))];exact n
 there:=λb u q _=>⟨u,k b u q⟩
 tups:=λb xs q=>by rw[JM (ZX q hn)];exact q
 frzs:=λb u xs q=>by rw[JM (ZX q hn)];exact q
 tbls:=λb ps q=>⟨#[],by rw[JM (ZX q hn),q];simp⟩
theorem Un.write(mu:Mut (H x))(he:e=x∨H e=some (.own x))(k:∀b u,b≠e->h.get? b=some u->h'.get? b=some u)(heo:∃u,h'.get? e=some u):Un fs ex H (upd H x o) h h':=by
 have hx:∀b,H b=none->b≠x:=λb n z=>by subst z;rw[n] at mu;exact mu
 have hb:∀b,H b=none->b≠e:=λb n z=>by
  subst z;rcases he with r | r
  ·exact hx b n r
  ·rw[n] at r;cases r
 have hm:∀b u,H b=some u->¬Mut (some u)->b≠x:=λb u q nm z=>by subst z;rw[q] at mu;exact nm mu
 refine⟨λb u q n _ _=>k b u (hb b n) q,λb u q n _ _=>⟨u.slots,k b u (hb b n) q⟩,λb u q n _=>by rw[JM (hx b n)];exact n,λb u q _=>?_,
  λb xs q=>by rw[JM (hm b _ q λz=>z)];exact q,λb u xs q=>by rw[JM (hm b _ q λz=>z)];exact q,λb ps q=>⟨#[],by rw[JM (hm b _ q λz=>z),q];simp⟩⟩
 by_cases hbe:b=e
 ·subst hbe;exact heo
 ·exact⟨u,k b u hbe q⟩
end
def trk(h:Heap)(H:Hp):List Addr:=(Qt h.objs.size).filter λa=>(H a).isSome
def Qp9(h:Heap)(H:Hp):Heap:=PySem.W.hideAll h (trk h H)
theorem Qm7(h:Heap)(H:Hp):(Qp9 h H).objs.size=h.objs.size:=PySem.W.hideAll_size _ _
theorem Qp8{h:Heap}{H:Hp}{b:Addr}{o:Obj}(e:h.get? b=some o)(n:H b=none):(Qp9 h H).get? b=some o:=
 PySem.W.hideAll_get _ e λhm=>by
  have q:(H b).isSome=true:=(Qj.mp hm).2;rw[n] at q;simp at q
theorem QuH{h:Heap}{H:Hp}{b:Addr}{o:Obj}(e:(Qp9 h H).get? b=some o):h.get? b=some o/\H b=none:=by
 have e':h.get? b=some o:=PySem.W.of_hideAll (trk h H) e;refine⟨e',?_⟩;cases q:H b with
 |none=>rfl
 |some x=>
  have hm:b∈trk h H:=Qj.mpr ⟨Q0.mpr (Qk e'),by simp[q]⟩;have z:(Qp9 h H).get? b=none:=PySem.W.hideAll_none (trk h H) hm;rw[z] at e;cases e
def Qvz(g h:Heap)(L:Addr):List (Addr×Obj):=(Qt h.objs.size).filterMap λa=>if a=L∨(g.get? a).isSome=true then none else(h.get? a).map λo=>(a,o)
def rest(g h:Heap)(L d:Addr):List (Addr×Obj):=(Qvz g h L).filter λp=>decide (p.1≠d)
structure Mod (K:PySem.W.Frag) (mg:Str->Option Value) (base:Heap):Prop where
 kin:K.In base
 glob:base.Ns mainGlobals mg
 blt:∃mb,base.Ns builtinsNs mb/\∀x:Str,x ≠ "__name__" -> mb x=bootBuiltins x
 nolimit:base.NoLimit
structure Cx where
 prog:QF
 w:Jk
 K:PySem.W.Frag
 mg:Str->Option Value
 base:Heap
 A:Q9
 N:List Str
 s₀:Shared
 H₀:Hp
 env:Env
 outer:List Env
 stack:List Env
 ex:List Addr
 fn:Str->Bool
 calm:Bool
 pn:List (Addr×Obj)
 xe:Value->Shared->Prop
def frs(l:List Env):List Addr:=l.filterMap (·.frame)
abbrev Cx.fs (X:Cx):List Addr:=frs X.outer
def Vis(sc:Y0)(x:Str):Prop:=sc.names.lookup x=some .local∨sc.names.lookup x=some .cell∨sc.names.lookup x=some .free
def Loc(sc:Y0)(x:Str):Prop:=sc.names.lookup x=some .local∨sc.names.lookup x=some .cell
def Look(env:Env)(h:Heap)(m:Str->Option Value)(x:Str)(u:Value):Prop:=
 (env.kindOf x=some .local/\m x=some u)∨((env.kindOf x=some .cell∨env.kindOf x=some .free)/\∃c,env.cells.lookup x=some c/\h.IsCell c (some u))
structure Cx.Ok (X:Cx):Prop where
 mod:Mod X.K X.mg X.base
 kind:X.env.scope.kind=.function
 glob:X.env.globals=mainGlobals
 blt:X.env.builtins=builtinsNs
 above:X.s₀.heap.objs.size<=X.env.locals
 inj:∀x y c,X.env.cells.lookup x=some c->X.env.cells.lookup y=some c->x=y
 has:∀x,(X.env.kindOf x=some .cell∨X.env.kindOf x=some .free)->∃c,X.env.cells.lookup x=some c
 cab:∀x c,X.fn x=true->X.env.cells.lookup x=some c->X.s₀.heap.objs.size<=c
 hd:X.calm=true->X.A.handled=none
 frames:X.A.frames=some X.stack
 stk:X.stack=X.outer∨(X.stack=X.env::X.outer/\X.env.frame=some X.env.locals)
 exf:∀b∈X.ex,b≠X.env.locals/\∀x c,X.env.cells.lookup x=some c->c≠b
 bs:∀b o,X.base.get? b=some o->X.s₀.heap.get? b=some o/\X.H₀ b=none
 bsz:X.base.objs.size<=X.s₀.heap.objs.size
 noex:∀b o,X.base.get? b=some o->b∉X.ex
 exfs:∀b∈X.ex,b∉X.fs
 funs:X.s₀.heap.FunFrames X.base X.outer
 frf:∀b∈X.fs,X.H₀ b=none
structure Inv (X:Cx) (pins:List (Addr×Obj)) (σ:List (Option V)) (H:Hp) (s:Shared):Prop where
 ok:X.Ok
 os:s.os=X.s₀.os
 bare:Qe4 s.gens
 base:Un X.fs X.ex X.H₀ H X.s₀.heap s.heap
 loc:∃m,s.heap.Ns X.env.locals m/\∀(i:Nat)(x:Str)(v:V),X.N[i]? = some x->σ[i]? = some (some v)->Vis X.env.scope x->∃u,RelV v u/\Look X.env s.heap m x u
 cell:∀x c,X.env.cells.lookup x=some c->∃v,s.heap.IsCell c v
 free:H X.env.locals=none
 freeC:∀x c,X.env.cells.lookup x=some c->H c=none
 pin:∀p∈X.pn++pins,s.heap.get? p.1=some p.2/\H p.1=none/\p.1≠X.env.locals/\p.1∉X.fs/\∀v,p.2.data≠.cell v
 hok:HOk X.prog X.w H s.heap
 len:σ.length=X.N.length
section
variable{X:Cx}{pins:List (Addr×Obj)}{σ:List (Option V)}{H H':Hp}{s:Shared}{h':Heap}
theorem Cx.Ok.nofr(ok:X.Ok){b:Addr}{o:Obj}(e:X.base.get? b=some o):b∉X.fs:=λhb=>by
 have:=(ok.funs.mem hb).1;rw[e] at this;cases this
theorem Inv.bs(I:Inv X pins σ H s):∀b o,X.base.get? b=some o->s.heap.get? b=some o/\H b=none:=λb o e=>
 ⟨I.base.keep b o (I.ok.bs b o e).1 (I.ok.bs b o e).2 (I.ok.nofr e) (I.ok.noex b o e),I.base.free b o (I.ok.bs b o e).1 (I.ok.bs b o e).2 (I.ok.noex b o e)⟩
theorem Inv.bk(I:Inv X pins σ H s):∀b o,X.base.get? b=some o->s.heap.get? b=some o:=λb o e=>(I.bs b o e).1
theorem Inv.mod(I:Inv X pins σ H s):Mod X.K X.mg X.base:=I.ok.mod
theorem Inv.kIn(I:Inv X pins σ H s):X.K.In s.heap:=I.ok.mod.kin.keeps I.bk
theorem Inv.fr(I:Inv X pins σ H s):∃m,Fr X.base X.env.locals s.heap m:=
 let ⟨m,hn,_⟩:=I.loc
 ⟨m,hn,I.bk,QU I.ok.bsz I.ok.above⟩
theorem Inv.lt(I:Inv X pins σ H s):X.env.locals<s.heap.objs.size:=let ⟨_,hn,_⟩:=I.loc;hn.lt
theorem Inv.sz(I:Inv X pins σ H s):X.s₀.heap.objs.size<=s.heap.objs.size:=QU I.ok.above (Zq I.lt)
theorem Inv.nofs(I:Inv X pins σ H s){a:Addr}(h:s.heap.objs.size<=a):a∉X.fs:=λhb=>by
 obtain⟨_,o,ho,_⟩:=I.ok.funs.mem hb;exact absurd (QP (Qk ho) (QU I.sz h)) (YJ _)
theorem Inv.cne(I:Inv X pins σ H s):∀x c,X.env.cells.lookup x=some c->c≠X.env.locals:=λx c e z=>by
 obtain⟨v,o,ho,hd⟩:=I.cell x c e;obtain⟨m,⟨o',es,ep,ho',hd',_⟩,_⟩:=I.loc;rw[z,ho'] at ho;cases ho;rw[hd'] at hd;cases hd
theorem Inv.funs(I:Inv X pins σ H s):s.heap.FunFrames X.base X.outer:=by
 have all:∀(l:List Env),(∀b∈frs l,b∈X.fs)->X.s₀.heap.FunFrames X.base l->s.heap.FunFrames X.base l:=by
  intro l;induction l with
  |nil=>intro _ _;trivial
  |cons env r ih=>
   intro hs hl;obtain⟨hk,⟨L,o,hf,hn,ho,hd⟩,hr⟩:=hl;have hL:L∈X.fs:=hs L (by unfold frs;rw[Qa5,hf];exact ZR);obtain⟨sl,e⟩:=I.base.slot L o ho (I.ok.frf L hL) hL λz=>I.ok.exfs L z hL
   exact⟨hk,⟨L,_,hf,hn,e,hd⟩,ih (λb hb=>hs b (by unfold frs;rw[Qa5,hf];exact J4 _ hb)) hr⟩
 exact all X.outer (λ_ hb=>hb) I.ok.funs
theorem Inv.stack(I:Inv X pins σ H s):s.heap.FunFrames X.base X.stack:=by
 rcases I.ok.stk with e | ⟨e,hf⟩
 ·rw[e];exact I.funs
 ·rw[e];obtain⟨m,hn,_⟩:=I.loc;refine .cons (by rw[I.ok.kind];decide) hf hn ?_ I.funs
  exact Heap.get?_none_of_le (QU I.ok.bsz I.ok.above)
theorem Inv.stkSub(I:Inv X pins σ H s):∀b∈frs X.stack,b∈X.env.locals::X.fs:=λb hb=>by
 rcases I.ok.stk with e | ⟨e,hf⟩
 ·rw[e] at hb;exact J4 _ hb
 ·rw[e] at hb;unfold frs at hb;rw[Qa5,hf] at hb;exact hb
theorem Inv.stkFree(I:Inv X pins σ H s):∀b∈frs X.stack,H b=none:=λb hb=>by
 rcases Qy.mp (I.stkSub b hb) with e | hb
 ·rw[e];exact I.free
 ·obtain⟨_,o,ho,_⟩:=I.ok.funs.mem hb;exact I.base.free b o ho (I.ok.frf b hb) λz=>I.ok.exfs b z hb
theorem Inv.step{g':Array GenState}{t':Nat}{d':Drawn}{ch:List Addr}(I:Inv X pins σ H s)
  (hch:∀b∈ch,(b∈X.ex∨X.s₀.heap.objs.size<=b)/\b≠X.env.locals/\(∀x c,X.env.cells.lookup x=some c->c≠b)/\∀p∈X.pn++pins,p.1≠b)
  (keep:∀b o,b≠X.env.locals->b∉X.fs->b∉ch->s.heap.get? b=some o->H b=none->h'.get? b=some o)
  (slot:∀b o,b≠X.env.locals->b∈X.fs->b∉ch->s.heap.get? b=some o->H b=none->∃sl,h'.get? b=some { o with slots:=sl })(free:∀b o,b∉ch->s.heap.get? b=some o->H b=none->H' b=none)
  (there:∀b o,b∉ch->s.heap.get? b=some o->∃o',h'.get? b=some o')
  (tups:∀b xs,H b=some (.tup xs)->H' b=some (.tup xs))(frzs:∀b o u,H b=some (.frz o u)->H' b=some (.frz o u))(tbls:∀b ps,H b=some (.tbl ps)->∃more,H' b=some (.tbl (ps++more)))
  (ns:∀m,s.heap.Ns X.env.locals m->h'.Ns X.env.locals m)(hok:HOk X.prog X.w H' h')(hg:Qe4 g') :
  Inv X pins σ H' { s with heap:=h',gens:=g',drawn:=d',toks:=t' }:=by
 have neL:∀b o,X.s₀.heap.get? b=some o->b≠X.env.locals:=λb o e=>QD (QP (Qk e) I.ok.above)
 have neC:∀b o,X.s₀.heap.get? b=some o->b∉X.ex->b∉ch:=λb o e hx hb=>by
  rcases(hch b hb).1 with z | z
  ·exact hx z
  ·exact absurd (QP (Qk e) z) (YJ _)
 have cellK:∀x c,X.env.cells.lookup x=some c->∀v,s.heap.IsCell c v->h'.IsCell c v:=λx c e v ⟨o,ho,hd⟩=>by
  have nch:c∉ch:=λz=>(hch c z).2.2.1 x c e rfl
  by_cases hc:c∈X.fs
  ·obtain⟨sl,q⟩:=slot c o (I.cne x c e) hc nch ho (I.freeC x c e);exact⟨_,q,hd⟩
  ·exact⟨o,keep c o (I.cne x c e) hc nch ho (I.freeC x c e),hd⟩
 refine⟨I.ok,I.os,hg,⟨λb o e n hb hx=>?_,λb o e n hb hx=>?_,λb o e n hx=>?_,λb o e hx=>?_,λb xs e=>tups b xs (I.base.tups b xs e),λb o xs e=>frzs b o xs (I.base.frzs b o xs e),λb ps e=>?_⟩,?_,λx c e=>?_,?_,λx c e=>?_,λp hp=>?_,hok,I.len⟩
 ·exact keep b o (neL b o e) hb (neC b o e hx) (I.base.keep b o e n hb hx) (I.base.free b o e n hx)
 ·obtain⟨sl,e1⟩:=I.base.slot b o e n hb hx;obtain⟨sl',e2⟩:=slot b _ (neL b o e) hb (neC b o e hx) e1 (I.base.free b o e n hx);exact⟨sl',e2⟩
 ·obtain⟨o',e1⟩:=I.base.there b o e hx;exact free b o' (neC b o e hx) e1 (I.base.free b o e n hx)
 ·obtain⟨o',e1⟩:=I.base.there b o e hx;exact there b o' (neC b o e hx) e1
 ·obtain⟨m1,e1⟩:=I.base.tbls b ps e;obtain⟨m2,e2⟩:=tbls b _ e1;exact⟨m1++m2,by rw[e2,Array.append_assoc]⟩
 ·obtain⟨m,hn,hl⟩:=I.loc;refine⟨m,ns m hn,λi x v e1 e2 e3=>?_⟩;obtain⟨u,r,l⟩:=hl i x v e1 e2 e3;refine⟨u,r,?_⟩;rcases l with l | ⟨k,c,e,z⟩
  ·exact .inl l
  ·exact .inr ⟨k,c,e,cellK x c e _ z⟩
 ·obtain⟨v,z⟩:=I.cell x c e;exact⟨v,cellK x c e v z⟩
 ·obtain⟨m,⟨o,_,_,ho,_⟩,_⟩:=I.loc;exact free _ o (λz=>(hch _ z).2.1 rfl) ho I.free
 ·obtain⟨v,o,ho,hd⟩:=I.cell x c e;exact free c o (λz=>(hch c z).2.2.1 x c e rfl) ho (I.freeC x c e)
 ·obtain⟨e,n,ne,nf,d⟩:=I.pin p hp;have nch:p.1∉ch:=λz=>(hch p.1 z).2.2.2 p hp rfl
  exact⟨keep p.1 p.2 ne nf nch e n,free p.1 p.2 nch e n,ne,nf,d⟩
theorem Inv.un{t':Nat}(I:Inv X pins σ H s)(u:Un X.fs [] H H' s.heap h')(hok:HOk X.prog X.w H' h'):Inv X pins σ H' { s with heap:=h',toks:=t' }:=by
 obtain⟨m,⟨o,es,ep,ho,r⟩,_⟩:=id I.loc;obtain⟨sl,hL⟩:=u.any ho I.free (by simp);exact I.step (g':=s.gens) (d':=s.drawn) (ch:=[]) (λ_ z=>nomatch z) (λb o _ hb _ e n=>u.keep b o e n hb (by simp)) (λb o _ hb _ e n=>u.slot b o e n hb (by simp)) (λb o _ e n=>u.free b o e n (by simp)) (λb o _ e=>u.there b o e (by simp)) u.tups u.frzs u.tbls (λm' hm=>by
  obtain⟨o',es',ep',ho',r'⟩:=hm;rw[ho] at ho';cases ho';exact⟨_,es',ep',hL,r'⟩) hok I.bare
theorem Inv.call{g':Array GenState}{t':Nat}{d':Drawn}{ch:List Addr}(I:Inv X pins σ H s)(u:Un (frs X.stack) ch H H' s.heap h')(hok:HOk X.prog X.w H' h')(hg:Qe4 g')
  (hch:∀b∈ch,(b∈X.ex∨X.s₀.heap.objs.size<=b)/\b≠X.env.locals/\(∀x c,X.env.cells.lookup x=some c->c≠b)/\∀p∈X.pn++pins,p.1≠b) :
  Inv X pins σ H' { s with heap:=h',gens:=g',drawn:=d',toks:=t' }:=by
 obtain⟨m,⟨o,es,ep,ho,r⟩,_⟩:=id I.loc;obtain⟨sl,hL⟩:=u.any ho I.free λz=>(hch _ z).2.1 rfl
 exact I.step (ch:=ch) hch (λb o hL hb hc e n=>u.keep b o e n (λz=>(Qy.mp (I.stkSub b z)).elim hL hb) hc) (λb o _ _ hc e n=>u.any e n hc) (λb o hc e n=>u.free b o e n hc) (λb o hc e=>u.there b o e hc) u.tups u.frzs u.tbls (λm' hm=>by
  obtain⟨o',es',ep',ho',r'⟩:=hm;rw[ho] at ho';cases ho';exact⟨_,es',ep',hL,r'⟩) hok hg
theorem Inv.turned{t':Nat}{it:Addr}(I:Inv X pins σ H s)(k:∀b o,b≠it->s.heap.get? b=some o->h'.get? b=some o)(hn:H it=none)(hL:it≠X.env.locals)
  (h1:it∈X.ex∨X.s₀.heap.objs.size<=it)(h2:∀x c,X.env.cells.lookup x=some c->c≠it)(h3:∀p∈X.pn++pins,p.1≠it):Inv X pins σ H { s with heap:=h',toks:=t' }:=by
 have nit:∀b u,H b=some u->b≠it:=λb u e z=>by rw[z,hn] at e;cases e
 refine I.step (g':=s.gens) (d':=s.drawn) (ch:=[it]) (λb hb=>?_) (λb o _ _ hc e _=>k b o (λz=>hc (by simp[z])) e) (λb o _ _ hc e _=>⟨o.slots,k b o (λz=>hc (by simp[z])) e⟩) (λ_ _ _ _ n=>n)
  (λb o hc e=>⟨o,k b o (λz=>hc (by simp[z])) e⟩) (λ_ _ e=>e) (λ_ _ _ e=>e) (λb ps e=>⟨#[],by rw[e];simp⟩) (λm hm=>?_) (λb u e=>?_) I.bare
 ·have e:b=it:=by simpa using hb
  subst e;exact⟨h1,hL,h2,h3⟩
 ·obtain⟨o,es,ep,ho,r⟩:=hm;exact⟨o,es,ep,k _ o (QaQ hL) ho,r⟩
 ·refine(I.hok b u e).stay (λc v hc q=>k c v ?_ q) (λ_ q=>q) λ_ _ q=>q
  rcases hc with z | z
  ·rw[z];exact nit b u e
  ·exact nit c _ z
theorem Inv.tok(I:Inv X pins σ H s)(t:Nat):Inv X pins σ H { s with toks:=t }:=I.un (h':=s.heap) (t':=t) Un.refl I.hok
theorem Inv.kept{t':Nat}(I:Inv X pins σ H s)(k:∀b u,s.heap.get? b=some u->h'.get? b=some u):Inv X pins σ H { s with heap:=h',toks:=t' }:=I.un (Un.kept k) (I.hok.kept k)
theorem Inv.laid{a:Addr}{o:HO}{t':Nat}(I:Inv X pins σ H s)(k:∀b u,s.heap.get? b=some u->h'.get? b=some u)(hp:s.heap.objs.size<=a)(new:ObjOk X.prog X.w (upd H a o) h' a o) :
  Inv X pins σ (upd H a o) { s with heap:=h',toks:=t' }:=I.un (Un.laid k hp (I.hok.fresh hp)) (I.hok.laid k hp new)
theorem Inv.write{x e:Addr}{o:HO}{t':Nat}(I:Inv X pins σ H s)(mu:Mut (H x))(he:e=x∨H e=some (.own x))(k:∀b u,b≠e->s.heap.get? b=some u->h'.get? b=some u)(heo:∃u,h'.get? e=some u)
  (new:ObjOk X.prog X.w (upd H x o) h' x o):Inv X pins σ (upd H x o) { s with heap:=h',toks:=t' }:=I.un (Un.write mu he k heo) (I.hok.write mu he k heo new)
theorem Inv.weak{σ':List (Option V)}(I:Inv X pins σ H s)(hl:σ'.length=σ.length)(w:∀(i:Nat) v,σ'[i]? = some (some v)->σ[i]? = some (some v)):Inv X pins σ' H s:=
 ⟨I.ok,I.os,I.bare,I.base,let ⟨m,hn,hl'⟩:=I.loc;⟨m,hn,λi x v e1 e2 e3=>hl' i x v e1 (w i v e2) e3⟩,I.cell,I.free,I.freeC,I.pin,I.hok,hl.trans I.len⟩
theorem Inv.pins_of{pins':List (Addr×Obj)}(I:Inv X pins σ H s)(h:∀p∈pins',s.heap.get? p.1=some p.2/\H p.1=none/\p.1≠X.env.locals/\p.1∉X.fs/\∀v,p.2.data≠.cell v):Inv X pins' σ H s:=
 ⟨I.ok,I.os,I.bare,I.base,I.loc,I.cell,I.free,I.freeC,λp hp=>(Jf.mp hp).elim (λz=>I.pin p (ZB _ z)) (h p),I.hok,I.len⟩
theorem Qjr{N:List Str}(hN:N.Nodup){i j:Nat}{x:Str}(a:N[i]? = some x)(b:N[j]? = some x):i=j:=by
 obtain⟨h1,e1⟩:=Jd.mp a;obtain⟨h2,e2⟩:=Jd.mp b;exact(QsV hN).mp (e1.trans e2.symm)
theorem Qg4{M:Model}{A:Q9}{E:Value->Shared->Prop}{i:Nat}{x:Str}{v:V}{u:Value}{Q:Unit->Shared->Prop}(I:Inv X pins σ H s)(hN:X.N.Nodup)(hi:X.N[i]? = some x)(hx:Loc X.env.scope x)(r:RelV v u)
  (h:∀s',Inv X pins (σ.set i (some v)) H s'->(∃a,QaC a s.heap s'.heap/\(a=X.env.locals∨X.env.cells.lookup x=some a))->Q () s')(hf:X.fn x=true∨X.env.scope.names.lookup x=some .local:=by first | exact .inl rfl | exact .inr rfl | assumption):wpAny M A (storeName X.env x u) Q E s:=by
 obtain⟨m,hn,hl⟩:=id I.loc;have hcls:(X.env.scope.kind == .class||(X.env.scope.kind == .module&&X.env.locals != X.env.globals))=false:=by rw[I.ok.kind];rfl
 have hiσ:i < σ.length:=by rw[I.len];exact(Jd.mp hi).1
 have cne:=I.cne;have tracked:∀{a:Addr}{h':Heap},(∃o,s.heap.get? a=some o/\H a=none)->QaC a s.heap h'->HOk X.prog X.w H h':=λ{a h'} ha hs b ob e=>by
  obtain⟨_,_,hfree⟩:=ha;refine(I.hok b ob e).stay (λc w' hc q=>(hs.2 c ?_).trans q) (λ_ q=>q) λ_ _ q=>q
  rintro rfl;rcases hc with rfl | hc
  ·rw[hfree] at e;cases e
  ·rw[hfree] at hc;cases hc
 rcases hx with hk | hk
 ·refine wpAny_storeName_local hk hn (λh' hn' hs=>?_) hcls;obtain⟨oL,_,_,hoL,_⟩:=id hn;refine h _ ⟨I.ok,I.os,I.bare,⟨λb o e n hb hx=>?_,λb o e n hb hx=>?_,I.base.free,λb o e hx=>?_,I.base.tups,I.base.frzs,I.base.tbls⟩,⟨_,hn',λj y v' e1 e2 e3=>?_⟩,λy c e=>?_,I.free,I.freeC,λp hp=>?_,tracked ⟨oL,hoL,I.free⟩ hs,by simpa using I.len⟩ ⟨_,hs,.inl rfl⟩
  ·exact(hs.2 b (QD (QP (Qk e) I.ok.above))).trans (I.base.keep b o e n hb hx)
  ·obtain⟨sl,e1⟩:=I.base.slot b o e n hb hx;exact⟨sl,(hs.2 b (QD (QP (Qk e) I.ok.above))).trans e1⟩
  ·obtain⟨o',e1⟩:=I.base.there b o e hx;exact⟨o',(hs.2 b (QD (QP (Qk e) I.ok.above))).trans e1⟩
  ·by_cases hj:j=i
   ·subst hj;rw[hi] at e1;cases e1;rw[Qce hiσ] at e2;cases e2;exact⟨u,r,.inl ⟨hk,by simp⟩⟩
   ·rw[QaP (QaQ hj)] at e2;obtain⟨u',r',q⟩:=hl j y v' e1 e2 e3;refine⟨u',r',?_⟩;rcases q with⟨k,e⟩ | ⟨k,c,e,z⟩
    ·refine .inl ⟨k,?_⟩;have:y≠x:=λe=>hj (Qjr hN e1 (e ▸ hi))
     simp[this,e]
    ·exact .inr ⟨k,c,e,z.sameBut hs (cne y c e)⟩
  ·obtain⟨w',z⟩:=I.cell y c e;exact⟨w',z.sameBut hs (cne y c e)⟩
  ·obtain⟨e,n,ne,nf,d⟩:=I.pin p hp;exact⟨(hs.2 p.1 ne).trans e,n,ne,nf,d⟩
 ·have hfn:X.fn x=true:=by
   rcases hf with z | z
   ·exact z
   ·rw[z] at hk;cases hk
  obtain⟨c,hc⟩:=I.ok.has x (.inl hk);obtain⟨w',z⟩:=I.cell x c hc;refine wpAny_storeName_cell I.ok.kind hk hc z (λh' hc' hs=>?_);obtain⟨oc,hoc,hocd⟩:=id z;refine h { s with heap:=h' } ⟨I.ok,I.os,I.bare,⟨λb o e n hb hx=>?_,λb o e n hb hx=>?_,I.base.free,λb o e hx=>?_,I.base.tups,I.base.frzs,I.base.tbls⟩,⟨m,hn.sameBut hs (QaQ (cne x c hc)),λj y v' e1 e2 e3=>?_⟩,λy c' e=>?_,I.free,I.freeC,λp hp=>?_,tracked ⟨oc,hoc,I.freeC x c hc⟩ hs,by simpa using I.len⟩ ⟨c,hs,.inr hc⟩
  ·exact(hs.2 b (QD (QP (Qk e) (I.ok.cab x c hfn hc)))).trans (I.base.keep b o e n hb hx)
  ·obtain⟨sl,e1⟩:=I.base.slot b o e n hb hx;exact⟨sl,(hs.2 b (QD (QP (Qk e) (I.ok.cab x c hfn hc)))).trans e1⟩
  ·obtain⟨o',e1⟩:=I.base.there b o e hx;exact⟨o',(hs.2 b (QD (QP (Qk e) (I.ok.cab x c hfn hc)))).trans e1⟩
  ·by_cases hj:j=i
   ·subst hj;rw[hi] at e1;cases e1;rw[Qce hiσ] at e2;cases e2;exact⟨u,r,.inr ⟨.inl hk,c,hc,hc'⟩⟩
   ·rw[QaP (QaQ hj)] at e2;obtain⟨u',r',q⟩:=hl j y v' e1 e2 e3;refine⟨u',r',?_⟩;rcases q with q | ⟨k,c',e,z'⟩
    ·exact .inl q
    ·refine .inr ⟨k,c',e,z'.sameBut hs ?_⟩;rintro rfl;exact hj (Qjr hN e1 (I.ok.inj _ _ _ e hc ▸ hi))
  ·by_cases hcc:c'=c
   ·subst hcc;exact⟨_,hc'⟩
   ·obtain⟨w2,z2⟩:=I.cell y c' e;exact⟨w2,z2.sameBut hs hcc⟩
  ·obtain⟨e,n,ne,nf,d⟩:=I.pin p hp;refine⟨(hs.2 p.1 ?_).trans e,n,ne,nf,d⟩;intro q;rw[q,hoc] at e;have q':oc=p.2:=QJ e;exact d w' (by rw[<- q'];exact hocd)
theorem QfW{M:Model}{A:Q9}{E:Value->Shared->Prop}{i:Nat}{x:Str}{v:V}{u:Value}{Q:Unit->Shared->Prop}(I:Inv X pins σ H s)(hN:X.N.Nodup)(hi:X.N[i]? = some x)(hx:Loc X.env.scope x)(r:RelV v u)
  (h:∀s',Inv X pins (σ.set i (some v)) H s'->Q () s')(hf:X.fn x=true∨X.env.scope.names.lookup x=some .local:=by first | exact .inl rfl | exact .inr rfl | assumption):wpAny M A (storeName X.env x u) Q E s:=
 Qg4 I hN hi hx r (λs' I' _=>h s' I') hf
theorem Inv.call'{s':Shared}{ch:List Addr}(I:Inv X pins σ H s)(ho:s'.os=s.os)(u:Un (frs X.stack) ch H H' s.heap s'.heap)(hok:HOk X.prog X.w H' s'.heap)(hg:Qe4 s'.gens)
  (hch:∀b∈ch,(b∈X.ex∨X.s₀.heap.objs.size<=b)/\b≠X.env.locals/\(∀x c,X.env.cells.lookup x=some c->c≠b)/\∀p∈X.pn++pins,p.1≠b):Inv X pins σ H' s':=by
 obtain⟨h',g',d',t',o'⟩:=s';have e:o'=s.os:=ho;subst e;exact I.call (g':=g') (t':=t') (d':=d') u hok hg hch
end
abbrev XK:=Value->Option Addr->Hp->Prop
abbrev St:=List (Option V)
abbrev VK:=V->Hp->Prop
abbrev TE:=St->Hp->VK->Prop
abbrev TT:=St->Hp->(Bool->Hp->Prop)->Prop
abbrev TA:=St->Hp->(List V->Hp->Prop)->Prop
structure Ends where
 nx:St->Hp->Prop
 rt:VK
 bk:St->Hp->Prop:=λ_ _=>False
 ct:St->Hp->Prop:=λ_ _=>False
abbrev TS:=Ends->St->Hp->Prop
def EP(X:Cx)(pins:List (Addr×Obj))(σ:St)(Q:VK)(u:Value)(s':Shared):Prop:=∃v H',Inv X pins σ H' s'/\RelV v u/\Q v H'
def TP(X:Cx)(pins:List (Addr×Obj))(σ:St)(Q:Bool->Hp->Prop)(b:Bool)(s':Shared):Prop:=∃H',Inv X pins σ H' s'/\Q b H'
def AP(X:Cx)(pins:List (Addr×Obj))(σ:St)(Q:List V->Hp->Prop)(us:List Value)(s':Shared):Prop:=∃vs H',Inv X pins σ H' s'/\Vals vs us/\Q vs H'
def SP(X:Cx)(pins:List (Addr×Obj))(D:Ends)(f:Flow)(s':Shared):Prop:=
 match f with
 |.next=>∃σ' H',Inv X pins σ' H' s'/\D.nx σ' H'
 |.brk=>∃σ' H',Inv X pins σ' H' s'/\D.bk σ' H'
 |.cont=>∃σ' H',Inv X pins σ' H' s'/\D.ct σ' H'
 |.ret u=>∃v σ' H',Inv X pins σ' H' s'/\RelV v u/\D.rt v H'
def PE(X:Cx)(e:QV)(t:TE):Prop:=
 ∀(pins:List (Addr×Obj))(s:Shared)(σ:St)(H:Hp)(Q:VK),Inv X pins σ H s->t σ H Q->wpAny (model X.prog X.w) X.A (eval e X.env) (EP X pins σ Q) X.xe s
def PT(X:Cx)(e:QV)(t:TT):Prop:=
 ∀(pins:List (Addr×Obj))(s:Shared)(σ:St)(H:Hp)(Q:Bool->Hp->Prop),Inv X pins σ H s->t σ H Q->wpAny (model X.prog X.w) X.A (isTrue e X.env (eval e X.env)) (TP X pins σ Q) X.xe s
def PW(X:Cx)(e:QV)(t:TT):Prop:=
 ∀(whole:Sem Value)(pins:List (Addr×Obj))(s:Shared)(σ:St)(H:Hp)(Q:Bool->Hp->Prop),Inv X pins σ H s->t σ H Q->wpAny (model X.prog X.w) X.A (isTrue e X.env whole) (TP X pins σ Q) X.xe s
theorem PW.pt{X:Cx}{e:QV}{t:TT}(h:PW X e t):PT X e t:=h _
def PA(X:Cx)(es:List QV)(t:TA):Prop:=
 ∀(pos:Pos)(pins:List (Addr×Obj))(s:Shared)(σ:St)(H:Hp)(Q:List V->Hp->Prop),Inv X pins σ H s->t σ H Q->wpAny (model X.prog X.w) X.A (spliced (backTo pos (starEach es X.env))) (AP X pins σ Q) X.xe s
def PS(X:Cx)(st:ZY)(t:TS):Prop:=
 ∀(pins:List (Addr×Obj))(s:Shared)(σ:St)(H:Hp)(D:Ends),Inv X pins σ H s->t D σ H->wpAny (model X.prog X.w) X.A (exec st X.env) (SP X pins D) X.xe s
def PSs(X:Cx)(st:List ZY)(t:TS):Prop:=
 ∀(pins:List (Addr×Obj))(s:Shared)(σ:St)(H:Hp)(D:Ends),Inv X pins σ H s->t D σ H->wpAny (model X.prog X.w) X.A (execs st X.env) (SP X pins D) X.xe s
theorem thn{α:Type}{t:Sem α}{Q Q':α->Shared->Prop}{M:Model}{A:Q9}{E:Value->Shared->Prop}{s:Shared}(h:wpAny M A t Q E s)(hQ:∀a s,Q a s->Q' a s):wpAny M A t Q' E s:=wpAny_mono h hQ λ_ _ x=>x
section
variable{X:Cx}
def QhZ(i:Nat):TE:=λσ H Q=>∃v,σ[i]? = some (some v)/\Q v H
def tC(v:V):TE:=λ_ H Q=>Q v H
theorem Qw2{i:Nat}{x:Str}{pos:Pos}(hN:X.N[i]? = some x)(hv:Vis X.env.scope x)(hd:(x == ("__debug__" : Str))=false:=by decide)(hcd:(x == ("__classdict__" : Str))=false:=by decide):PE X (.Name x pos) (QhZ i):=by
 intro pins s σ H Q I h;obtain⟨v,e,h⟩:=h;obtain⟨m,hn,hl⟩:=I.loc;obtain⟨u,r,l⟩:=hl i x v hN e hv;have fin:EP X pins σ Q u s:=⟨v,H,I,r,h⟩;rcases l with⟨hk,hm⟩ | ⟨hk,c,hc,hcell⟩
 ·exact Qy8 (QvB I.ok.kind hk hn hm fin) hd
 ·rcases hk with hk | hk
  ·exact Qy8 (QvQ I.ok.kind hk hc hcell fin) hd
  ·exact Qy8 (wpAny_loadName_free I.ok.kind hk hc hcell fin hcd) hd
theorem YC{i j pos}:PE X (.Constant (.int i) j pos) (tC (.int i)):=λ_ _ _ H _ I h=>wpAny_Constant_int ⟨.int i,H,I.tok _,⟨_,rfl⟩,h⟩
theorem Qz9{b j pos}:PE X (.Constant (.bool b) j pos) (tC (.bl b)):=λ_ _ _ H _ I h=>Constant_bool ⟨.bl b,H,I,rfl,h⟩
def Gl(X:Cx)(x:Str):Prop:=X.env.kindOf x=some .globalImplicit
theorem Qm2{E:Value->Shared->Prop}{pins:List (Addr×Obj)}{s:Shared}{σ:St}{H:Hp}{x:Str}{u:Value}{pos:Pos}{Q:Value->Shared->Prop}(I:Inv X pins σ H s)(hg:Gl X x)(hm:X.mg x=some u)(h:Q u s)
  (hd:(x == ("__debug__" : Str))=false:=by decide):wpAny (model X.prog X.w) X.A (eval (.Name x pos) X.env) Q E s:=
 QgR I.ok.kind hg (Calls.loadGlobal_global (by rw[I.ok.glob];exact I.mod.glob.keeps I.bk) hm h) hd
theorem QbJ{E:Value->Shared->Prop}{pins:List (Addr×Obj)}{s:Shared}{σ:St}{H:Hp}{x:Str}{u:Value}{pos:Pos}{Q:Value->Shared->Prop}(I:Inv X pins σ H s)(hg:Gl X x)(hm:X.mg x=none)(hv:bootBuiltins x=some u)(h:Q u s)
  (hn:x ≠ "__name__" := by decide)(hd:(x == ("__debug__" : Str))=false:=by decide):wpAny (model X.prog X.w) X.A (eval (.Name x pos) X.env) Q E s:=by
 obtain⟨mb,h1,h2⟩:=I.mod.blt;exact QgR I.ok.kind hg (Calls.loadGlobal_builtin (by rw[I.ok.glob];exact I.mod.glob.keeps I.bk) hm (by rw[I.ok.blt];exact h1.keeps I.bk) ((h2 x hn).trans hv) h) hd
theorem QtU{x:Str}{v:V}{u:Value}{pos:Pos}(hg:Gl X x)(hm:X.mg x=none)(hv:bootBuiltins x=some u)(r:RelV v u)(hn:x ≠ "__name__" := by decide)(hd:(x == ("__debug__" : Str))=false:=by decide):PE X (.Name x pos) (tC v):=
 λ_ _ _ H _ I h=>QbJ I hg hm hv ⟨v,H,I,r,h⟩ hn hd
variable{a b:QV}{ta tb:TE}{pos:Pos}
theorem RelV.none_iff{x:V}{v:Value}(r:RelV x v):(v == Jz)=decide (x=.non):=by
 cases x with
 |non=>cases r;rfl
 |bl _=>cases r;rfl
 |int _=>obtain⟨t,rfl⟩:=r;rfl
 |str _=>obtain⟨t,rfl⟩:=r;rfl
 |byt _=>obtain⟨t,rfl⟩:=r;rfl
 |flt _=>obtain⟨t,rfl⟩:=r;rfl
 |ref _=>cases r;rfl
 |ty _=>cases r;rfl
def tB(t:TE):TT:=λσ H Q=>t σ H λx H1=>∃c,x=.bl c/\Q c H1
theorem QwX{e:QV}{t:TE}(h:PE X e t)(he:∀whole,isTrue e X.env whole=(do let v <- whole;standAt e.pos;holding [v] (truthy v)):=by intro _;rfl):PT X e (tB t):=by
 intro pins s σ H Q I hw;refine isTrue_plain (thn (h pins s σ H _ I hw) λv s1 ⟨x,H1,I1,r1,q1⟩=>?_) (he _);obtain⟨d,rfl,q⟩:=q1;cases r1;exact Zp ⟨H1,I1,q⟩
variable{tA tB':TT}{rest:List QV}
def QBY(t u:TT):TT:=λσ H Q=>t σ H λc H1=>if c=true then u σ H1 Q else Q false H1
def tOr(t u:TT):TT:=λσ H Q=>t σ H λc H1=>if c=true then Q true H1 else u σ H1 Q
def QBV(t:TT):TT:=λσ H Q=>t σ H λc H1=>Q (!c) H1
theorem QtG(ha:PT X a tA):PW X (.BoolOp .And [a] pos) tA:=by
 intro wh pins s σ H Q I h;refine isTrue_and (thn (ha pins s σ H Q I h) λc s1 e=>?_);cases c with
 |true=>exact isTrue_and_nil e
 |false=>exact e
theorem QwV(ha:PT X a tA):PW X (.BoolOp .Or [a] pos) tA:=by
 intro wh pins s σ H Q I h;refine isTrue_or (thn (ha pins s σ H Q I h) λc s1 e=>?_);cases c with
 |false=>exact isTrue_or_nil e
 |true=>exact e
theorem QwW(ha:PT X a tA)(hb:PW X (.BoolOp .And (b::rest) pos) tB'):PW X (.BoolOp .And (a::b::rest) pos) (QBY tA tB'):=by
 intro wh pins s σ H Q I h;refine isTrue_and (thn (ha pins s σ H _ I h) λc s1 ⟨H1,I1,q1⟩=>?_);cases c with
 |true=>exact hb wh pins s1 σ H1 Q I1 q1
 |false=>exact⟨H1,I1,q1⟩
theorem Qz2(ha:PT X a tA)(hb:PW X (.BoolOp .Or (b::rest) pos) tB'):PW X (.BoolOp .Or (a::b::rest) pos) (tOr tA tB'):=by
 intro wh pins s σ H Q I h;refine isTrue_or (thn (ha pins s σ H _ I h) λc s1 ⟨H1,I1,q1⟩=>?_);cases c with
 |true=>exact⟨H1,I1,q1⟩
 |false=>exact hb wh pins s1 σ H1 Q I1 q1
theorem QwY(ha:PT X a tA):PT X (.UnaryOp .Not a pos) (QBV tA):=by
 intro pins s σ H Q I h;exact isTrue_not (ha pins s σ H (λc H1=>Q (!c) H1) I h)
def QzK(ta tb:TE):TE:=λσ H Q=>ta σ H λx H1=>∃c,x=.bl c/\if c=true then tb σ H1 Q else Q (.bl false) H1
def QBU(ta tb:TE):TE:=λσ H Q=>ta σ H λx H1=>∃c,x=.bl c/\if c=true then Q (.bl true) H1 else tb σ H1 Q
def QzG(ta:TE):TE:=λσ H Q=>ta σ H λx H1=>∃c,x=.bl c/\Q (.bl (!c)) H1
theorem Qw3{op}{t:TE}(h:PE X a t):PE X (.BoolOp op [a] pos) t:=λpins s σ H Q I hw=>BoolOp_one (h pins s σ H Q I hw)
theorem Qw5(ha:PE X a ta)(hb:PE X (.BoolOp .And (b::rest) pos) tb):PE X (.BoolOp .And (a::b::rest) pos) (QzK ta tb):=by
 intro pins s σ H Q I h;refine BoolOp_and (thn (ha pins s σ H _ I h) λv s1 ⟨x,H1,I1,r1,q1⟩=>?_);obtain⟨c,rfl,q1⟩:=q1;cases r1;refine Zp ?_
 cases c with
 |true=>exact hb pins s1 σ H1 Q I1 q1
 |false=>exact⟨.bl false,H1,I1,rfl,q1⟩
theorem Qz8(ha:PE X a ta)(hb:PE X (.BoolOp .Or (b::rest) pos) tb):PE X (.BoolOp .Or (a::b::rest) pos) (QBU ta tb):=by
 intro pins s σ H Q I h;refine BoolOp_or (thn (ha pins s σ H _ I h) λv s1 ⟨x,H1,I1,r1,q1⟩=>?_);obtain⟨c,rfl,q1⟩:=q1;cases r1;refine Zp ?_
 cases c with
 |false=>exact hb pins s1 σ H1 Q I1 q1
 |true=>exact⟨.bl true,H1,I1,rfl,q1⟩
theorem Qw4(ha:PE X a ta):PE X (.UnaryOp .Not a pos) (QzG ta):=by
 intro pins s σ H Q I h;refine UnaryOp_ (thn (ha pins s σ H _ I h) λv s1 ⟨x,H1,I1,r1,q1⟩=>?_);obtain⟨c,rfl,q1⟩:=q1;cases r1;exact not_of (Zp ⟨.bl (!c),H1,I1,rfl,q1⟩)
def tIf(t:TT)(ta tb:TE):TE:=λσ H Q=>t σ H λc H1=>if c=true then ta σ H1 Q else tb σ H1 Q
theorem Qpb{c:QV}(hc:PT X c tA)(ha:PE X a ta)(hb:PE X b tb):PE X (.IfExp c a b pos) (tIf tA ta tb):=by
 intro pins s σ H Q I h;refine wpAny_IfExp (thn (hc pins s σ H _ I h) λd s1 ⟨H1,I1,q1⟩=>?_);cases d with
 |true=>exact ha pins s1 σ H1 Q I1 q1
 |false=>exact hb pins s1 σ H1 Q I1 q1
end
def SqL(K:PySem.W.Frag)(H:Hp)(a:Addr)(xs:List V):Prop:=
 Rd H a (.lst xs) ∨
  ∃(o:Obj)(its:Array Value)(n:Nat),K.lookup a=some o/\o.cls=.type "list" /\ o.dict=none/\o.data=.seq its n/\its.size<=sizeLine/\Vals xs its.toList
def SqT(K:PySem.W.Frag)(H:Hp)(a:Addr)(xs:List V):Prop:=
 Rd H a (.tup xs) ∨
  ∃(o:Obj)(its:Array Value)(n:Nat),K.lookup a=some o/\o.cls=.type "tuple" /\ o.data=.seq its n/\its.size<=sizeLine/\Vals xs its.toList
def QCi:Value->Option V
 |.none=>some .non
 |.bool b=>some (.bl b)
 |.int i _=>some (.int i)
 |.str x _=>some (.str x)
 |.bytes b _=>some (.byt b)
 |.float b _=>some (.flt b)
 |.ref a=>some (.ref a)
 |.type n=>some (.ty n)
 |_=>none
theorem RelV.abs{x:V}{u:Value}(r:RelV x u):QCi u=some x:=by
 cases x with
 |non=>cases r;rfl
 |bl _=>cases r;rfl
 |int _=>obtain⟨t,rfl⟩:=r;rfl
 |str _=>obtain⟨t,rfl⟩:=r;rfl
 |byt _=>obtain⟨t,rfl⟩:=r;rfl
 |flt _=>obtain⟨t,rfl⟩:=r;rfl
 |ref _=>cases r;rfl
 |ty _=>cases r;rfl
theorem RelV.inj{x y:V}{u:Value}(r:RelV x u)(q:RelV y u):x=y:=QJ (r.abs.symm.trans q.abs)
theorem Vals.inj:∀{xs ys:List V}{us:List Value},Vals xs us->Vals ys us->xs=ys
 |_,_,_,.nil,.nil=>rfl
 |_,_,_,.cons r t,.cons r' t'=>by rw[r.inj r',Vals.inj t t']
section
variable{X:Cx}{pins:List (Addr×Obj)}{σ:St}{H:Hp}{s:Shared}{a:Addr}{xs ys:List V}
theorem SqL.of{K:PySem.W.Frag}(h:H a=some (.lst xs)):SqL K H a xs:=.inl (.inl h)
theorem SqT.of{K:PySem.W.Frag}(h:H a=some (.tup xs)):SqT K H a xs:=.inl (.inl h)
theorem Inv.list(I:Inv X pins σ H s)(h:SqL X.K H a xs):∃its:List Value,Vals xs its/\PlainL s.heap a its.toArray/\xs.length<=sizeLine:=by
 rcases h with h | ⟨o,its,n,hk,hc,hd,hs,hz,r⟩
 ·obtain⟨z,its,n,r,e⟩:=h.ok I.hok;exact⟨its,r,⟨_,n,e,rfl,rfl,rfl⟩,z⟩
 ·refine⟨its.toList,r,⟨o,n,I.kIn a o hk,hc,hd,by simpa using hs⟩,?_⟩;have e:=r.length;simp only[Q4] at e;omega
theorem Inv.tuple(I:Inv X pins σ H s)(h:SqT X.K H a xs):∃its:List Value,Vals xs its/\IsTup s.heap a its.toArray/\xs.length<=sizeLine:=by
 rcases h with h | ⟨o,its,n,hk,hc,hs,hz,r⟩
 ·obtain⟨z,its,r,p⟩:=h.ok I.hok;exact⟨its,r,p.tup,z⟩
 ·refine⟨its.toList,r,⟨o,I.kIn a o hk,hc,n,by simpa using hs⟩,?_⟩;have e:=r.length;simp only[Q4] at e;omega
theorem Inv.list_inj(I:Inv X pins σ H s)(h:SqL X.K H a xs)(h':SqL X.K H a ys):xs=ys:=by
 obtain⟨its,r,⟨o,n,e,_,_,d⟩,_⟩:=I.list h;obtain⟨its',r',⟨o',n',e',_,_,d'⟩,_⟩:=I.list h';rw[e] at e';cases e';rw[d] at d';injection d' with d1 _
 have:its=its':=by simpa using congrArg Qj8 d1
 subst this;exact r.inj r'
theorem Inv.tuple_inj(I:Inv X pins σ H s)(h:SqT X.K H a xs)(h':SqT X.K H a ys):xs=ys:=by
 obtain⟨its,r,⟨o,e,_,n,d⟩,_⟩:=I.tuple h;obtain⟨its',r',⟨o',e',_,n',d'⟩,_⟩:=I.tuple h';rw[e] at e';cases e';rw[d] at d';injection d' with d1 _
 have:its=its':=by simpa using congrArg Qj8 d1
 subst this;exact r.inj r'
end
abbrev Cx.wish (X:Cx) (E:Value->Shared->Prop):Cx:={ X with xe:=E }
abbrev Cx.nox (X:Cx):Cx:=X.wish λ_ _=>False
theorem Cx.Ok.wish{X:Cx}(ok:X.Ok)(E:Value->Shared->Prop):(X.wish E).Ok:=
 ⟨ok.mod,ok.kind,ok.glob,ok.blt,ok.above,ok.inj,ok.has,ok.cab,ok.hd,ok.frames,ok.stk,ok.exf,ok.bs,ok.bsz,ok.noex,ok.exfs,ok.funs,ok.frf⟩
theorem Cx.Ok.unwish{X:Cx}{E:Value->Shared->Prop}(ok:(X.wish E).Ok):X.Ok:=
 ⟨ok.mod,ok.kind,ok.glob,ok.blt,ok.above,ok.inj,ok.has,ok.cab,ok.hd,ok.frames,ok.stk,ok.exf,ok.bs,ok.bsz,ok.noex,ok.exfs,ok.funs,ok.frf⟩
section
variable{X:Cx}{pins:List (Addr×Obj)}{σ:St}{H:Hp}{s:Shared}{E:Value->Shared->Prop}
theorem Inv.wish(I:Inv X pins σ H s)(E:Value->Shared->Prop):Inv (X.wish E) pins σ H s:=⟨I.ok.wish E,I.os,I.bare,I.base,I.loc,I.cell,I.free,I.freeC,I.pin,I.hok,I.len⟩
theorem Inv.unwish(I:Inv (X.wish E) pins σ H s):Inv X pins σ H s:=⟨I.ok.unwish,I.os,I.bare,I.base,I.loc,I.cell,I.free,I.freeC,I.pin,I.hok,I.len⟩
theorem SP.unwish{D:Ends}{f:Flow}{s':Shared}(h:SP (X.wish E) pins D f s'):SP X pins D f s':=by
 cases f with
 |next=>obtain⟨σ',H',I,q⟩:=h;exact⟨σ',H',I.unwish,q⟩
 |brk=>obtain⟨σ',H',I,q⟩:=h;exact⟨σ',H',I.unwish,q⟩
 |cont=>obtain⟨σ',H',I,q⟩:=h;exact⟨σ',H',I.unwish,q⟩
 |ret u=>obtain⟨v,σ',H',I,r,q⟩:=h;exact⟨v,σ',H',I.unwish,r,q⟩
theorem PE.nox{e:QV}{t:TE}(h:PE X.nox e t):PE X e t:=λpins s σ H Q I hw=>
 wpAny_mono (h pins s σ H Q (I.wish _) hw) (λ_ _ ⟨v,H',I',r,q⟩=>⟨v,H',I'.unwish,r,q⟩) λ_ _ z=>Zr z
theorem PT.nox{e:QV}{t:TT}(h:PT X.nox e t):PT X e t:=λpins s σ H Q I hw=>
 wpAny_mono (h pins s σ H Q (I.wish _) hw) (λ_ _ ⟨H',I',q⟩=>⟨H',I'.unwish,q⟩) λ_ _ z=>Zr z
theorem PSs.nox{st:List ZY}{t:TS}(h:PSs X.nox st t):PSs X st t:=λpins s σ H D I hw=>
 wpAny_mono (h pins s σ H D (I.wish _) hw) (λ_ _ q=>q.unwish) λ_ _ z=>Zr z
end
section
variable{X:Cx}{st:ZY}{rest:List ZY}{t u:TS}{e:QV}{te:TE}{pos:Pos}
def QzH:TS:=λD σ H=>D.nx σ H
def QBS(t u:TS):TS:=λD σ H=>t { D with nx:=u D } σ H
theorem Qik:PSs X [] QzH:=λ_ _ σ H _ I h=>QdR ⟨σ,H,I,h⟩
theorem Qai(h1:PS X st t)(h2:PSs X rest u):PSs X (st::rest) (QBS t u):=by
 intro pins s σ H D I h;refine wpAny_execs_cons (thn (h1 pins s σ H { D with nx:=u D } I h) λf s1 q=>?_);cases f with
 |next=>
  obtain⟨σ',H',I',q⟩:=q;exact h2 pins s1 σ' H' D I' q
 |ret v=>exact q
 |brk=>exact q
 |cont=>exact q
theorem QbF(h1:PS X st t):PSs X [st] t:=by
 intro pins s σ H D I h;refine wpAny_execs_cons (thn (h1 pins s σ H D I h) λf s1 q=>?_);cases f with
 |next=>exact QdR q
 |ret v=>exact q
 |brk=>exact q
 |cont=>exact q
theorem Inv.quiet{pins:List (Addr×Obj)}{σ:St}{H:Hp}{s:Shared}(I:Inv X pins σ H s):interactive X.env=false:=by simp[interactive,I.ok.kind]
def QlB(te:TE):TS:=λD σ H=>te σ H λ_ H1=>D.nx σ H1
theorem Qgd(he:PE X e te)(hs:swapsWith e none pos.line X.env=pure false:=by rfl):PS X (.Expr e pos) (QlB te):=by
 intro pins s σ H D I h;exact wpAny_Expr_any (thn (he pins s σ H _ I h) λv s1 ⟨x,H1,I1,r1,q1⟩=>⟨σ,H1,I1,q1⟩) I.quiet hs
def QBT(te:TE):TS:=λD σ H=>te σ H D.rt
theorem QcY(he:PE X e te):PS X (.Return (some e) pos) (QBT te):=by
 intro pins s σ H D I h;exact wpAny_Return_some (thn (he pins s σ H _ I h) λv s1 ⟨x,H1,I1,r1,q1⟩=>⟨x,σ,H1,I1,r1,q1⟩)
def QBX(c:TT)(t u:TS):TS:=λD σ H=>c σ H λb H1=>if b=true then t D σ H1 else u D σ H1
theorem QtI{c:QV}{a b:List ZY}{tc:TT}(hc:PT X c tc)(ha:PSs X a t)(hb:PSs X b u):PS X (.If c a b pos) (QBX tc t u):=by
 intro pins s σ H D I h;refine wpAny_If (thn (hc pins s σ H _ I h) λd s1 ⟨H1,I1,q1⟩=>?_);cases d with
 |true=>exact ha pins s1 σ H1 D I1 q1
 |false=>exact hb pins s1 σ H1 D I1 q1
end
abbrev TG:=V->St->Hp->(St->Hp->Prop)->Prop
abbrev TGs:=List V->St->Hp->(St->Hp->Prop)->Prop
def PG(X:Cx)(target:QV)(t:TG):Prop:=
 ∀(pins:List (Addr×Obj))(s:Shared)(σ:St)(H:Hp)(v:V)(u:Value)(Q:St->Hp->Prop),Inv X pins σ H s->RelV v u->t v σ H Q ->
  wpAny (model X.prog X.w) X.A (assign target X.env u) (λ_ s'=>∃σ' H',Inv X pins σ' H' s'/\Q σ' H') X.xe s
def PGs(X:Cx)(ts:List QV)(t:TGs):Prop:=
 ∀(pins:List (Addr×Obj))(s:Shared)(σ:St)(H:Hp)(vs:List V)(us:List Value)(Q:St->Hp->Prop),Inv X pins σ H s->Vals vs us->t vs σ H Q ->
  wpAny (model X.prog X.w) X.A (assignInOrder ((assignEach ts X.env).map (·.2)) us) (λ_ s'=>∃σ' H',Inv X pins σ' H' s'/\Q σ' H') X.xe s
abbrev TSet:=V->V->V->Hp->(Hp->Prop)->Prop
def QA1(X:Cx)(t:TSet):Prop:=
 ∀(pins:List (Addr×Obj))(s:Shared)(σ:St)(H:Hp)(o i v:V)(ov iv u:Value)(Q:Hp->Prop),Inv X pins σ H s->RelV o ov->RelV i iv->RelV v u->t o i v H Q ->
  wpAny (model X.prog X.w) X.A (setItem ov iv u) (λ_ s'=>∃H',Inv X pins σ H' s'/\Q H') X.xe s
abbrev TIp:=V->V->Hp->VK->Prop
def PIp(X:Cx)(op:QcP)(t:TIp):Prop:=
 ∀(pins:List (Addr×Obj))(s:Shared)(σ:St)(H:Hp)(x y:V)(v u:Value)(Q:VK),Inv X pins σ H s->RelV x v->RelV y u->t x y H Q ->
  wpAny (model X.prog X.w) X.A (inplaceOp op v u) (EP X pins σ Q) X.xe s
section
variable{X:Cx}{pos:Pos}
def QdY(i:Nat):TG:=λv σ H Q=>Q (σ.set i (some v)) H
theorem Qex{i:Nat}{x:Str}(hN:X.N.Nodup)(hi:X.N[i]? = some x)(hx:Loc X.env.scope x)(hf:X.fn x=true∨X.env.scope.names.lookup x=some .local:=by first | exact .inl rfl | exact .inr rfl | assumption):PG X (.Name x pos) (QdY i):=by
 intro pins s σ H v u Q I r h;exact Qy7 (QfW I hN hi hx r (λs' I'=>⟨_,H,I',h⟩) hf)
def QAJ:TGs:=λvs σ H Q=>vs=[]/\Q σ H
def Qrd(t:TG)(u:TGs):TGs:=λvs σ H Q=>∃v r,vs=v::r/\t v σ H λσ' H'=>u r σ' H' Q
theorem Qmj:PGs X [] QAJ:=by
 intro pins s σ H vs us Q I r h;obtain⟨e,h⟩:=h;subst e;cases r;exact assignInOrder_nil ⟨σ,H,I,h⟩
theorem Qgf{e:QV}{es:List QV}{t:TG}{u:TGs}(h1:PG X e t)(h2:PGs X es u)
  (hs:(assignEach (e::es) X.env).map (·.2)=assign e X.env::(assignEach es X.env).map (·.2):=by rfl):PGs X (e::es) (Qrd t u):=by
 intro pins s σ H vs us Q I r h;obtain⟨v,vr,e1,h⟩:=h;subst e1;cases r with
 |cons r rr=>
  rw[hs];refine assignInOrder_cons (thn (h1 pins s σ H _ _ _ I r h) λ_ s1 ⟨σ1,H1,I1,q1⟩=>?_);exact h2 pins s1 σ1 H1 _ _ Q I1 rr q1
def QAI(K:PySem.W.Frag)(n:Nat)(t:TGs):TG:=λv σ H Q=>∃a xs,v=.ref a/\SqT K H a xs/\xs.length=n/\t xs σ H Q
theorem Qr9{es:List QV}{k:Nat}{t:TGs}{n:Nat}(hc:X.calm=true)(h:PGs X es t)
  (hn:(assignEach es X.env).length=n:=by rfl)(hst:(assignEach es X.env).findIdx? (·.1)=none:=by rfl):PG X (.Tuple es k pos) (QAI X.K n t):=by
 intro pins s σ H v u Q I r hw;obtain⟨a,xs,e1,hq,hl,hw⟩:=hw;subst e1;cases r;obtain⟨its,rv,ht,hz⟩:=I.tuple hq;refine assign_Tuple_tuple (I.ok.hd hc) ht (by simp[hn,<- hl,rv.length]) hst λh' hx=>?_
 have I1:Inv X pins σ H { s with heap:=h' }:=I.kept (t':=s.toks) λb o e=>hx b o (QD (Qk e)) e
 exact h pins _ σ H xs _ Q I1 (by simpa using rv) hw
def gSub(to ti:TE)(t:TSet):TG:=λv σ H Q=>to σ H λo H1=>ti σ H1 λi H2=>t o i v H2 λH3=>Q σ H3
theorem Qw1{o i:QV}{to ti:TE}{t:TSet}(ho:PE X o to)(hi:PE X i ti)(hs:QA1 X t)
  (ha:∀v,assign (.Subscript o i pos) X.env v=(do
   let ov <- holding [v] (eval o X.env)
   let iv <- holding [v,ov] (eval i X.env)
   standAt pos
   holding [v,ov,iv] (setItem ov iv v)
   release [v,ov,iv] []):=by intro _;rfl):PG X (.Subscript o i pos) (gSub to ti t):=by
 intro pins s σ H v u Q I r h;rw[ha];refine wpAny_bind (JT (thn (ho pins s σ H _ I h) λov s1 ⟨x,H1,I1,r1,q1⟩=>?_));refine wpAny_bind (JT (thn (hi pins s1 σ H1 _ I1 q1) λiv s2 ⟨y,H2,I2,r2,q2⟩=>?_));refine wpAny_bind (wpAny_standAt (wpAny_bind (JT (thn (hs pins s2 σ H2 x y v ov iv u _ I2 r1 r2 r q2) λ_ s3 ⟨H3,I3,q3⟩=>?_))));exact wpAny_release ⟨σ,H3,I3,q3⟩
def QoH(te:TE)(g:TG):TS:=λD σ H=>te σ H λx H1=>g x σ H1 D.nx
theorem Qr6{tg e:QV}{te:TE}{g:TG}(he:PE X e te)(hg:PG X tg g)(hs:swapsWithSole [tg] e pos.line X.env=pure false:=by rfl)(hw:swappedStores [tg] e X.env=pure none:=by rfl)
  (h1:(assignEach [tg] X.env).map (·.2)=[assign tg X.env]:=by rfl):PS X (.Assign [tg] e pos) (QoH te g):=by
 intro pins s σ H D I h;refine wpAny_Assign_stores (thn (he pins s σ H _ I h) λv s1 ⟨x,H1,I1,r1,q1⟩=>?_) hs hw;rw[h1];exact thn (hg pins s1 σ H1 x v _ I1 r1 q1) λ_ s2 q=>q
theorem QdL{i:Nat}{x:Str}{e:QV}{te:TE}{pos':Pos}(hN:X.N.Nodup)(hi:X.N[i]? = some x)(hx:Loc X.env.scope x)(he:PE X e te)(hs:swapsWith e (some (.Name x pos')) pos.line X.env=pure false:=by rfl)(hf:X.fn x=true∨X.env.scope.names.lookup x=some .local:=by first | exact .inl rfl | exact .inr rfl | assumption) :
  PS X (.Assign [.Name x pos'] e pos) (QoH te (QdY i)):=by
 intro pins s σ H D I h;refine wpAny_Assign_Name (thn (he pins s σ H _ I h) λv s1 ⟨y,H1,I1,r1,q1⟩=>?_) hs;exact QfW I1 hN hi hx r1 (λs2 I2=>⟨_,H1,I2,q1⟩) hf
def QA6(i:Nat)(te:TE)(ti:TIp):TS:=λD σ H=>∃x,σ[i]? = some (some x)/\te σ H λy H1=>ti x y H1 λz H2=>D.nx (σ.set i (some z)) H2
theorem QwZ{i:Nat}{x:Str}{e:QV}{te:TE}{op:QcP}{ti:TIp}{pos':Pos}(hN:X.N.Nodup)(hi:X.N[i]? = some x)(hx:Loc X.env.scope x)(he:PE X e te)(ho:PIp X op ti)(hf:X.fn x=true∨X.env.scope.names.lookup x=some .local:=by first | exact .inl rfl | exact .inr rfl | assumption) :
  PS X (.AugAssign (.Name x pos') op e pos) (QA6 i te ti):=by
 intro pins s σ H D I h;obtain⟨v,e1,h⟩:=h;obtain⟨m,hn,hl⟩:=I.loc;have vis:Vis X.env.scope x:=by rcases hx with k | k;exact .inl k;exact .inr (.inl k)
 obtain⟨u,r,l⟩:=hl i x v hi e1 vis;refine wpAny_AugAssign_Name ?_
 have go:wpAny (model X.prog X.w) X.A (eval e X.env) (λw s₂=>wpAny (model X.prog X.w) X.A (inplaceOp op u w) (λr s₃=>wpAny (model X.prog X.w) X.A (storeName X.env x r) (λ_=>SP X pins D .next) X.xe s₃) X.xe s₂) X.xe s:=by
  refine thn (he pins s σ H _ I h) λw s1 ⟨y,H1,I1,r1,q1⟩=>?_
  refine thn (ho pins s1 σ H1 v y u w _ I1 r r1 q1) λz s2 ⟨zv,H2,I2,r2,q2⟩=>?_
  exact QfW I2 hN hi hx r2 (λs3 I3=>⟨_,H2,I3,q2⟩) hf
 rcases l with⟨hk,hm⟩ | ⟨hk,c,hc,hcell⟩
 ·exact QvB I.ok.kind hk hn hm go
 ·rcases hk with hk | hk
  ·exact QvQ I.ok.kind hk hc hcell go
  ·rcases hx with k | k
   ·have:X.env.scope.names.lookup x=some .free:=hk;rw[k] at this;cases this
   ·have:X.env.scope.names.lookup x=some .free:=hk;rw[k] at this;cases this
def Qwp(to ti te:TE)(tget:V->V->Hp->VK->Prop)(tip:TIp)(tset:TSet):TS:=λD σ H=>to σ H λo H1=>ti σ H1 λi H2=>tget o i H2 λx H3=>te σ H3 λy H4=>tip x y H4 λz H5=>tset o i z H5 λH6=>D.nx σ H6
def QBM(X:Cx)(t:V->V->Hp->VK->Prop):Prop:=
 ∀(pins:List (Addr×Obj))(s:Shared)(σ:St)(H:Hp)(o i:V)(ov iv:Value)(Q:VK),Inv X pins σ H s->RelV o ov->RelV i iv->t o i H Q ->
  wpAny (model X.prog X.w) X.A (getItem ov iv) (EP X pins σ Q) X.xe s
theorem QtJ{o i e:QV}{to ti te:TE}{tget:V->V->Hp->VK->Prop}{tip:TIp}{tset:TSet}{op:QcP}{tpos:Pos}(ho:PE X o to)(hi:PE X i ti)(hg:QBM X tget)(he:PE X e te)(hp:PIp X op tip)(hs:QA1 X tset)
  (ha:∀ov iv new,augStore i ov iv new=(do holding [new,ov,iv] (setItem ov iv new);release [new,ov,iv] [];pure .next):=by intros;rfl):PS X (.AugAssign (.Subscript o i tpos) op e pos) (Qwp to ti te tget tip tset):=by
 intro pins s σ H D I h;refine wpAny_AugAssign_SubscriptAny (thn (ho pins s σ H _ I h) λov s1 ⟨x1,H1,I1,r1,q1⟩=>?_) ha;refine thn (hi pins s1 σ H1 _ I1 q1) λiv s2 ⟨x2,H2,I2,r2,q2⟩=>?_
 refine thn (hg pins s2 σ H2 x1 x2 ov iv _ I2 r1 r2 q2) λold s3 ⟨x3,H3,I3,r3,q3⟩=>?_
 refine thn (he pins s3 σ H3 _ I3 q3) λv s4 ⟨x4,H4,I4,r4,q4⟩=>?_
 refine thn (hp pins s4 σ H4 x3 x4 old v _ I4 r3 r4 q4) λnew s5 ⟨x5,H5,I5,r5,q5⟩=>?_
 exact thn (hs pins s5 σ H5 x1 x2 x5 ov iv new _ I5 r1 r2 r5 q5) λ_ s6 ⟨H6,I6,q6⟩=>⟨σ,H6,I6,q6⟩
def ipI(f:Int->Int->Int):TIp:=λx y H Q=>∃i j,x=.int i/\y=.int j/\Q (.int (f i j)) H
theorem Qso:PIp X .Add (ipI λi j=>i+j):=by
 intro pins s σ H x y v u Q I r1 r2 h;obtain⟨i,j,e1,e2,q⟩:=h;subst e1;subst e2;obtain⟨t,rfl⟩:=r1;obtain⟨t',rfl⟩:=r2;exact iadd_int ⟨.int _,H,I.tok _,⟨_,rfl⟩,q⟩
theorem QxZ:PIp X .Sub (ipI λi j=>i - j):=by
 intro pins s σ H x y v u Q I r1 r2 h;obtain⟨i,j,e1,e2,q⟩:=h;subst e1;subst e2;obtain⟨t,rfl⟩:=r1;obtain⟨t',rfl⟩:=r2;exact isub_int ⟨.int _,H,I.tok _,⟨_,rfl⟩,q⟩
end
section
variable{X:Cx}{pos:Pos}
def Qwj(c:TT)(tb:TS):TS:=λD σ H=>∃W:Nat->St->Hp->Prop,(∃m,W m σ H)/\∀m σ H,W m σ H ->
 c σ H λb H1=>if b=true then ∃N:St->Hp->Prop,(∀σ' H',N σ' H'->∃m',m'<m/\W m' σ' H')/\tb { D with nx:=N,ct:=N,bk:=D.nx } σ H1 else D.nx σ H1
theorem Qo5{c:QV}{body:List ZY}{tc:TT}{tb:TS}(hp:QfP (model X.prog X.w) X.A X.env X.xe)(hc:PT X c tc)(hb:PSs X body tb):PS X (.While c body [] pos) (Qwj tc tb):=by
 intro pins s σ H D I h;obtain⟨W,⟨m0,w0⟩,turn⟩:=h;refine wpAny_While (codeAny_whileLoop (λn s'=>∃σ' H',Inv X pins σ' H' s'/\W n σ' H') ?_ m0 ⟨σ,H,I,w0⟩);rintro n s1 ⟨σ1,H1,I1,w1⟩;refine YS hp (thn (hc pins s1 σ1 H1 _ I1 (turn n σ1 H1 w1)) λb s2 ⟨H2,I2,q2⟩=>?_);cases b with
 |true=>
  obtain⟨N,hN,q2⟩:=q2;rw[if_pos rfl];refine YS hp (thn (hb pins s2 σ1 H2 _ I2 q2) λf s3 q3=>?_);cases f with
  |next=>
   obtain⟨σ3,H3,I3,n3⟩:=q3;obtain⟨m',hm,w3⟩:=hN σ3 H3 n3;exact⟨m',hm,σ3,H3,I3,w3⟩
  |cont=>
   obtain⟨σ3,H3,I3,n3⟩:=q3;obtain⟨m',hm,w3⟩:=hN σ3 H3 n3;exact⟨m',hm,σ3,H3,I3,w3⟩
  |brk=>exact q3
  |ret v=>exact q3
 |false=>
  rw[if_neg Qm];exact QdR ⟨σ1,H2,I2,q2⟩
end
structure It where
 go:Nat->Hp->Prop
 yld:Nat->Hp->V->Hp->Prop
 stop:Nat->Hp->Prop
def FpOk(X:Cx)(pins:List (Addr×Obj))(H:Hp)(b:Addr):Prop:=
 H b=none/\b≠X.env.locals/\b∉X.fs/\(b∈X.ex∨X.s₀.heap.objs.size<=b)/\(∀x c,X.env.cells.lookup x=some c->c≠b)/\∀p∈X.pn++pins,p.1≠b
theorem Inv.fpOk{X:Cx}{pins:List (Addr×Obj)}{σ:St}{H H':Hp}{s:Shared}{b:Addr}(I:Inv X pins σ H s)(hb:s.heap.objs.size<=b)(hn:H' b=none):FpOk X pins H' b:=by
 refine⟨hn,QaD (QP I.lt hb),I.nofs hb,.inr (QU I.sz hb),λx c e z=>?_,λp hp z=>?_⟩
 ·obtain⟨v,q⟩:=I.cell x c e;exact absurd (QP q.lt (by rw[z];exact hb)) (YJ _)
 ·exact absurd (QP (Qk (I.pin p hp).1) (by rw[z];exact hb)) (YJ _)
structure Turn (P:QF) (w:Jk) (K:PySem.W.Frag) (tg:QV) (J:It) (fp:List Addr) (it:Addr) (tn:Nat->Heap->Prop):Prop where
 mem:it∈fp
 obj:∀i h,tn i h->∀b∈fp,∃o,h.get? b=some o/\∀v,o.data≠.cell v
 keep:∀i h h',tn i h->(∀b∈fp,∀o,h.get? b=some o->h'.get? b=some o)->tn i h'
 item:∀(X:Cx),X.prog=P->X.w=w->X.K=K->X.calm=true->∀(i:Nat)(pins:List (Addr×Obj))(s:Shared)(σ:St)(H:Hp)(E:Value->Shared->Prop),Inv X pins σ H s->(∀b∈fp,FpOk X pins H b)->tn i s.heap->J.go i H ->
  wpAny (model P w) X.A (pyNext (.ref it)) (λr s1=>∃u,r=some u /\
   wpAny (model P w) X.A (letOwnedTupleGo tg (.ref it) u) (λ_ s2=>∃x H',Inv X pins σ H' s2/\RelV x u/\J.yld i H x H'/\tn (i+1) s2.heap/\∀b∈fp,H' b=none) E s1) E s
 done:∀(X:Cx),X.prog=P->X.w=w->X.K=K->X.calm=true->∀(i:Nat)(pins:List (Addr×Obj))(s:Shared)(σ:St)(H:Hp)(E:Value->Shared->Prop),Inv X pins σ H s->(∀b∈fp,FpOk X pins H b)->tn i s.heap->J.stop i H ->
  wpAny (model P w) X.A (pyNext (.ref it)) (λr s1=>r=none/\Inv X pins σ H s1) E s
 self:∀(A:Q9)(i:Nat)(s:Shared)(Q:Value->Shared->Prop)(E:Value->Shared->Prop),tn i s.heap->Q (.ref it) s->wpAny (model P w) A (pyIter (.ref it)) Q E s
abbrev TI:=St->Hp->(It->Hp->Prop)->Prop
def PIE(X:Cx)(pins:List (Addr×Obj))(σ:St)(tg:QV)(R:It->Hp->Prop)(itv:Value)(s2:Shared):Prop:=
 ∃(it:Addr)(fp:List Addr)(tn:Nat->Heap->Prop)(J:It)(H':Hp),itv=.ref it/\Inv X pins σ H' s2/\Turn X.prog X.w X.K tg J fp it tn/\tn 0 s2.heap/\(∀b∈fp,FpOk X pins H' b)/\R J H'
def PI(X:Cx)(tg iter:QV)(wi:TI):Prop:=
 ∀(pins:List (Addr×Obj))(s:Shared)(σ:St)(H:Hp)(R:It->Hp->Prop),Inv X pins σ H s->wi σ H R ->
  wpAny (model X.prog X.w) X.A (eval iter X.env) (λv s1=>wpAny (model X.prog X.w) X.A (pyIter v) (PIE X pins σ tg R) X.xe s1) X.xe s
theorem Qrb{M:Model}{A:Q9}{E:Value->Shared->Prop}{s:Shared}{tg:QV}{it:Addr}{u:Value}{o:Obj}{n:String}{vs:Array Value}{Q:Unit->Shared->Prop}(ho:s.heap.get? it=some o)(hc:o.cls=.type n)(hd:o.data=.fields vs)
  (hn:["enumerate", "zip", "dict_itemiterator", "dict_reverseitemiterator", "odict_iterator", "itertools.zip_longest", "itertools.pairwise"].contains n=false)(hQ:Q () s):wpAny M A (letOwnedTupleGo tg (.ref it) u) Q E s:=by
 unfold letOwnedTupleGo;cases tg<;>first
  |exact wpAny_pure hQ
  |(cases u<;>first
    |exact wpAny_pure hQ
    |(refine wpAny_bind (wpAny_load ho ?_)
      rw[hc,hd];show wpAny M A (if(["enumerate", "zip", "dict_itemiterator", "dict_reverseitemiterator", "odict_iterator", "itertools.zip_longest", "itertools.pairwise"].contains n&&vs[0]? == some (rawInt _))=true then _ else _) Q E s;rw[if_neg (by intro h;rw[hn,Bool.false_and] at h;cases h)];exact wpAny_pure hQ))
def Itl(K:PySem.W.Frag)(a:Addr):It:=
 ⟨λi H=>∃xs x,SqL K H a xs/\xs[i]? = some x,λi H x H'=>H'=H/\∀xs,SqL K H a xs->xs[i]? = some x,λi H=>∃xs,SqL K H a xs/\xs.length<=i⟩
def Itt(K:PySem.W.Frag)(a:Addr):It:=
 ⟨λi H=>∃xs x,SqT K H a xs/\xs[i]? = some x,λi H x H'=>H'=H/\∀xs,SqT K H a xs->xs[i]? = some x,λi H=>∃xs,SqT K H a xs/\xs.length<=i⟩
def Itr(lo:Int)(n:Nat):It:=⟨λi _=>i<n,λi H x H'=>H'=H/\x=.int (lo+i),λi _=>n<=i⟩
theorem Qlv{P:QF}{w:Jk}{K:PySem.W.Frag}{tg:QV}(a it:Addr):Turn P w K tg (Itl K a) [it] it (λi h=>h.IsListIter it a i) where
 mem:=by simp
 obj:=λi h st b hb=>by
  have e:b=it:=by simpa using hb
  subst e;obtain⟨o,e,c,d⟩:=st;exact⟨o,e,λv z=>by rw[d] at z;cases z⟩
 keep:=λi h h' st k=>st.at λo e=>k it (by simp) o e
 item:=by
  intro X hP hw hK hc i pins s σ H E I hf st hg;subst hP hw hK;obtain⟨xs,x,hq,hx⟩:=hg;obtain⟨its,rv,p,hz⟩:=I.list hq;obtain⟨u,hu,ru⟩:=rv.get hx;obtain⟨f0,f1,f2,f3,f4,f5⟩:=hf it (by simp);refine Qc9 st p.isList (x:=u) (by simpa using hu) λh' st' sb=>?_
  have I1:Inv X pins σ H { s with heap:=h' }:=I.turned (t':=s.toks) (λb o hb e=>(sb.2 b hb).trans e) f0 f1 f3 f4 f5;obtain⟨o,e,c,d⟩:=id st';exact⟨u,rfl,Qrb (s:={ s with heap:=h' }) e c d (by decide) ⟨x,H,I1,ru,⟨rfl,λys hy=>by rw[I.list_inj hy hq];exact hx⟩,st',λb hb=>(hf b hb).1⟩⟩
 done:=by
  intro X hP hw hK hc i pins s σ H E I hf st hg;subst hP hw hK;obtain⟨xs,hq,hx⟩:=hg;obtain⟨its,rv,p,hz⟩:=I.list hq;obtain⟨f0,f1,f2,f3,f4,f5⟩:=hf it (by simp);have hl:=rv.length;exact QdQ (I.ok.hd hc) st p.isList (by simp;omega) λh' eb=>⟨rfl,I.turned (t':=s.toks) (λb o hb e=>eb b o hb e) f0 f1 f3 f4 f5⟩
 self:=λ_ _ _ _ _ st h=>wpAny_pyIter_listiter st h
theorem Qka{P:QF}{w:Jk}{K:PySem.W.Frag}{tg:QV}(a it:Addr):Turn P w K tg (Itt K a) [it] it (λi h=>h.IsTupleIter it a i) where
 mem:=by simp
 obj:=λi h st b hb=>by
  have e:b=it:=by simpa using hb
  subst e;obtain⟨o,e,c,d⟩:=st;exact⟨o,e,λv z=>by rw[d] at z;cases z⟩
 keep:=λi h h' st k=>st.at λo e=>k it (by simp) o e
 item:=by
  intro X hP hw hK hc i pins s σ H E I hf st hg;subst hP hw hK;obtain⟨xs,x,hq,hx⟩:=hg;obtain⟨its,rv,p,hz⟩:=I.tuple hq;obtain⟨u,hu,ru⟩:=rv.get hx;obtain⟨f0,f1,f2,f3,f4,f5⟩:=hf it (by simp);refine wpAny_pyNext_tuple_item st (show s.heap.IsTuple a its.toArray from p) (x:=u) (by simpa using hu) λh' st' sb=>?_
  have I1:Inv X pins σ H { s with heap:=h' }:=I.turned (t':=s.toks) (λb o hb e=>(sb.2 b hb).trans e) f0 f1 f3 f4 f5;obtain⟨o,e,c,d⟩:=id st';exact⟨u,rfl,Qrb (s:={ s with heap:=h' }) e c d (by decide) ⟨x,H,I1,ru,⟨rfl,λys hy=>by rw[I.tuple_inj hy hq];exact hx⟩,st',λb hb=>(hf b hb).1⟩⟩
 done:=by
  intro X hP hw hK hc i pins s σ H E I hf st hg;subst hP hw hK;obtain⟨xs,hq,hx⟩:=hg;obtain⟨its,rv,p,hz⟩:=I.tuple hq;obtain⟨f0,f1,f2,f3,f4,f5⟩:=hf it (by simp);have hl:=rv.length;exact wpAny_pyNext_tuple_end (I.ok.hd hc) st (show s.heap.IsTuple a its.toArray from p) (by simp;omega) λh' eb=>⟨rfl,I.turned (t':=s.toks) (λb o hb e=>eb b o hb e) f0 f1 f3 f4 f5⟩
 self:=λ_ _ _ _ _ st h=>wpAny_pyIter_tupleiter st h
theorem Qkb{P:QF}{w:Jk}{K:PySem.W.Frag}{tg:QV}(it:Addr)(lo:Int)(n:Nat):Turn P w K tg (Itr lo n) [it] it (λi h=>Qj7 h it (lo+(i:Nat)*1) ((n:Int) - (i:Nat)) 1) where
 mem:=by simp
 obj:=λi h st b hb=>by
  have e:b=it:=by simpa using hb
  subst e;exact⟨_,st,λv z=>by
   have z':Data.fields _=Data.cell v:=z;cases z'⟩
 keep:=λi h h' st k=>k it (by simp) _ st
 item:=by
  intro X hP hw hK hc i pins s σ H E I hf st hg;subst hP hw hK;obtain⟨f0,f1,f2,f3,f4,f5⟩:=hf it (by simp);have W:=Qzc (prog:=X.prog) (w:=X.w) (I.ok.hd hc) it lo 1 n;refine W.item i s _ _ hg st λv h' tk hv st' kk=>?_
  obtain⟨t,rfl⟩:=hv;have I1:Inv X pins σ H { s with heap:=h',toks:=tk }:=I.turned (λb o hb e=>kk b o (by simpa using hb) e) f0 f1 f3 f4 f5;refine⟨_,rfl,Qrb (s:={ s with heap:=h',toks:=tk }) (n := "range_iterator") st' rfl rfl (by decide) ⟨.int (lo+i),H,I1,⟨t,?_⟩,⟨rfl,rfl⟩,st',λb hb=>(hf b hb).1⟩⟩;rw[Int.mul_one]
 done:=by
  intro X hP hw hK hc i pins s σ H E I hf st hg;subst hP hw hK;obtain⟨f0,f1,f2,f3,f4,f5⟩:=hf it (by simp);exact Qrz (I.ok.hd hc) st (by have:n<=i:=hg;omega) λh' eb=>⟨rfl,I.turned (t':=s.toks) (λb o hb e=>eb b o hb e) f0 f1 f3 f4 f5⟩
 self:=λ_ _ _ _ _ st h=>Qda st h
section
variable{X:Cx}{tg:QV}
def QAC(K:PySem.W.Frag)(tl:TE):TI:=λσ H R=>tl σ H λx H1=>∃a,x=.ref a/\(∃xs,SqL K H1 a xs)/\R (Itl K a) H1
def QCd(K:PySem.W.Frag)(tl:TE):TI:=λσ H R=>tl σ H λx H1=>∃a,x=.ref a/\(∃xs,SqT K H1 a xs)/\R (Itt K a) H1
theorem QtO{l:QV}{tl:TE}(hl:PE X l tl):PI X tg l (QAC X.K tl):=by
 intro pins s σ H R I h;refine thn (hl pins s σ H _ I h) λv s1 ⟨x,H1,I1,r1,q1⟩=>?_
 obtain⟨a,e,⟨xs,hq⟩,q⟩:=q1;subst e;cases r1;obtain⟨its,rv,p,hz⟩:=I1.list hq;refine QgU p.isList ?_
 refine⟨s1.heap.objs.size,[s1.heap.objs.size],_,_,H1,rfl,I1.kept (t':=s1.toks) λb o e=>Qe _ e,Qlv a _,⟨_,Qr _ rfl,rfl,rfl⟩,λb hb=>?_,q⟩;have e:b=s1.heap.objs.size:=by simpa using hb
 subst e;exact I1.fpOk (Qg _) (I1.hok.fresh (Qg _))
theorem Qr8{l:QV}{tl:TE}(hl:PE X l tl):PI X tg l (QCd X.K tl):=by
 intro pins s σ H R I h;refine thn (hl pins s σ H _ I h) λv s1 ⟨x,H1,I1,r1,q1⟩=>?_
 obtain⟨a,e,⟨xs,hq⟩,q⟩:=q1;subst e;cases r1;obtain⟨its,rv,p,hz⟩:=I1.tuple hq;refine YE (show s1.heap.IsTuple a its.toArray from p) ?_
 refine⟨s1.heap.objs.size,[s1.heap.objs.size],_,_,H1,rfl,I1.kept (t':=s1.toks) λb o e=>Qe _ e,Qka a _,⟨_,Qr _ rfl,rfl,rfl⟩,λb hb=>?_,q⟩;have e:b=s1.heap.objs.size:=by simpa using hb
 subst e;exact I1.fpOk (Qg _) (I1.hok.fresh (Qg _))
theorem Qo2{pins:List (Addr×Obj)}{σ:St}{H:Hp}{s:Shared}{R:It->Hp->Prop}{E:Value->Shared->Prop}{lo hi:Int}{t u v:Tok}{tk:Nat}(I:Inv X pins σ H s)(h1 : -(2^62)<=lo)(h2:lo<2^62)(h3 : -(2^62)<=hi)(h4:hi<2^62)
  (q:R (Itr lo (hi - lo).toNat) H):wpAny (model X.prog X.w) X.A (pyIter (.ref s.heap.objs.size)) (PIE X pins σ tg R) E { s with heap:=s.heap.push { cls:=.type "range",data:=.fields #[.int lo t,.int hi u,.int 1 v] },toks:=tk }:=by
 refine wpAny_pyIter_range (IsRange.new ..) (small_one h1 h2 h3 h4) ?_
 have I1:Inv X pins σ H { s with heap:=s.heap.push { cls:=.type "range",data:=.fields #[.int lo t,.int hi u,.int 1 v] },toks:=tk }:=I.kept λb o e=>Qe _ e
 refine⟨(s.heap.push { cls:=.type "range",data:=.fields #[.int lo t,.int hi u,.int 1 v] }).objs.size,[(s.heap.push { cls:=.type "range",data:=.fields #[.int lo t,.int hi u,.int 1 v] }).objs.size],_,_,H,rfl,
  I1.kept (t':=tk) λb o e=>Qe _ e,Qkb _ lo (hi - lo).toNat,?_,λb hb=>?_,q⟩
 ·have e1:lo+((0:Nat):Int)*1=lo:=by simp
  have e2:(((hi - lo).toNat:Nat):Int) - ((0:Nat):Int)=Za lo hi 1:=by rw[QfL];split<;>omega
  show Qj7 _ _ (lo+((0:Nat):Int)*1) ((((hi - lo).toNat:Nat):Int) - ((0:Nat):Int)) 1;rw[e1,e2];exact Qr _ rfl
 ·have e:b=(s.heap.push { cls:=.type "range",data:=.fields #[.int lo t,.int hi u,.int 1 v] }).objs.size:=by simpa using hb
  subst e;exact I1.fpOk (Qg _) (I1.hok.fresh (Qg _))
def QAB(ta:TA):TI:=λσ H R=>ta σ H λvs H1=>∃j:Int,vs=[.int j] /\ -(2^62)<=j/\j<2^62/\R (Itr 0 j.toNat) H1
theorem Qhc{a:QV}{ta:TA}{p pos:Pos}(hg:Gl X "range")(hm:X.mg "range" = none)(ha:PA X [a] ta)(hs:starEach [a] X.env=[(false,eval a X.env)]:=by rfl):PI X tg (.Call (.Name "range" p) [a] [] pos) (QAB ta):=by
 intro pins s σ H R I h;refine Call_ (QbJ I hg hm boot_range (JD (thn (ha pos pins s σ H _ I h) λus s1 ⟨vs,H1,I1,r1,q1⟩=>?_) hs rfl));obtain⟨j,e,q1,q2,q⟩:=q1;subst e;cases r1 with
 |cons r rr=>
  cases rr;obtain⟨t,rfl⟩:=r;exact call_range_1 (Qo2 I1 (by omega) (by omega) q1 q2 (by simpa using q))
def tFor(wi:TI)(g:TG)(tb:TS):TS:=λD σ H=>wi σ H λJ H1=>∃W:Nat->Nat->St->Hp->Prop,(∃m,W 0 m σ H1)/\∀i m σ H,W i m σ H ->
 (J.stop i H/\D.nx σ H)∨(J.go i H/\∃N:St->Hp->Prop,(∀σ' H',N σ' H'->∃m',m'<m/\W (i+1) m' σ' H')/\∀x H',J.yld i H x H'->g x σ H' λσ2 H2=>tb { D with nx:=N,ct:=N,bk:=D.nx } σ2 H2)
def Qjo(fp:List Addr)(h:Heap):List (Addr×Obj):=fp.filterMap λb=>(h.get? b).map λo=>(b,o)
theorem Ye{fp:List Addr}{h:Heap}{b:Addr}{o:Obj}(hb:b∈fp)(e:h.get? b=some o):(b,o)∈Qjo fp h:=Qov.mpr ⟨b,hb,by rw[e];rfl⟩
theorem QmN{fp:List Addr}{h:Heap}{p:Addr×Obj}(hp:p∈Qjo fp h):p.1∈fp/\h.get? p.1=some p.2:=by
 obtain⟨b,hb,e⟩:=Qov.mp hp;cases q:h.get? b with
 |none=>rw[q] at e;cases e
 |some o=>
  rw[q] at e;have e':(b,o)=p:=QJ e;subst e';exact⟨hb,q⟩
theorem Inv.pinned{pins:List (Addr×Obj)}{σ:St}{H:Hp}{s:Shared}{fp:List Addr}(I:Inv X pins σ H s)(hf:∀b∈fp,FpOk X pins H b)(ho:∀b∈fp,∃o,s.heap.get? b=some o/\∀v,o.data≠.cell v):Inv X (pins++Qjo fp s.heap) σ H s:=
 I.pins_of λp hp=>(Jf.mp hp).elim (λz=>I.pin p (QB _ z)) λz=>by
  obtain⟨hb,e⟩:=QmN z;obtain⟨f0,f1,f2,_⟩:=hf p.1 hb;obtain⟨o,e',d⟩:=ho p.1 hb;rw[e] at e';cases e';exact⟨e,f0,f1,f2,d⟩
theorem Inv.unpinned{pins pl:List (Addr×Obj)}{σ:St}{H:Hp}{s:Shared}(I:Inv X (pins++pl) σ H s):Inv X pins σ H s:=I.pins_of λp hp=>I.pin p (QB _ (ZB _ hp))
theorem Qr5{iter:QV}{body:List ZY}{wi:TI}{g:TG}{tb:TS}{pos:Pos}(hp:QfP (model X.prog X.w) X.A X.env X.xe)(hc:X.calm=true)(hi:PI X tg iter wi)(hg:PG X tg g)(hb:PSs X body tb)
  (hs:∀x,foldedSetIterable iter X.env x=pure x:=by intro _;rfl):PS X (.For tg iter body [] pos) (tFor wi g tb):=by
 intro pins s σ H D I h;refine wpAny_For (thn (hi pins s σ H _ I h) λv s1 h1=>thn h1 λitv s2 h2=>?_) hs;obtain⟨it,fp,tn,J,H2,e,I2,T,st2,f2,W,⟨m0,w0⟩,turn⟩:=h2;subst e;have stat:∀{H':Hp},(∀b∈fp,H' b=none)->∀b∈fp,FpOk X pins H' b:=λhn b hb=>⟨hn b hb,(f2 b hb).2⟩
 refine codeAny_forLoop_any (λn s'=>∃i σ' H',Inv X pins σ' H' s'/\tn i s'.heap/\(∀b∈fp,H' b=none)/\W i n σ' H') ?_ m0 ⟨0,σ,H2,I2,st2,λb hb=>(f2 b hb).1,w0⟩
 rintro n s3 ⟨i,σ3,H3,I3,st3,fr3,w3⟩;rcases turn i n σ3 H3 w3 with⟨stop,qn⟩ | ⟨go,N,hN,step⟩
 ·refine YS hp (thn (T.done X rfl rfl rfl hc i pins s3 σ3 H3 X.xe I3 (stat fr3) st3 stop) λr s4 ⟨hr,I4⟩=>?_);subst hr;exact QdR ⟨σ3,H3,I4,qn⟩
 ·refine YS hp (thn (T.item X rfl rfl rfl hc i pins s3 σ3 H3 X.xe I3 (stat fr3) st3 go) λr s4 ⟨u,hr,h4⟩=>?_);subst hr;refine YS hp (thn h4 λ_ s5 ⟨x,H5,I5,r5,y5,st5,fr5⟩=>?_);have I5':=I5.pinned (stat fr5) (T.obj _ _ st5);refine YS hp (thn (hg _ s5 σ3 H5 x u _ I5' r5 (step x H5 y5)) λ_ s6 ⟨σ6,H6,I6,q6⟩=>?_);refine YS hp (thn (hb _ s6 σ6 H6 _ I6 q6) λf s7 q7=>?_);have again:∀{σ7:St}{H7:Hp},Inv X (pins++Qjo fp s5.heap) σ7 H7 s7->N σ7 H7->∃m,m<n/\∃i σ' H',Inv X pins σ' H' s7/\tn i s7.heap/\(∀b∈fp,H' b=none)/\W i m σ' H':=λ{σ7 H7} I7 n7=>by
   obtain⟨m',hm,w7⟩:=hN σ7 H7 n7;refine⟨m',hm,i+1,σ7,H7,I7.unpinned,T.keep _ _ _ st5 λb hb o e=>(I7.pin (b,o) (QB _ (QB _ (Ye hb e)))).1,λb hb=>?_,w7⟩;obtain⟨o,e,d⟩:=T.obj _ _ st5 b hb;exact(I7.pin (b,o) (QB _ (QB _ (Ye hb e)))).2.1
  cases f with
  |next=>obtain⟨σ7,H7,I7,n7⟩:=q7;exact again I7 n7
  |cont=>obtain⟨σ7,H7,I7,n7⟩:=q7;exact again I7 n7
  |brk=>obtain⟨σ7,H7,I7,q7⟩:=q7;exact⟨σ7,H7,I7.unpinned,q7⟩
  |ret v=>obtain⟨x7,σ7,H7,I7,r7,q7⟩:=q7;exact⟨x7,σ7,H7,I7.unpinned,r7,q7⟩
end
theorem Qnf{lo:Int}{n:Nat}{g:TG}{tb:TS}{D:Ends}{σ:St}{H:Hp}(Pv:Nat->St->Hp->Prop)(h0:Pv 0 σ H)
  (hs:∀i σ H,i<n->Pv i σ H->g (.int (lo+i)) σ H λσ2 H2=>tb { D with nx:=Pv (i+1),ct:=Pv (i+1),bk:=D.nx } σ2 H2)(hd:∀σ H,Pv n σ H->D.nx σ H) :
  ∃W:Nat->Nat->St->Hp->Prop,(∃m,W 0 m σ H)/\∀i m σ H,W i m σ H ->
   ((Itr lo n).stop i H/\D.nx σ H)∨((Itr lo n).go i H/\∃N:St->Hp->Prop,(∀σ' H',N σ' H'->∃m',m'<m/\W (i+1) m' σ' H')/\∀x H',(Itr lo n).yld i H x H'->g x σ H' λσ2 H2=>tb { D with nx:=N,ct:=N,bk:=D.nx } σ2 H2):=by
 refine⟨λi m σ H=>m=n - i/\i<=n/\Pv i σ H,⟨n,by simp,Jc _,h0⟩,?_⟩;rintro i m σ H ⟨rfl,hi,p⟩;by_cases hlt:i<n
 ·refine .inr ⟨hlt,Pv (i+1),λσ' H' p'=>⟨n - (i+1),by omega,rfl,hlt,p'⟩,λx H' y=>?_⟩;obtain⟨e,y⟩:=y;subst e y;exact hs i σ _ hlt p
 ·have e:i=n:=by omega
  subst e;exact .inl ⟨Qg _,hd σ H p⟩
abbrev R2:=V->V->Hp->VK->Prop
def OpR(X:Cx)(f:Value->Value->Sem Value)(r:R2):Prop:=
 ∀(pins:List (Addr×Obj))(s:Shared)(σ:St)(H:Hp)(x y:V)(v u:Value)(Q:VK),Inv X pins σ H s->RelV x v->RelV y u->r x y H Q ->
  wpAny (model X.prog X.w) X.A (f v u) (EP X pins σ Q) X.xe s
def UnR(X:Cx)(f:Value->Sem Value)(r:V->Hp->VK->Prop):Prop:=
 ∀(pins:List (Addr×Obj))(s:Shared)(σ:St)(H:Hp)(x:V)(v:Value)(Q:VK),Inv X pins σ H s->RelV x v->r x H Q ->
  wpAny (model X.prog X.w) X.A (f v) (EP X pins σ Q) X.xe s
def CallR(X:Cx)(f:Value)(r:List V->Hp->VK->Prop):Prop:=
 ∀(pins:List (Addr×Obj))(s:Shared)(σ:St)(H:Hp)(xs:List V)(us:List Value)(Q:VK),Inv X pins σ H s->Vals xs us->r xs H Q ->
  wpAny (model X.prog X.w) X.A (call f us) (EP X pins σ Q) X.xe s
def QCj(X:Cx)(r:V->Hp->(Bool->Hp->Prop)->Prop):Prop:=
 ∀(pins:List (Addr×Obj))(s:Shared)(σ:St)(H:Hp)(x:V)(v:Value)(Q:Bool->Hp->Prop),Inv X pins σ H s->RelV x v->r x H Q ->
  wpAny (model X.prog X.w) X.A (truthy v) (TP X pins σ Q) X.xe s
def tOp(r:R2)(ta tb:TE):TE:=λσ H Q=>ta σ H λx H1=>tb σ H1 λy H2=>r x y H2 Q
def tUn(r:V->Hp->VK->Prop)(ta:TE):TE:=λσ H Q=>ta σ H λx H1=>r x H1 Q
def rI(C:Int->Int->Prop)(g:Int->Int->V):R2:=λx y H Q=>∃i j,x=.int i/\y=.int j/\C i j/\Q (g i j) H
def rI0(g:Int->Int->V):R2:=λx y H Q=>∃i j,x=.int i/\y=.int j/\Q (g i j) H
def rU(g:Int->V):V->Hp->VK->Prop:=λx H Q=>∃i,x=.int i/\Q (g i) H
section
variable{X:Cx}{a b c:QV}{ta tb tc:TE}{pos:Pos}
theorem QAW(ha:PE X a ta)(hb:PE X b tb){pins:List (Addr×Obj)}{s:Shared}{σ:St}{H:Hp}{R:V->V->Hp->Prop}(I:Inv X pins σ H s)
  (h:ta σ H λx H1=>tb σ H1 λy H2=>R x y H2){Q:Value->Shared->Prop}{f:Value->Value->Sem Value}
  (hf:∀v u s2 x y H2,Inv X pins σ H2 s2->RelV x v->RelV y u->R x y H2->wpAny (model X.prog X.w) X.A (f v u) Q X.xe s2) :
  wpAny (model X.prog X.w) X.A (eval a X.env) (λv s₁=>wpAny (model X.prog X.w) X.A (eval b X.env) (λu s₂=>wpAny (model X.prog X.w) X.A (f v u) Q X.xe s₂) X.xe s₁) X.xe s:=by
 refine thn (ha pins s σ H _ I h) λv s1 ⟨x,H1,I1,r1,q1⟩=>?_
 refine thn (hb pins s1 σ H1 _ I1 q1) λu s2 ⟨y,H2,I2,r2,q2⟩=>?_
 exact hf v u s2 x y H2 I2 r1 r2 q2
theorem Qbj{op:QcP}{r:R2}(ho:OpR X (binaryOp op) r)(ha:PE X a ta)(hb:PE X b tb):PE X (.BinOp a op b pos) (tOp r ta tb):=by
 intro pins s σ H Q I h;exact wpAny_BinOp (QAW ha hb I h λv u s2 x y H2 I2 rx ry q=>ho pins s2 σ H2 x y v u Q I2 rx ry q)
theorem Qz7{op:UnaryOp}{r:V->Hp->VK->Prop}(ho:UnR X (unaryOp op) r)(ha:PE X a ta):PE X (.UnaryOp op a pos) (tUn r ta):=by
 intro pins s σ H Q I h;exact UnaryOp_ (thn (ha pins s σ H _ I h) λv s1 ⟨x,H1,I1,r1,q1⟩=>ho pins s1 σ H1 x v Q I1 r1 q1)
theorem opI{f:Value->Value->Sem Value}{C:Int->Int->Prop}{g:Int->Int->Int}
  (rule:∀(i j:Int)(t u:Tok)(s:Shared)(Q:Value->Shared->Prop)(E:Value->Shared->Prop),C i j->Q (.int (g i j) s.toks) { s with toks:=s.toks+1 }->wpAny (model X.prog X.w) X.A (f (.int i t) (.int j u)) Q E s) :
  OpR X f (rI C λi j=>.int (g i j)):=by
 intro pins s σ H x y v u Q I rx ry h;obtain⟨i,j,rfl,rfl,hc,q⟩:=h;obtain⟨t,rfl⟩:=rx;obtain⟨t',rfl⟩:=ry;exact rule i j t t' s _ _ hc ⟨.int (g i j),H,I.tok _,⟨_,rfl⟩,q⟩
theorem QyT{f:Value->Value->Sem Value}{g:Int->Int->Int}
  (rule:∀(i j:Int)(t u:Tok)(s:Shared)(Q:Value->Shared->Prop)(E:Value->Shared->Prop),Q (.int (g i j) s.toks) { s with toks:=s.toks+1 }->wpAny (model X.prog X.w) X.A (f (.int i t) (.int j u)) Q E s) :
  OpR X f (rI0 λi j=>.int (g i j)):=by
 intro pins s σ H x y v u Q I rx ry h;obtain⟨i,j,rfl,rfl,q⟩:=h;obtain⟨t,rfl⟩:=rx;obtain⟨t',rfl⟩:=ry;exact rule i j t t' s _ _ ⟨.int (g i j),H,I.tok _,⟨_,rfl⟩,q⟩
theorem QyU{f:Value->Value->Sem Value}{g:Int->Int->Bool}
  (rule:∀(i j:Int)(t u:Tok)(s:Shared)(Q:Value->Shared->Prop)(E:Value->Shared->Prop),Q (.bool (g i j)) s->wpAny (model X.prog X.w) X.A (f (.int i t) (.int j u)) Q E s) :
  OpR X f (rI0 λi j=>.bl (g i j)):=by
 intro pins s σ H x y v u Q I rx ry h;obtain⟨i,j,rfl,rfl,q⟩:=h;obtain⟨t,rfl⟩:=rx;obtain⟨t',rfl⟩:=ry;exact rule i j t t' s _ _ ⟨.bl (g i j),H,I,rfl,q⟩
def QBP(i j:Int):Prop:=0<=j/\j<=1000000/\i.natAbs<2^64
def CMul(i j:Int):Prop:=(-(2^64)<i/\i<2^64)∨(-(2^64)<j/\j<2^64)
theorem CMul.ok{i j:Int}(h:CMul i j):IntMulOk i j:=by
 rcases h with⟨h1,h2⟩ | ⟨h1,h2⟩
 ·exact .of_left (intBits_le_64 h1 h2)
 ·exact .of_right (intBits_le_64 h1 h2)
theorem Qfv:OpR X (binaryOp .Add) (rI0 λi j=>.int (i+j)):=QyT λ_ _ _ _ _ _ _ q=>add_int q
theorem Qez:OpR X (binaryOp .Sub) (rI0 λi j=>.int (i - j)):=QyT λ_ _ _ _ _ _ _ q=>sub_int q
theorem Qfu:OpR X (binaryOp .Mult) (rI CMul λi j=>.int (i*j)):=opI λ_ _ _ _ _ _ _ hc q=>mul_int q hc.ok
theorem Qhh:OpR X (binaryOp .Mod) (rI (λ_ j=>0<j) λi j=>.int (i % j)):=opI λi j _ _ _ _ _ hc q=>by
 have h1:(0:Int)<j:=hc;exact mod_int' (by omega) (by rw[Int.fmod_eq_emod_of_nonneg i (by omega)];exact q)
theorem Qsd:OpR X (binaryOp .Pow) (rI QBP λi j=>.int (i^j.toNat)):=opI λ_ _ _ _ _ _ _ hc q=>pow_int_small hc.1 hc.2.1 hc.2.2 q
theorem Qjq:OpR X (binaryOp .LShift) (rI QBP λi j=>.int (i*2^j.toNat)):=opI λ_ _ _ _ _ _ _ hc q=>lshift_int_small hc.1 hc.2.1 hc.2.2 q
theorem Qxw:OpR X (binaryOp .BitAnd) (rI0 λi j=>.int (QcK i j)):=QyT λ_ _ _ _ _ _ _ q=>and_int q
theorem QAh:OpR X (binaryOp .BitOr) (rI0 λi j=>.int (Qde i j)):=QyT λ_ _ _ _ _ _ _ q=>or_int q
theorem unI{f:Value->Sem Value}{g:Int->Int}
  (rule:∀(i:Int)(t:Tok)(s:Shared)(Q:Value->Shared->Prop)(E:Value->Shared->Prop),Q (.int (g i) s.toks) { s with toks:=s.toks+1 }->wpAny (model X.prog X.w) X.A (f (.int i t)) Q E s) :
  UnR X f (rU λi=>.int (g i)):=by
 intro pins s σ H x v Q I rx h;obtain⟨i,rfl,q⟩:=h;obtain⟨t,rfl⟩:=rx;exact rule i t s _ _ ⟨.int (g i),H,I.tok _,⟨_,rfl⟩,q⟩
theorem Qv9:UnR X (unaryOp .USub) (rU λi=>.int (-i)):=unI λ_ _ _ _ _ q=>neg_int q
end
def QA9:V->V->Bool
 |.non,.non=>true | .non,.int _=>true | .int _,.non=>true | .non,.bl _=>true | .bl _,.non=>true | .non,.str _=>true | .str _,.non=>true
 |.int _,.int _=>true | .bl _,.bl _=>true | .str _,.str _=>true | .byt _,.byt _=>true
 |.int _,.str _=>true | .str _,.int _=>true | .bl _,.str _=>true | .str _,.bl _=>true
 |_,_=>false
def rEq:R2:=λx y H Q=>QA9 x y=true/\Q (.bl (decide (x=y))) H
def rNe:R2:=λx y H Q=>QA9 x y=true/\Q (.bl (!decide (x=y))) H
theorem Qnn{i j:Int}:decide (V.int i=V.int j)=(i == j):=by
 rw[J8];simp
theorem Qsx{i j:Bool}:decide (V.bl i=V.bl j)=(i == j):=by
 rw[J8];simp
theorem Qnm{i j:Str}:decide (V.str i=V.str j)=(i == j):=by
 rw[J8];simp
theorem Qno{i j:Array UInt8}:decide (V.byt i=V.byt j)=(i.toList == j.toList):=by
 rw[J8];cases i;cases j;simp
section
variable{X:Cx}{a b c:QV}{ta tb tc:TE}{pos:Pos}
theorem ZJ{pins:List (Addr×Obj)}{σ:St}{H:Hp}{s:Shared}{Q:VK}{k k':Bool}(I:Inv X pins σ H s)(q:Q (.bl k) H)(e:k=k'):EP X pins σ Q (.bool k') s:=by
 subst e;exact⟨.bl k,H,I,rfl,q⟩
theorem QAj:OpR X (compareOp .Eq) rEq:=by
 intro pins s σ H x y v u Q I rx ry h;obtain⟨hs,q⟩:=h;cases x with
 |non=>
  cases rx;cases y with
  |non=>cases ry;exact PySem.EqNone.eq_none_none (ZJ I q (by simp))
  |bl j=>cases ry;exact PySem.EqNone.eq_none_bool (ZJ I q (by simp))
  |int j=>obtain⟨t',rfl⟩:=ry;exact PySem.EqNone.eq_none_int (ZJ I q (by simp))
  |str j=>obtain⟨t',rfl⟩:=ry;exact PySem.EqNone.eq_none_str (ZJ I q (by simp))
  |_=>exact absurd (show false=true from hs) Qm
 |bl i=>
  cases rx;cases y with
  |non=>cases ry;exact PySem.EqNone.eq_bool_none (ZJ I q (by simp))
  |bl j=>cases ry;exact eq_bool (ZJ I q Qsx)
  |str j=>obtain⟨t',rfl⟩:=ry;exact PySem.EqMixed.eq_bool_str (ZJ I q (by simp))
  |_=>exact absurd (show false=true from hs) Qm
 |int i=>
  obtain⟨t,rfl⟩:=rx;cases y with
  |non=>cases ry;exact PySem.EqNone.eq_int_none (ZJ I q (by simp))
  |int j=>obtain⟨t',rfl⟩:=ry;exact eq_int (ZJ I q Qnn)
  |str j=>obtain⟨t',rfl⟩:=ry;exact PySem.EqMixed.eq_int_str (ZJ I q (by simp))
  |_=>exact absurd (show false=true from hs) Qm
 |str i=>
  obtain⟨t,rfl⟩:=rx;cases y with
  |non=>cases ry;exact PySem.EqNone.eq_str_none (ZJ I q (by simp))
  |bl j=>cases ry;exact PySem.EqMixed.eq_str_bool (ZJ I q (by simp))
  |int j=>obtain⟨t',rfl⟩:=ry;exact PySem.EqMixed.eq_str_int (ZJ I q (by simp))
  |str j=>obtain⟨t',rfl⟩:=ry;exact eq_str (ZJ I q Qnm)
  |_=>exact absurd (show false=true from hs) Qm
 |byt i=>
  obtain⟨t,rfl⟩:=rx;cases y with
  |byt j=>obtain⟨t',rfl⟩:=ry;exact PySem.W.eq_bytes (ZJ I q Qno)
  |_=>exact absurd (show false=true from hs) Qm
 |_=>cases y<;>exact absurd (show false=true from hs) Qm
theorem QAi:OpR X (compareOp .NotEq) rNe:=by
 intro pins s σ H x y v u Q I rx ry h;obtain⟨hs,q⟩:=h;cases x with
 |non=>
  cases rx;cases y with
  |non=>cases ry;exact PySem.EqNone.ne_none_none (ZJ I q (by simp))
  |bl j=>cases ry;exact PySem.EqNone.ne_none_bool (ZJ I q (by simp))
  |int j=>obtain⟨t',rfl⟩:=ry;exact PySem.EqNone.ne_none_int (ZJ I q (by simp))
  |str j=>obtain⟨t',rfl⟩:=ry;exact PySem.EqNone.ne_none_str (ZJ I q (by simp))
  |_=>exact absurd (show false=true from hs) Qm
 |bl i=>
  cases rx;cases y with
  |non=>cases ry;exact PySem.EqNone.ne_bool_none (ZJ I q (by simp))
  |bl j=>cases ry;exact ne_bool (ZJ I q (congrArg not Qsx))
  |str j=>obtain⟨t',rfl⟩:=ry;exact PySem.EqMixed.ne_bool_str (ZJ I q (by simp))
  |_=>exact absurd (show false=true from hs) Qm
 |int i=>
  obtain⟨t,rfl⟩:=rx;cases y with
  |non=>cases ry;exact PySem.EqNone.ne_int_none (ZJ I q (by simp))
  |int j=>obtain⟨t',rfl⟩:=ry;exact ne_int (ZJ I q (congrArg not Qnn))
  |str j=>obtain⟨t',rfl⟩:=ry;exact PySem.EqMixed.ne_int_str (ZJ I q (by simp))
  |_=>exact absurd (show false=true from hs) Qm
 |str i=>
  obtain⟨t,rfl⟩:=rx;cases y with
  |non=>cases ry;exact PySem.EqNone.ne_str_none (ZJ I q (by simp))
  |bl j=>cases ry;exact PySem.EqMixed.ne_str_bool (ZJ I q (by simp))
  |int j=>obtain⟨t',rfl⟩:=ry;exact PySem.EqMixed.ne_str_int (ZJ I q (by simp))
  |str j=>obtain⟨t',rfl⟩:=ry;exact ne_str (ZJ I q (congrArg not Qnm))
  |_=>exact absurd (show false=true from hs) Qm
 |byt i=>
  obtain⟨t,rfl⟩:=rx;cases y with
  |byt j=>obtain⟨t',rfl⟩:=ry;exact PySem.W.ne_bytes (ZJ I q (congrArg not Qno))
  |_=>exact absurd (show false=true from hs) Qm
 |_=>cases y<;>exact absurd (show false=true from hs) Qm
theorem QpB:OpR X (compareOp .Lt) (rI0 λi j=>.bl (decide (i<j))):=QyU λ_ _ _ _ _ _ _ q=>lt_int q
theorem Quo:OpR X (compareOp .LtE) (rI0 λi j=>.bl (decide (i<=j))):=QyU λ_ _ _ _ _ _ _ q=>le_int q
theorem Quq:OpR X (compareOp .Gt) (rI0 λi j=>.bl (decide (j<i))):=QyU λ_ _ _ _ _ _ _ q=>gt_int q
theorem Qur:OpR X (compareOp .GtE) (rI0 λi j=>.bl (decide (j<=i))):=QyU λ_ _ _ _ _ _ _ q=>ge_int q
theorem OpR.or{f:Value->Value->Sem Value}{r r':R2}(h:OpR X f r)(h':OpR X f r'):OpR X f (λx y H Q=>r x y H Q∨r' x y H Q):=by
 intro pins s σ H x y v u Q I rx ry q;rcases q with q | q
 ·exact h pins s σ H x y v u Q I rx ry q
 ·exact h' pins s σ H x y v u Q I rx ry q
theorem ZA(b:QV){op:QsY}(h:op≠.In:=by decide)(h2:op≠.NotIn:=by decide):behindInMarks op b=false:=by
 have e1:(op == CmpOp.In)=false:=by cases op<;>first | rfl | exact absurd rfl h
 have e2:(op == CmpOp.NotIn)=false:=by cases op<;>first | rfl | exact absurd rfl h2
 cases b<;>simp[behindInMarks,e1,e2]
theorem QtT{op:QsY}{r:R2}(ho:OpR X (compareOp op) r)(ha:PE X a ta)(hb:PE X b tb)(hm:behindInMarks op b=false):PE X (.Compare a [op] [b] pos) (tOp r ta tb):=by
 intro pins s σ H Q I h;exact wpAny_Compare1 (QAW ha hb I h λv u s2 x y H2 I2 rx ry q=>ho pins s2 σ H2 x y v u Q I2 rx ry q) hm
def Qwk(t:TE):TT:=λσ H Q=>t σ H λx H'=>∃k,x=.bl k/\Q k H'
theorem Qgc{op:QsY}{r:R2}(ho:OpR X (compareOp op) r)(ha:PE X a ta)(hb:PE X b tb)(hm:behindInMarks op b=false):PT X (.Compare a [op] [b] pos) (Qwk (tOp r ta tb)):=by
 intro pins s σ H Q I h;refine wpAny_isTrue_Compare1 (thn (ha pins s σ H _ I h) λv s1 ⟨x,H1,I1,r1,q1⟩=>thn (hb pins s1 σ H1 _ I1 q1) λu s2 ⟨y,H2,I2,r2,q2⟩=>
  thn (ho pins s2 σ H2 x y v u _ I2 r1 r2 q2) λc s3 ⟨z,H3,I3,r3,k,e,q3⟩=>?_) hm
 subst e;cases r3;exact Zp ⟨H3,I3,q3⟩
def QrQ(r r':R2)(ta tb tc:TE):TE:=λσ H Q=>ta σ H λx H1=>tb σ H1 λy H2=>r x y H2 λz H3=>∃k,z=.bl k /\
 (if k=true then tc σ H3 λw' H4=>r' y w' H4 Q else Q (.bl false) H3)
theorem Qpc{op op':QsY}{r r':R2}(ho:OpR X (compareOp op) r)(ho':OpR X (compareOp op') r')(ha:PE X a ta)(hb:PE X b tb)(hc:PE X c tc)
  (hm:lastMarks [op,op'] [b,c]=false:=by with_unfolding_all rfl):PE X (.Compare a [op,op'] [b,c] pos) (QrQ r r' ta tb tc):=by
 intro pins s σ H Q I h;refine Compare_chain (thn (ha pins s σ H _ I h) λv s1 ⟨x,H1,I1,r1,q1⟩=>chain_link (thn (hb pins s1 σ H1 _ I1 q1) λu s2 ⟨y,H2,I2,r2,q2⟩=>
  thn (ho pins s2 σ H2 x y v u _ I2 r1 r2 q2) λd s3 ⟨z,H3,I3,r3,k,e,q3⟩=>?_)) hm
 subst e;cases r3;refine Zp ?_
 cases k with
 |false=>exact ite_ff ⟨.bl false,H3,I3,rfl,q3⟩
 |true=>exact ite_tt (chain_last (thn (hc pins s3 σ H3 _ I3 q3) λw' s4 ⟨z',H4,I4,r4,q4⟩=>ho' pins s4 σ H4 y z' u w' Q I4 r2 r4 q4))
def QAZ(K:PySem.W.Frag)(x:V)(H:Hp)(k:Bool):Prop:=
 match x with
 |.non=>k=false
 |.bl b=>k=b
 |.int i=>k=(i != 0)
 |.str y=>y.length<=sizeLine/\k=((y.length:Int) != 0)
 |.byt y=>y.size<=sizeLine/\k=((y.size:Int) != 0)
 |.ref p=>(∃xs,SqL K H p xs/\k = !xs.isEmpty)∨(∃xs,SqT K H p xs/\k = !xs.isEmpty)∨∃kvs,H p=some (.dK kvs)/\k = !kvs.isEmpty
 |_=>False
theorem QkF{κ:Type}{kvs:List (κ×V)}{vs:List (κ×Value)}(r:KV kvs vs):(!vs.isEmpty) = !kvs.isEmpty:=by
 cases r<;>rfl
theorem QfC{xs:List V}{its:List Value}(r:Vals xs its):(!its.toArray.isEmpty) = !xs.isEmpty:=by
 cases r<;>simp
theorem Qfx:(sizeLine:Nat)<2^63:=by rw[YT];decide
theorem Qwc:QCj X (λx H Q=>∃k,QAZ X.K x H k/\Q k H):=by
 intro pins s σ H x v Q I rx h;obtain⟨k,e,q⟩:=h;have hl:=Qfx;have hs:sizeLine=16777216:=YT;cases x with
 |non=>
  cases rx;have e':k=false:=e;subst e';exact truthy_none ⟨H,I,q⟩
 |bl b=>
  cases rx;have e':k=b:=e;subst e';exact Zp ⟨H,I,q⟩
 |int i=>
  obtain⟨t,rfl⟩:=rx;have e':k=(i != 0):=e;subst e';exact PySem.P.truthy_int ⟨H,I,q⟩
 |str y=>
  obtain⟨t,rfl⟩:=rx;obtain⟨hy,e'⟩:y.length<=sizeLine/\k=((y.length:Int) != 0):=e;subst e';exact PySem.P.truthy_str (by omega) ⟨H,I.tok _,q⟩
 |byt y=>
  obtain⟨t,rfl⟩:=rx;obtain⟨hy,e'⟩:y.size<=sizeLine/\k=((y.size:Int) != 0):=e;subst e';exact PySem.W.truthy_bytes (by omega) ⟨H,I.tok _,q⟩
 |ref p=>
  cases rx;have e':(∃xs,SqL X.K H p xs/\k = !xs.isEmpty)∨(∃xs,SqT X.K H p xs/\k = !xs.isEmpty)∨∃kvs,H p=some (.dK kvs)/\k = !kvs.isEmpty:=e
  rcases e' with⟨xs,hx,e'⟩ | ⟨xs,hx,e'⟩ | ⟨kvs,hx,e'⟩
  ·subst e';obtain⟨its,r,pl,hz⟩:=I.list hx;have hlen:=r.length;exact wpAny_truthy_list pl.isList (by simp only[Ql];omega) ⟨H,I.tok _,by rw[QfC r];exact q⟩
  ·subst e';obtain⟨its,r,pl,hz⟩:=I.tuple hx;have hlen:=r.length;exact truthy_tuple pl (by simp only[Ql];omega) ⟨H,I.tok _,by rw[QfC r];exact q⟩
  ·subst e';obtain⟨hz,hS,vs,r,m⟩:kvs.length<=sizeLine/\(p == sysModules)=false/\∃vs,KV kvs vs/\s.heap.DictOf (mixKind X.prog X.w) p vs:=I.hok p _ hx
   have hlen:kvs.length=vs.length:=QvD r;exact wpAny_truthy_dict hS m (by omega) ⟨H,I.tok _,by rw[QkF r];exact q⟩
 |_=>exact(show False from e).elim
theorem Qo4(ha:PE X a ta)(he:∀whole,isTrue a X.env whole=(do let v <- whole;standAt a.pos;holding [v] (truthy v))) :
  PT X a (λσ H Q=>ta σ H λx H'=>∃k,QAZ X.K x H' k/\Q k H'):=by
 intro pins s σ H Q I h;exact isTrue_plain (thn (ha pins s σ H _ I h) λv s1 ⟨x,H1,I1,r1,q1⟩=>Qwc pins s1 σ H1 x v Q I1 r1 q1) (he _)
theorem vals1{x:V}{us:List Value}(r:Vals [x] us):∃u,us=[u]/\RelV x u:=by
 cases r with
 |cons r1 r2=>cases r2;exact⟨_,rfl,r1⟩
theorem vals2{x y:V}{us:List Value}(r:Vals [x,y] us):∃u w',us=[u,w']/\RelV x u/\RelV y w':=by
 cases r with
 |cons r1 r2=>
  cases r2 with
  |cons r3 r4=>cases r4;exact⟨_,_,rfl,r1,r3⟩
theorem QnF(hc:X.calm=true):CallR X (.builtin "max") (λxs H Q=>∃i j,xs=[.int i,.int j]/\Q (.int (if j > i then j else i)) H):=by
 intro pins s σ H xs us Q I r h;obtain⟨i,j,rfl,q⟩:=h;obtain⟨u,w',rfl,⟨t,rfl⟩,⟨t',rfl⟩⟩:=vals2 r;refine max_two_ints (I.ok.hd hc) λh' tk k=>⟨_,H,I.kept k,?_,q⟩
 by_cases hj:j > i
 ·rw[if_pos hj,if_pos hj];exact⟨_,rfl⟩
 ·rw[if_neg hj,if_neg hj];exact⟨_,rfl⟩
theorem QhJ(hc:X.calm=true):CallR X (.builtin "min") (λxs H Q=>∃i j,xs=[.int i,.int j]/\Q (.int (if j<i then j else i)) H):=by
 intro pins s σ H xs us Q I r h;obtain⟨i,j,rfl,q⟩:=h;obtain⟨u,w',rfl,⟨t,rfl⟩,⟨t',rfl⟩⟩:=vals2 r;refine min_two_ints (I.ok.hd hc) λh' tk k=>⟨_,H,I.kept k,?_,q⟩
 by_cases hj:j<i
 ·rw[if_pos hj,if_pos hj];exact⟨_,rfl⟩
 ·rw[if_neg hj,if_neg hj];exact⟨_,rfl⟩
theorem QnG:CallR X (.type "int") (λxs H Q=>(∃i,xs=[.int i]/\Q (.int i) H)∨∃k,xs=[.bl k]/\Q (.int (if k then 1 else 0)) H):=by
 intro pins s σ H xs us Q I r h;rcases h with⟨i,rfl,q⟩ | ⟨k,rfl,q⟩
 ·obtain⟨u,rfl,t,rfl⟩:=vals1 r;exact call_int_int ⟨.int i,H,I,⟨_,rfl⟩,q⟩
 ·obtain⟨u,rfl,r1⟩:=vals1 r;cases r1;exact call_int_bool ⟨.int (if k then 1 else 0),H,I.tok _,⟨_,rfl⟩,q⟩
end
structure ObjM (h:Heap) (x dx C:Addr) (mA:Str->Option Value):Prop where
 obj:h.get? x=some (PySem.W.instObj C dx)
 ns:h.Ns1 dx mA
 ne:dx≠x
theorem QmW{h:Heap}{dx:Addr}{mA:Str->Option Value}(n:h.Ns1 dx mA):∃od,h.get? dx=some od/\∀name,PySem.W.lookIn name od=some (mA name):=by
 obtain⟨o,es,ep,ho,hd,hk,_,hm⟩:=n;refine⟨o,ho,λname=>?_⟩;have e:=hm name;unfold nsFind findBy at e;rw[<- Array.find?_toList] at e;unfold PySem.W.lookIn;rw[hd]
 dsimp only
 split
 ·rename_i y q
  rw[q] at e;exact congrArg some e
 ·rename_i q
  rw[q] at e;have a:es.toList.any (·.refKey)=false:=by
   rw[List.any_eq_false];intro y hy;obtain⟨z,t,hkey⟩:=hk y (Qk8.mp hy);simp[DictEntry.refKey,hkey]
  have a':¬es.toList.any (·.refKey)=true:=by rw[a];exact Qm
  rw[if_neg a'];exact congrArg some e
theorem ObjM.look{h:Heap}{x dx C:Addr}{mA:Str->Option Value}(I:ObjM h x dx C mA):∃od,PySem.W.InstAt h x (PySem.W.instObj C dx) C (some od)/\∀name,PySem.W.lookIn name od=some (mA name):=
 let ⟨od,ho,hl⟩:=QmW I.ns
 ⟨od,⟨I.obj,rfl,rfl,ho⟩,hl⟩
section
variable{prog:QF}{w:Jk}{A:Q9}{E:Value->Shared->Prop}{s:Shared}{K:PySem.W.Frag}{x dx C f:Addr}{mA:Str->Option Value}{name:Str}{v:Value}
end
section
variable{P:QF}{w:Jk}{H H':Hp}{h h':Heap}{a C dx:Addr}{fs fs':List (Str×V)}
theorem Qu2(hok:HOk P w H h)(e:H a=some (.ins C dx fs)):∃mA,ObjM h a dx C mA/\(∀f,QA0 (fs.lookup f) (mA f))/\PySem.Within mA (fs.map (·.1))/\fs.length<=1000/\H dx=some (.own a):=by
 obtain⟨d,z,ne,ob,mA,n,r,q⟩:=(show ObjOk P w H h a (.ins C dx fs) from hok a _ e);exact⟨mA,⟨ob,n,ne⟩,r,q,z,d⟩
end
structure Cls (K:PySem.W.Frag) (C:Addr):Prop where
 pg:PySem.W.plainGet K C Str.empty=true
 hd:PySem.W.hasDictIn K C=true
 po:PySem.W.plainOver K C=true
 sa:PySem.W.findIn K (.ref C) "__setattr__" = some (some (.builtin "object.__setattr__"))
theorem Cls.get{K:PySem.W.Frag}{C:Addr}(c:Cls K C)(f:Str):PySem.W.plainGet K C f=true:=c.pg
section
variable{X:Cx}{pins:List (Addr×Obj)}{σ:St}{H:Hp}{s:Shared}{a C dx:Addr}{fs:List (Str×V)}{f:Str}{v:V}{A:Q9}{E:Value->Shared->Prop}
end
section
variable{X:Cx}{o e value:QV}{f:Str}{pos pos' tpos:Pos}{ta tv:TE}
def rAdd:V->V->Hp->VK->Prop:=λx y H Q=>∃i j,x=.int i/\y=.int j/\Q (.int (i+j)) H
end
section
variable{X:Cx}{pins:List (Addr×Obj)}{σ:St}{H:Hp}{s:Shared}{A:Q9}{E:Value->Shared->Prop}{Q:Value->Shared->Prop}{c:Value}{b:Bool}
inductive TyOf (K:PySem.W.Frag) (H:Hp):V->Value->Prop where
 |non:TyOf K H .non (.type "NoneType")
 |bl (x:Bool):TyOf K H (.bl x) (.type "bool")
 |int (i:Int):TyOf K H (.int i) (.type "int")
 |str (x:Str):TyOf K H (.str x) (.type "str")
 |flt (x:UInt64):TyOf K H (.flt x) (.type "float")
 |lst {a:Addr} {xs:List V} (e:H a=some (.lst xs)):TyOf K H (.ref a) (.type "list")
 |frz {a:Addr} {o:Obj} {xs:List V} (e:H a=some (.frz o (.lst xs))):TyOf K H (.ref a) (.type "list")
 |tup {a:Addr} {xs:List V} (e:H a=some (.tup xs)):TyOf K H (.ref a) (.type "tuple")
 |dK {a:Addr} {kvs:List (Key×V)} (e:H a=some (.dK kvs)):TyOf K H (.ref a) (.type "dict")
 |dT {a:Addr} {kvs:List (List Key×V)} (e:H a=some (.dT kvs)):TyOf K H (.ref a) (.type "dict")
 |ins {a C dx:Addr} {fs:List (Str×V)} (e:H a=some (.ins C dx fs)) (cl:Cls K C) (ha:PySem.W.findIn K (.ref C) "__class__" = some (some (.builtin "object.__class__")))
   (hn:PySem.W.specialIn K (.builtin "object.__class__") "__get__" = some (some (.builtin "getset_descriptor.__get__"))) (htk:PySem.W.takesIn K (.builtin "object.__class__")=some true)
   (hm:PySem.W.mroIn K C (.type "object")=some true):TyOf K H (.ref a) (.ref C)
theorem Qm4{x:V}{u t:Value}(I:Inv X pins σ H s)(rx:RelV x u)(ty:TyOf X.K H x t)(e:PySem.W.kitOne X.K t c=some b)(h:∀tk,Q (.bool b) { s with toks:=tk }) :
  wpAny (model X.prog X.w) A (call (.builtin "isinstance") [u,c]) Q E s:=by
 cases ty with
 |non=>cases(show u=Jz from rx);exact PySem.W.kia_one PySem.W.kitx_none I.kIn Qbt e (λz=>nomatch z) h
 |bl y=>cases(show u=Qbq y from rx);exact PySem.W.kia_one PySem.W.kitx_bool I.kIn Qbt e (λz=>nomatch z) h
 |int i=>obtain⟨t,q⟩:=(show ∃t,u=Yw i t from rx);cases q;exact PySem.W.kia_one PySem.W.kitx_int I.kIn Qbt e (λz=>nomatch z) h
 |str y=>obtain⟨t,q⟩:=(show ∃t,u=QsN y t from rx);cases q;exact PySem.W.kia_one PySem.W.kitx_str I.kIn Qbt e (λz=>nomatch z) h
 |flt y=>obtain⟨t,q⟩:=(show ∃t,u=Qze y t from rx);cases q;exact PySem.W.kia_one PySem.W.kitx_float I.kIn Qbt e (λz=>nomatch z) h
 |@lst a xs ea=>
  cases(show u=J7 a from rx);obtain⟨_,_,n,_,h1⟩:=(show ObjOk X.prog X.w H s.heap a (.lst xs) from I.hok a _ ea);exact PySem.W.kia_one PySem.W.kitx_list I.kIn ⟨_,h1,rfl⟩ e (λz=>nomatch z) h
 |@frz a ob xs ea=>
  cases(show u=J7 a from rx);obtain⟨_,_,_,n,_,h1⟩:=(show ObjOk X.prog X.w H s.heap a (.frz ob (.lst xs)) from I.hok a _ ea);exact PySem.W.kia_one PySem.W.kitx_list I.kIn ⟨_,h1,rfl⟩ e (λz=>nomatch z) h
 |@tup a xs ea=>
  cases(show u=J7 a from rx);obtain⟨_,_,_,p⟩:=(show ObjOk X.prog X.w H s.heap a (.tup xs) from I.hok a _ ea);obtain⟨o,h1,h2,_⟩:=p;exact PySem.W.kia_one PySem.W.kitx_tuple I.kIn ⟨o,h1,h2⟩ e (λz=>nomatch z) h
 |@dK a kvs ea=>
  cases(show u=J7 a from rx);obtain⟨_,_,vs,_,p⟩:=(show ObjOk X.prog X.w H s.heap a (.dK kvs) from I.hok a _ ea);obtain⟨o,es,ep,h1,h2,_⟩:=p;exact PySem.W.kia_one PySem.W.kitx_dict I.kIn ⟨o,h1,h2.1⟩ e (λz=>nomatch z) h
 |@dT a kvs ea=>
  cases(show u=J7 a from rx);obtain⟨_,_,xs,_,o,es,ep,h1,h2,_⟩:=(show ObjOk X.prog X.w H s.heap a (.dT kvs) from I.hok a _ ea);exact PySem.W.kia_one PySem.W.kitx_dict I.kIn ⟨o,h1,h2.1⟩ e (λz=>nomatch z) h
 |@ins a C dx fs ea cl ha hn htk hm=>
  cases(show u=J7 a from rx);obtain⟨mA,O,_⟩:=Qu2 I.hok ea;obtain⟨od,J,_⟩:=O.look;exact PySem.W.kia_one (PySem.W.kitx_own (cl.get _) cl.hd ha hn htk hm) I.kIn J e (λz=>nomatch z) h
end
structure Room (k:Nat) (A:Q9):Prop where
 hd:A.handled=none
 dp:A.depth+3*k+5<recursionLimit
 un:A.units+16*k+200<cLine
theorem Room.mono{j k:Nat}{A:Q9}(r:Room k A)(h:j<=k):Room j A:=⟨r.hd,by have:=r.dp;omega,by have:=r.un;omega⟩
theorem Room.deeper{k:Nat}{A:Q9}(r:Room (k+1) A)(env:Env):Room k (A.deeper env):=
 ⟨r.hd,by have:=r.dp;show A.depth+1+3*k+5<_;omega,by have:=r.un;show A.units+3+16*k+200<_;omega⟩
theorem Room.in1{k:Nat}{A:Q9}(r:Room (k+1) A):Room k A.in1:=
 ⟨r.hd,by have:=r.dp;show A.depth+3*k+5<_;omega,by have:=r.un;show A.units+1+16*k+200<_;omega⟩
theorem Room.depth{k:Nat}{A:Q9}(r:Room k A):A.depth<recursionLimit:=by have:=r.dp;omega
theorem Room.units{k:Nat}{A:Q9}(r:Room k A):A.units+64<cLine:=by have:=r.un;omega
def Qtd:TA:=λ_ H Q=>Q [] H
def Qe5(ta:TE)(tr:TA):TA:=λσ H Q=>ta σ H λx H1=>tr σ H1 λxs H2=>Q (x::xs) H2
section
variable{X:Cx}{e:QV}{es:List QV}{te:TE}{t:TA}{pos:Pos}
theorem ZN:PA X [] Qtd:=λ_ _ _ _ H Q I h=>Calls.spliced_nil ⟨[],H,I,.nil,h⟩
theorem QbG(ha:PE X e te)(hr:PA X es t)(hs:starEach (e::es) X.env=(false,eval e X.env)::starEach es X.env:=by rfl):PA X (e::es) (Qe5 te t):=by
 intro pos pins s σ H Q I h;rw[hs];show wpAny _ _ (spliced ((false,eval e X.env)::backTo pos (starEach es X.env))) _ _ s;refine Calls.spliced_cons (thn (ha pins s σ H _ I h) λu s1 ⟨x,H1,I1,r1,q1⟩=>?_);exact thn (hr pos pins s1 σ H1 _ I1 q1) λus s2 ⟨xs,H2,I2,r2,q2⟩=>⟨x::xs,H2,I2,.cons r1 r2,q2⟩
def QBW(t:TA):TE:=λσ H Q=>t σ H λxs H1=>xs.length<=sizeLine/\∀p,H1 p=none->Q (.ref p) (upd H1 p (.lst xs))
theorem Qsa(h:PA X es t):PE X (.List es pos) (QBW t):=by
 intro pins s σ H Q I hq;refine QyI (thn (h pos pins s σ H _ I hq) λus s1 ⟨xs,H1,I1,r,z,q⟩=>⟨by rw[<- r.length];exact z,?_⟩);have hf:H1 s1.heap.objs.size=none:=I1.hok.fresh (Qg _);refine⟨.ref s1.heap.objs.size,upd H1 s1.heap.objs.size (.lst xs),I1.laid (t':=s1.toks) (λb u e=>Qe _ e) (Qg _) ?_,rfl,q _ hf⟩;exact⟨z,us,0,r,Qr _ rfl⟩
end
abbrev Sp:=List V->Hp->VK->XK->Prop
abbrev CXT:=List Env->Hp->Shared->XK->Value->Shared->Prop
structure Env0 (P:QF) (w:Jk) (K:PySem.W.Frag) (mg:Str->Option Value) (base:Heap) (A:Q9) (outer:List Env) (s:Shared) (H:Hp):Prop where
 frames:A.frames=some outer
 mod:Mod K mg base
 bs:∀b o,base.get? b=some o->s.heap.get? b=some o/\H b=none
 bsz:base.objs.size<=s.heap.objs.size
 funs:s.heap.FunFrames base outer
 frf:∀b∈frs outer,H b=none
 hok:HOk P w H s.heap
 bare:Qe4 s.gens
def CE(outer:List Env)(P:QF)(w:Jk)(H:Hp)(s:Shared)(Q:VK)(u:Value)(s':Shared):Prop:=
 ∃v H',s'.os=s.os/\Qe4 s'.gens/\Un (frs outer) [] H H' s.heap s'.heap/\HOk P w H' s'.heap/\RelV v u/\Q v H'
def CR(CX:CXT)(outer:List Env)(P:QF)(w:Jk)(H:Hp)(s:Shared)(Q:VK)(E:XK)(r:Qj5)(s':Shared):Prop:=
 match r with
 |.ok (.ret u)=>CE outer P w H s Q u s'
 |.ok _=>False
 |.error e=>CX outer H s E e s'
structure FnOk (P:QF) (w:Jk) (K:PySem.W.Frag) (mg:Str->Option Value) (base:Heap) (CX:CXT) (k:Nat) (f:Addr) (fd:QM) (ps:List Str) (sp:Sp):Prop where
 len:∀vs H Q E,sp vs H Q E->vs.length=ps.length
 run:∀(A:Q9)(outer:List Env)(s:Shared)(H:Hp)(args:Args)(us:List Value)(vs:List V)(Q:VK)(E:XK),Room k A->Env0 P w K mg base A outer s H->Qox s fd args (ps.zip us)->Vals vs us->sp vs H Q E ->
  codeAny (model P w) A (.call (.ref f) args) (CR CX outer P w H s Q E) s
theorem FnOk.imp{P:QF}{w:Jk}{K:PySem.W.Frag}{mg:Str->Option Value}{base:Heap}{CX:CXT}{k:Nat}{f:Addr}{fd:QM}{ps:List Str}{sp sp':Sp}(F:FnOk P w K mg base CX k f fd ps sp)
  (h:∀vs H Q E,sp' vs H Q E->sp vs H Q E):FnOk P w K mg base CX k f fd ps sp':=
 ⟨λvs H Q E q=>F.len vs H Q E (h _ _ _ _ q),λA outer s H args us vs Q E hr he hb hv hs=>F.run A outer s H args us vs Q E hr he hb hv (h _ _ _ _ hs)⟩
theorem Env0.in1{P:QF}{w:Jk}{K:PySem.W.Frag}{mg:Str->Option Value}{base:Heap}{A:Q9}{outer:List Env}{s:Shared}{H:Hp}(e:Env0 P w K mg base A outer s H) :
  Env0 P w K mg base A.in1 outer s H:=⟨e.frames,e.mod,e.bs,e.bsz,e.funs,e.frf,e.hok,e.bare⟩
section
variable{X:Cx}{pins:List (Addr×Obj)}{σ:St}{H:Hp}{s s':Shared}
theorem Inv.env0(I:Inv X pins σ H s):Env0 X.prog X.w X.K X.mg X.base X.A X.stack s H:=
 ⟨I.ok.frames,I.ok.mod,I.bs,QU I.ok.bsz I.sz,I.stack,I.stkFree,I.hok,I.bare⟩
theorem Inv.after{Q:VK}{u:Value}(I:Inv X pins σ H s)(h:CE X.stack X.prog X.w H s Q u s'):EP X pins σ Q u s':=by
 obtain⟨v,H',os,bare,un,hok,r,q⟩:=h;obtain⟨hh,g,d,t,os'⟩:=s';obtain rfl:os'=s.os:=os;exact⟨v,H',I.call (h':=hh) (g':=g) (d':=d) (t':=t) (ch:=[]) un hok bare (λb z=>absurd z (by simp)),r,q⟩
end
def Qwo(sp:Sp)(dvs:List V)(E:XK)(t:TA):TE:=λσ H Q=>t σ H λvs H1=>sp (vs++dvs) H1 Q E
def Binds(K:PySem.W.Frag)(fd:QM)(ps:List Str)(ds:List Value):Prop:=
 ∀(s:Shared)(us:List Value),K.In s.heap->(us++ds).length=ps.length->Qox s fd ⟨us,[]⟩ (ps.zip (us++ds))
theorem Binds.all{K:PySem.W.Frag}{fd:QM}{ps:List Str}(h:∀us:List Value,us.length=ps.length->bindArgs fd ⟨us,[]⟩=pure (ps.zip us)):Binds K fd ps []:=λs us _ hl=>by
 rw[Zo] at hl ⊢;exact .of_eq (h us hl)
def QeW(CX:CXT)(X:Cx)(E:XK):Prop:=∀(pins:List (Addr×Obj))(σ:St)(H:Hp)(s:Shared)(e:Value)(s':Shared),Inv X pins σ H s->CX X.stack H s E e s'->X.xe e s'
section
variable{X:Cx}{CX:CXT}{k:Nat}{f C:Addr}{fd:QM}{ps:List Str}{sp:Sp}{dvs:List V}{ds:List Value}{E:XK}{x m:Str}{p pos apos:Pos}{e o:QV}{es:List QV}{ta:TE}{t:TA}
theorem QwE{pins:List (Addr×Obj)}{σ:St}{H:Hp}{s:Shared}{Q:VK}{us:List Value}{vs:List V}(F:FnOk X.prog X.w X.K X.mg X.base CX k f fd ps sp)(hr:Room k X.A)(hb:Binds X.K fd ps ds)(hd:Vals dvs ds)(hx:QeW CX X E)
  (I:Inv X pins σ H s)(r:Vals vs us)(h:sp (vs++dvs) H Q E):wpAny (model X.prog X.w) X.A (call (.ref f) us) (EP X pins σ Q) X.xe s:=by
 have r2:Vals (vs++dvs) (us++ds):=r.append hd;have hl:(us++ds).length=ps.length:=by rw[<- r2.length];exact F.len _ _ _ _ h
 refine Qy6 (QdT (F.run X.A X.stack s H ⟨us,[]⟩ (us++ds) (vs++dvs) Q E hr I.env0 (hb s us I.kIn hl) r2 h) λr s' hq=>?_);cases r with
 |error e=>exact hx pins σ H s e s' I hq
 |ok fl=>
  cases fl with
  |ret u=>exact I.after hq
  |next=>exact Zr hq
  |brk=>exact Zr hq
  |cont=>exact Zr hq
theorem Qil(F:FnOk X.prog X.w X.K X.mg X.base CX k f fd ps sp)(hr:Room k X.A)(hg:Gl X x)(hm:X.mg x=some (.ref f))(hk:PySem.W.keepIn X.K (.ref f)=true)(hb:Binds X.K fd ps ds)(hd:Vals dvs ds)(hx:QeW CX X E)
  (ha:PA X (e::es) t)(hdb:(x == ("__debug__" : Str))=false:=by decide)(he:starEach (e::es) X.env=(false,eval e X.env)::starEach es X.env:=by rfl)(hpl:(backTo pos (starEach es X.env)).any (·.1)=false:=by rfl) :
  PE X (.Call (.Name x p) (e::es) [] pos) (Qwo sp dvs E t):=by
 intro pins s σ H Q I h;refine Qau (Qm2 I hg hm ?_ hdb);refine PySem.W.callWith_K (h₀:=X.base) I.ok.mod.kin hk (thn (ha pos pins s σ H _ I h) λus s1 ⟨vs,H1,I1,r,q⟩=>⟨I1.kIn,?_⟩) he hpl;exact QwE F hr hb hd hx I1 r q
end
section
variable{X:Cx}{CX:CXT}{k:Nat}{f C:Addr}{fd:QM}{ps ks:List Str}{sp:Sp}{E:XK}{x m:Str}{p pos apos kpos:Pos}{e o:QV}{es:List QV}{kws:List QcS}{te ta:TE}{t tk:TA}{nm:Option Str}
variable{g:List Value->List Value->List Value}{gV:List V->List V->List V}
end
structure Jm (N P:List Str) (sc:Y0):Prop where
 kind:sc.kind=.function
 co:sc.isCoroutine=false
 gen:sc.isGenerator=false
 nd:N.Nodup
 pre:N.take P.length=P
 par:∀x∈P,sc.names.lookup x=some .local∨sc.names.lookup x=some .cell
 nofree:∀y∈sc.names,y.2≠.free
theorem QhM{kindOf:Str->Option QaR}{x:Str}:∀{binds:List (Str×Value)}{m:Str->Option Value},(∀v,(x,v)∉binds)->bindL kindOf binds m x=m x
 |[],_,_=>rfl
 |(n,v)::r,m,h=>by
  unfold bindL;rw[QhM λw hw=>h w (J4 _ hw)];split
  ·have:x≠n:=by rintro rfl;exact h v ZR
   simp[this]
  ·rfl
theorem QhO{kindOf:Str->Option QaR}{x:Str}:∀{binds:List (Str×Value)}{m:Str->Option Value},(∀v,(x,v)∉binds)->bindC kindOf binds m x=m x
 |[],_,_=>rfl
 |(n,v)::r,m,h=>by
  unfold bindC;rw[QhO λw hw=>h w (J4 _ hw)];split
  ·rfl
  ·have:x≠n:=by rintro rfl;exact h v ZR
   simp[this]
theorem QhN{kindOf:Str->Option QaR}{x:Str}{v:Value}:∀{P:List Str}{vs:List Value}{i:Nat}{m:Str->Option Value},P.Nodup->P[i]? = some x->vs[i]? = some v->kindOf x=some .local ->
  bindL kindOf (P.zip vs) m x=some v
 |[],_,_,_,_,h,_,_=>by simp at h
 |_::_,[],_,_,_,_,h,_=>by simp at h
 |p::P,w::vs,0,m,nd,h1,h2,hk=>by
  simp at h1 h2;subst h1;subst h2;show bindL kindOf ((p,w)::P.zip vs) m p=_;unfold bindL;rw[QhM λv hv=>(JO.mp nd).1 (QgK hv).1,if_pos hk];simp
 |p::P,w::vs,i+1,m,nd,h1,h2,hk=>by
  show bindL kindOf ((p,w)::P.zip vs) m x=_;unfold bindL;exact QhN (i:=i) (JO.mp nd).2 (by simpa using h1) (by simpa using h2) hk
theorem QhP{kindOf:Str->Option QaR}{x:Str}{v:Value}:∀{P:List Str}{vs:List Value}{i:Nat}{m:Str->Option Value},P.Nodup->P[i]? = some x->vs[i]? = some v->kindOf x≠some .local ->
  bindC kindOf (P.zip vs) m x=some v
 |[],_,_,_,_,h,_,_=>by simp at h
 |_::_,[],_,_,_,_,h,_=>by simp at h
 |p::P,w::vs,0,m,nd,h1,h2,hk=>by
  simp at h1 h2;subst h1;subst h2;show bindC kindOf ((p,w)::P.zip vs) m p=_;unfold bindC;rw[QhO λv hv=>(JO.mp nd).1 (QgK hv).1,if_neg hk];simp
 |p::P,w::vs,i+1,m,nd,h1,h2,hk=>by
  show bindC kindOf ((p,w)::P.zip vs) m x=_;unfold bindC;exact QhP (i:=i) (JO.mp nd).2 (by simpa using h1) (by simpa using h2) hk
def start(N:List Str)(vs:List V):St:=vs.map some++Ji (N.length - vs.length) none
def Qoi(CX:CXT)(P:QF)(w:Jk)(K:PySem.W.Frag)(mg:Str->Option Value)(base:Heap)(N:List Str)(qual:Str)(scope:Y0)(f:Addr)(cd:Value)(A:Q9)(outer:List Env)(s:Shared)(H:Hp)(E:XK):Cx where
 prog:=P
 w:=w
 K:=K
 mg:=mg
 base:=base
 A:=A.deeper (envOfC qual scope s.heap.objs.size f cd)
 N:=N
 s₀:=s
 H₀:=H
 env:=envOfC qual scope s.heap.objs.size f cd
 outer:=outer
 stack:=envOfC qual scope s.heap.objs.size f cd::outer
 ex:=[]
 calm:=true
 fn:=λ_=>true
 pn:=[]
 xe:=λe s'=>wpAny (model P w) (A.deeper (envOfC qual scope s.heap.objs.size f cd)) (leaving (envOfC qual scope s.heap.objs.size f cd) e) (λ_ s''=>CX outer H s E e s'') (λe' s''=>CX outer H s E e' s'') s'
theorem QjZ{sc:Y0}{n:Nat}{x:Str}(h:sc.names.lookup x=some .cell):∃c,(cellsFrom n sc.names []).lookup x=some c:=by
 have q:=PySem.W.cellsFrom_some sc.names n [] (.inl h);exact Option.isSome_iff_exists.mp q
theorem Qm5{CX:CXT}{P:QF}{w:Jk}{K:PySem.W.Frag}{mg:Str->Option Value}{base:Heap}{N ps:List Str}{qual:Str}{scope:Y0}{f:Addr}{cd:Value}{A:Q9}{outer:List Env}{s s1:Shared}{H:Hp}{E:XK}{us:List Value}{vs:List V}
  (S:Jm N ps scope)(hd:A.handled=none)(e0:Env0 P w K mg base A outer s H)(hl:vs.length=ps.length)(r:Vals vs us)
  (x:InCallC s s.heap.objs.size (bindL (envOfC qual scope s.heap.objs.size f cd).kindOf (ps.zip us) λ_=>none) (cellsFrom (s.heap.objs.size+1) scope.names []) (bindC (envOfC qual scope s.heap.objs.size f cd).kindOf (ps.zip us) λ_=>none) s1) :
  Inv (Qoi CX P w K mg base N qual scope f cd A outer s H E) [] (start N vs) H s1:=by
 have hpl:ps.length<=N.length:=by have:=congrArg List.length S.pre;rw[QaK] at this;omega
 obtain⟨h1,tk,rfl,hk⟩:=x.done;have noA:∀b:Addr,b∉(Qoi CX P w K mg base N qual scope f cd A outer s H E).ex:=λb z=>absurd (show b∈([]:List Addr) from z) (by simp)
 refine⟨⟨e0.mod,S.kind,rfl,rfl,Qg _,λy z c h1 h2=>?_,λy hy=>?_,λy c _ h=>?_,λ_=>hd,Around.frames_deeper e0.frames,.inr ⟨rfl,rfl⟩,λb z=>absurd z (noA b),e0.bs,e0.bsz,λb _ _=>noA b,λb z=>absurd z (noA b),e0.funs,e0.frf⟩,
  rfl,e0.bare,Un.kept hk,⟨_,x.toInCall.ns,λi y v h1 h2 h3=>?_⟩,λy c h=>⟨_,x.cell y c h⟩,e0.hok.fresh (Qg _),λy c h=>?_,λp hp=>absurd (show p∈([]:List (Addr×Obj)) from hp) (by simp),e0.hok.kept hk,?_⟩
 ·exact name_of_addr x.apart (PySem.mem_of_lookup h1) (PySem.mem_of_lookup h2)
 ·have hy:scope.names.lookup y=some .cell∨scope.names.lookup y=some .free:=hy;rcases hy with hy | hy
  ·exact QjZ hy
  ·exact absurd rfl (S.nofree _ (PySem.mem_of_lookup hy))
 ·exact Zq (x.above y c (PySem.mem_of_lookup h))
 ·have hi:i<vs.length:=by
   unfold start at h2;by_cases hi:i<vs.length
   ·exact hi
   ·rw[YK (by simpa using hi)] at h2;rw[Yh] at h2;split at h2<;>cases h2
  have ha:vs[i]? = some v:=by
   unfold start at h2;rw[YX (by simpa using hi),Qv] at h2;cases e:vs[i]? with
   |none=>rw[e] at h2;cases h2
   |some a=>rw[e] at h2;cases h2;rfl
  obtain⟨u,hu,rv⟩:=r.get ha;have hp:ps[i]? = some y:=by
   rw[<- S.pre,List.getElem?_take_of_lt (by omega)];exact h1
  have ndP:ps.Nodup:=by rw[<- S.pre];exact S.nd.sublist (List.take_sublist _ _)
  refine⟨u,rv,?_⟩;rcases S.par y (Ja hp) with k | k
  ·exact .inl ⟨k,QhN ndP hp hu k⟩
  ·obtain⟨c,e⟩:=QjZ (n:=s.heap.objs.size+1) k;refine .inr ⟨.inl k,c,e,?_⟩;have q:=x.cell y c e;rw[QhP ndP hp hu (by show scope.names.lookup y≠_;rw[k];decide)] at q;exact q
 ·exact e0.hok.fresh (Zq (x.above y c (PySem.mem_of_lookup h)))
 ·unfold start;show _=N.length;rw[Qu,Qd,QaB];omega
theorem QAL{CX:CXT}{P:QF}{w:Jk}{K:PySem.W.Frag}{mg:Str->Option Value}{base:Heap}{k:Nat}{f:Addr}{name qual:Str}{params:Arguments}{body:List ZY}{scope:Y0}{dV kV doc pm cdv ct oc:Value}{an od:Option Addr}
  {osl:Array (Option Value)} {N ps:List Str} {sp:Sp} (lk:K.lookup f=some ⟨oc,od,.func (PySem.W.fnOf name qual params body scope dV kV doc pm an cdv ct),osl⟩) (hcd:PySem.W.codeIn K cdv qual=true) (S:Jm N ps scope)
  (len:∀vs H Q E,sp vs H Q E->vs.length=ps.length)
  (hbody:∀(A:Q9)(outer:List Env)(s:Shared)(H:Hp)(vs:List V)(Q:VK)(E:XK),Room k (A.deeper (envOfC qual scope s.heap.objs.size f cdv))->sp vs H Q E ->
   ∃t,PSs (Qoi CX P w K mg base N qual scope f cdv A outer s H E) body t/\t { nx:=λ_ H'=>Q .non H',rt:=Q } (start N vs) H) :
  FnOk P w K mg base CX (k+1) f (PySem.W.fnOf name qual params body scope dV kV doc pm an cdv ct) ps sp:=by
 refine⟨len,λA outer s H args us vs Q E hr e0 hb r hsp=>?_⟩;have hl:=len _ _ _ _ hsp;have KX:K.In s.heap:=e0.mod.kin.keeps λb o e=>(e0.bs b o e).1
 have lim:s.heap.NoLimit:=e0.mod.nolimit.keeps λb o e=>(e0.bs b o e).1
 have hkind:∀y∈ps.zip us,scope.names.lookup y.1=some .local∨(scope.names.lookup y.1=some .cell/\((cellsFrom (s.heap.objs.size+1) scope.names []).lookup y.1).isSome=true):=λ⟨n,v⟩ hy=>by
  rcases S.par n (QgK hy).1 with q | q
  ·exact .inl q
  ·exact .inr ⟨q,PySem.W.cellsFrom_some _ _ _ (.inl q)⟩
 refine codeAny_call_function hr.depth (KX _ _ lk) rfl S.co S.gen rfl (PySem.W.codeRec_of KX hcd) (hb _ _ _ _ ?_);refine wpAny_newFunctionEnv_cells S.kind hkind λenv he s1 x=>?_
 subst he;refine⟨lim.keeps x.toInCall.keep,codeAny_func ?_⟩;obtain⟨t,ht,hq⟩:=hbody A outer s H vs Q E (hr.deeper _) hsp;have I:Inv (Qoi CX P w K mg base N qual scope f cdv A outer s H E) [] (start N vs) H s1:=Qm5 S hr.hd e0 hl r x;refine wpAny_mono (ht [] s1 (start N vs) H _ I hq) (λfl s' hs=>?_) λe s' hs=>hs
 have fin:∀{σ':St}{H':Hp}{v:V}{u:Value},Inv (Qoi CX P w K mg base N qual scope f cdv A outer s H E) [] σ' H' s'->RelV v u->Q v H'->CE outer P w H s Q u s':=
  λ{σ' H' v u} J rv q=>⟨v,H',J.os,J.bare,J.base,J.hok,rv,q⟩
 cases fl with
 |ret u=>
  obtain⟨v,σ',H',J,rv,q⟩:=hs;exact fin J rv q
 |next=>
  obtain⟨σ',H',J,q⟩:=hs;exact fin (v:=V.non) (u:=Jz) J rfl q
 |brk=>
  obtain⟨_,_,_,q⟩:=hs;exact Zr q
 |cont=>
  obtain⟨_,_,_,q⟩:=hs;exact Zr q
section
variable{X:Cx}{x:Str}{p pos:Pos}{e:QV}{es:List QV}{t:TA}{id T:String}{r:List V->Hp->VK->Prop}
def tCB(r:List V->Hp->VK->Prop)(t:TA):TE:=λσ H Q=>t σ H λvs H1=>r vs H1 Q
theorem QbX(hc:CallR X (.builtin id) r)(hg:Gl X x)(hm:X.mg x=none)(hv:bootBuiltins x=some (.builtin id))(ha:PA X (e::es) t)(hn:x ≠ "__name__" := by decide)(hdb:(x == ("__debug__" : Str))=false:=by decide)
  (he:starEach (e::es) X.env=(false,eval e X.env)::starEach es X.env:=by rfl)(hpl:(backTo pos (starEach es X.env)).any (·.1)=false:=by rfl):PE X (.Call (.Name x p) (e::es) [] pos) (tCB r t):=by
 intro pins s σ H Q I h;refine Qau (QbJ I hg hm hv ?_ hn hdb);exact PyProof.Rows.callWith_builtin1 (thn (ha pos pins s σ H _ I h) λus s1 ⟨vs,H1,I1,r1,q1⟩=>hc pins s1 σ H1 vs us Q I1 r1 q1) he hpl
theorem QcZ(hc:CallR X (.type T) r)(hg:Gl X x)(hm:X.mg x=none)(hv:bootBuiltins x=some (.type T))(ha:PA X (e::es) t)(hn:x ≠ "__name__" := by decide)(hdb:(x == ("__debug__" : Str))=false:=by decide)
  (he:starEach (e::es) X.env=(false,eval e X.env)::starEach es X.env:=by rfl)(hpl:(backTo pos (starEach es X.env)).any (·.1)=false:=by rfl):PE X (.Call (.Name x p) (e::es) [] pos) (tCB r t):=by
 intro pins s σ H Q I h;refine Qau (QbJ I hg hm hv ?_ hn hdb);exact JD (thn (ha pos pins s σ H _ I h) λus s1 ⟨vs,H1,I1,r1,q1⟩=>hc pins s1 σ H1 vs us Q I1 r1 q1) he hpl
end
end L2
namespace HT
theorem Qjd(A:Q9)(s:Shared)(a:Int)(t:Tok)(c:Int)(u:Tok)(prog:QF)(w:Jk)(E:Value->Shared->Prop)(Q:Value->Shared->Prop)(h:Q (.bool (decide (a<c))) s) :
  wpAny (model prog w) A (richCompare .Lt (.int a t) (.int c u)) Q E s:=
 (PyProof.Rows.lt_int h:wpAny (model prog w) A (compareOp .Lt (.int a t) (.int c u)) Q E s)
section
open PySem.SeqAt
open PySem.AutoSeq1 (wpAny_loadPart')
open PySem.MeetsSeq PySem.MeetsSeq2 PySem.MeetsSeq3
end
section
variable{prog:QF}{w:Jk}{A:Q9}{E:Value->Shared->Prop}{s:Shared}
theorem Qvu{t b:Addr}{vs ws:List Value}{Q:Value->Shared->Prop}(ht:IsTup s.heap t vs.toArray)(hb:IsTup s.heap b ws.toArray)(hv:vs≠[])
  (h1:ws=[]->Q (.ref t) s)(h2:ws≠[]->Q (.ref s.heap.objs.size) { s with heap:=s.heap.push { cls:=.type "tuple",data:=.seq (vs++ws).toArray } })
  (hsz:vs.length+ws.length<=sizeLine):wpAny (model prog w) A (binaryOp .Add (.ref t) (.ref b)) Q E s:=by
 obtain⟨⟨cls,dd,data,sl⟩,ho,hc,n,hd⟩:=id ht;obtain⟨⟨cls2,dd2,data2,sl2⟩,ho2,hc2,n2,hd2⟩:=id hb;simp only at hc hd hc2 hd2;subst hc hd hc2 hd2;have e:vs.toArray++ws.toArray=(vs++ws).toArray:=by simp
 by_cases hw:ws=[]
 ·exact QsM ⟨_,ho,rfl⟩ ⟨_,ho2,rfl⟩ Qh2 Qon PySem.F.slot_tuple_add PySem.F.entry_tuple_add (PySem.F.args_tuple_add_2 _ _)
   (tuple_addW1 t b vs.toArray ws.toArray n n2 dd dd2 sl sl2 (by simpa using hv) (by simp[hw])) ⟨ho,ho2,h1 hw⟩
 ·refine QsM ⟨_,ho,rfl⟩ ⟨_,ho2,rfl⟩ Qh2 Qon PySem.F.slot_tuple_add PySem.F.entry_tuple_add (PySem.F.args_tuple_add_2 _ _)
   (tuple_addW2 t b vs.toArray ws.toArray n n2 dd dd2 sl sl2 (by simpa using hv) (by simpa using hw) (by rw[Ql,Ql];exact hsz)) ⟨ho,ho2,?_⟩
  rw[e];exact h2 hw
def sIx(n d:Nat):Option Int->Nat
 |none=>d
 |some v=>if v<0 then(v+(n:Int)).toNat else min v.toNat n
theorem Qd7(n d:Nat):sIx n d none=d:=rfl
theorem Qif(n d k:Nat):sIx n d (some (k:Int))=min k n:=by
 show(if(k:Int)<0 then((k:Int)+(n:Int)).toNat else min (k:Int).toNat n)=min k n;rw[if_neg (by omega),QH]
theorem QwD(n d:Nat)(hd:d<=n)(o:Option Int):sIx n d o<=n:=by
 cases o with
 |none=>exact hd
 |some v=>
  show(if v<0 then(v+(n:Int)).toNat else min v.toNat n)<=n;by_cases hv:v<0
  ·rw[if_pos hv];omega
  ·rw[if_neg hv];exact QfQ _ _
theorem Qnz(v:Int)(n d:Nat):(if v<0 then max (v+(n:Int)) 0 else min v (n:Int))=((sIx n d (some v):Nat):Int):=by
 show(if v<0 then max (v+(n:Int)) 0 else min v (n:Int))=(((if v<0 then(v+(n:Int)).toNat else min v.toNat n):Nat):Int);by_cases hv:v<0
 ·simp only[if_pos hv];omega
 ·simp only[if_neg hv];omega
theorem QkY(lo hi:Option Int)(n:Nat):QaF lo hi 1 (n:Int)=(((sIx n 0 lo:Nat):Int),((sIx n n hi:Nat):Int)):=by
 have h1:¬((1:Int)<0):=by omega
 unfold QaF;simp only[h1,if_false];refine QfO ?_ ?_
 ·cases lo with
  |none=>rfl
  |some v=>exact Qnz v n 0
 ·cases hi with
  |none=>rfl
  |some v=>exact Qnz v n n
theorem Qku(i j:Nat):Yp (i:Int) (j:Int) 1=j - i:=by
 unfold Yp;have h1:(1:Int) > 0:=by omega
 simp only[h1,if_true,Int.ediv_one];split<;>omega
theorem Qfg{v:Value}{o:Option Int}{Q:Option Int->Shared->Prop}(p:QhW v o)(h:Q o s):wpAny (model prog w) A (Qzw v) Q E s:=by
 cases p with
 |none=>exact slicePart_none h
 |int i t=>exact slicePart_int h
theorem Qbm{sl:Addr}{vl vu:Value}{lo hi:Option Int}{n:Nat}{Q:Int×Int×Nat->Shared->Prop}(hs:s.heap.IsSliceOf sl vl vu .none)(pl:QhW vl lo)(pu:QhW vu hi)
  (h:Q (((sIx n 0 lo:Nat):Int),1,sIx n n hi - sIx n 0 lo) s):wpAny (model prog w) A (QdF (.ref sl) (pure (n:Int))) Q E s:=by
 obtain⟨os,hos,hcs,hds⟩:=id hs;unfold QdF Qzx;refine wpAny_bind (wpAny_bind (J9 hos hds (x:=vl) rfl (wpAny_bind (J9 hos hds (x:=vu) rfl (wpAny_bind (J9 hos hds (x:=.none) rfl (wpAny_pure ?_)))))));refine wpAny_bind (slicePart_none ?_);show wpAny _ _ (if((1:Int) == 0)=true then _ else _) _ _ s;rw[if_neg (by decide)];refine wpAny_bind (Qfg pl (wpAny_bind (Qfg pu (wpAny_bind (wpAny_pure ?_)))));show wpAny _ _ (match QaF lo hi 1 (n:Int) with | (lo,hi)=>pure (lo,(1:Int),Yp lo hi 1)) _ _ s;rw[QkY lo hi n];show wpAny _ _ (pure (((sIx n 0 lo:Nat):Int),(1:Int),Yp ((sIx n 0 lo:Nat):Int) ((sIx n n hi:Nat):Int) 1)) _ _ s;rw[Qku];exact wpAny_pure h
theorem Qo7(xs:Array Value)(i k:Nat):((Qt k).filterMap λ(m:Nat)=>xs[((i:Int)+(m:Int)*1).toNat]?).toArray=((xs.toList.drop i).take k).toArray:=by
 have e:(λ(m:Nat)=>xs[((i:Int)+(m:Int)*1).toNat]?)=λm=>xs[i+m]? := by
  funext m
  have:((i:Int)+(m:Int)*1).toNat=i+m:=by omega
  rw[this]
 rw[e];have:=pick_run xs i k;rw[Zs] at this;have e2:((λx=>xs[x]?)∘λx=>i+x)=λm=>xs[i+m]? := rfl
 rw[e2] at this;rw[this]
theorem Qdy{t sl:Addr}{items:Array Value}{vl vu:Value}{lo hi:Option Int}{Q:Value->Shared->Prop}(ht:IsTup s.heap t items)(hs:s.heap.IsSliceOf sl vl vu .none)(pl:QhW vl lo)(pu:QhW vu hi)
  (hw:¬(sIx items.size 0 lo=0/\sIx items.size items.size hi=items.size))
  (h:Q (.ref s.heap.objs.size) { s with heap:=s.heap.push { cls:=.type "tuple",data:=.seq ((items.toList.drop (sIx items.size 0 lo)).take (sIx items.size items.size hi - sIx items.size 0 lo)).toArray } })
  (hsz:items.size<=sizeLine):wpAny (model prog w) A (getItem (.ref t) (.ref sl)) Q E s:=by
 have htake:sizeOk (.seq ((items.toList.drop (sIx items.size 0 lo)).take (sIx items.size items.size hi - sIx items.size 0 lo)).toArray):=by
  show((items.toList.drop (sIx items.size 0 lo)).take (sIx items.size items.size hi - sIx items.size 0 lo)).toArray.size<=sizeLine;rw[Ql,QaK,Qcb,Q4];omega
 have hj:sIx items.size items.size hi<=items.size:=QwD _ _ (Qg _) hi;obtain⟨os,hos,hcs,hds⟩:=id hs;have hTs:s.TypeIs (.ref sl) "slice" := ⟨os,hos,hcs⟩;unfold getItem
 try with_reducible refine JT ?_
 first | refine wpAny_bind (wpAny_pure ?_) | skip
 refine wpAny_bind (Qy4 ht.typeIs (by decide) ?_);refine wpAny_bind (J6 (name:=Y8 "__getitem__") ht.typeIs JR
  (JJ JR ht.typeIs QvS ?_ (QyJ _ _)))
 show wpAny _ _ (QdE (.ref t) >>= _) _ _ s;refine wpAny_bind (tupleItemsOf_ ht ?_);refine wpAny_bind (QdP hTs ?_);rw[if_pos (by decide)];refine wpAny_bind (Qbm hs pl pu ?_);have hno:¬((((sIx items.size 0 lo:Nat):Int) == 0&&(1:Int) == 1&&(sIx items.size items.size hi - sIx items.size 0 lo) == items.size)=true):=by
  intro q;rw[JB,JB] at q;have q1:((sIx items.size 0 lo:Nat):Int)=0:=eq_of_beq q.1.1;have q2:sIx items.size items.size hi - sIx items.size 0 lo=items.size:=eq_of_beq q.2;exact hw ⟨by omega,by omega⟩
 show wpAny _ _ (if(((sIx items.size 0 lo:Nat):Int) == 0&&(1:Int) == 1&&(sIx items.size items.size hi - sIx items.size 0 lo) == items.size)=true then _ else _) _ _ s;rw[if_neg hno,Qo7]
 first
  |exact wpAny_bind (m:=Yz _) (Jx (wpAny_pure ⟨_,rfl,wpAny_pure h⟩) htake)
  |exact wpAny_bind (m:=Yz _) (Jx (wpAny_bind (wpAny_pure (wpAny_pure ⟨_,rfl,wpAny_pure h⟩))) htake)
  |exact wpAny_bind (wpAny_bind (m:=Yz _) (Jx (wpAny_pure (wpAny_pure ⟨_,rfl,wpAny_pure h⟩)) htake))
  |exact wpAny_bind (wpAny_bind (m:=Yz _) (Jx (wpAny_pure ⟨_,rfl,wpAny_pure h⟩) htake))
end
end HT
namespace L2
abbrev TO:=St->Hp->(Option Int->Hp->Prop)->Prop
def PO(X:Cx)(e:Option QV)(t:TO):Prop:=
 ∀(pins:List (Addr×Obj))(s:Shared)(σ:St)(H:Hp)(Q:Option Int->Hp->Prop),Inv X pins σ H s->t σ H Q ->
  wpAny (model X.prog X.w) X.A (evalPart e X.env) (λu s'=>∃o H',Inv X pins σ H' s'/\QhW u o/\Q o H') X.xe s
def Qtc:TO:=λ_ H Q=>Q none H
def QzF(t:TE):TO:=λσ H Q=>t σ H λx H1=>∃i,x=.int i/\Q (some i) H1
theorem intsAre_of{ns:List Int}:∀{us:List Value},Vals (ns.map V.int) us->Qa9 us ns:=by
 induction ns with
 |nil=>intro us r;rw[Qzn] at r;cases r;exact .nil
 |cons n ns ih=>
  intro us r;rw[Js] at r;cases r with
  |cons r1 r2=>
   obtain⟨t,e⟩:=r1;subst e;exact .cons n t (ih r2)
section
variable{X:Cx}{e:QV}{te:TE}{lo hi:Option QV}{tl th:TO}{pos p2:Pos}
theorem QtL:PO X none Qtc:=by
 intro pins s σ H Q I h;rw[evalPart_none];exact wpAny_pure ⟨none,H,I,.none,h⟩
theorem QtK(h:PE X e te):PO X (some e) (QzF te):=by
 intro pins s σ H Q I hw;rw[evalPart_some];refine thn (h pins s σ H _ I hw) λu s1 ⟨x,H1,I1,r1,q1⟩=>?_
 obtain⟨i,rfl,q⟩:=q1;obtain⟨t,rfl⟩:=r1;exact⟨some i,H1,I1,.int i t,q⟩
def SlR(X:Cx)(r:V->Option Int->Option Int->Hp->VK->Prop):Prop:=
 ∀(pins:List (Addr×Obj))(s:Shared)(σ:St)(H:Hp)(x:V)(v vl vu:Value)(lo hi:Option Int)(sl:Addr)(Q:VK),Inv X pins σ H s->RelV x v->s.heap.IsSliceOf sl vl vu .none->QhW vl lo->QhW vu hi->r x lo hi H Q ->
  ∃T id,typeLookup (.type T) "__getitem__" = pure (some (.builtin id))/\s.TypeIs v T/\wpAny (model X.prog X.w) X.A (getItem v (.ref sl)) (EP X pins σ Q) X.xe s
def tSl(r:V->Option Int->Option Int->Hp->VK->Prop)(te:TE)(tl th:TO):TE:=λσ H Q=>te σ H λx H1=>tl σ H1 λl H2=>th σ H2 λu H3=>r x l u H3 Q
theorem Qo9{r:V->Option Int->Option Int->Hp->VK->Prop}(hr:SlR X r)(he:PE X e te)(hl:PO X lo tl)(hu:PO X hi th):PE X (.Subscript e (.Slice lo hi none p2) pos) (tSl r te tl th):=by
 intro pins s σ H Q I h;refine Subscript_ (thn (he pins s σ H _ I h) λv s1 ⟨x,H1,I1,r1,q1⟩=>?_);refine wpAny_Slice (thn (hl pins s1 σ H1 _ I1 q1) λvl s2 ⟨l,H2,I2,pl,q2⟩=>thn (hu pins s2 σ H2 _ I2 q2) λvu s3 ⟨u,H3,I3,pu,q3⟩=>?_);rw[evalPart_none];refine wpAny_pure ?_
 have I4:Inv X pins σ H3 { s3 with heap:=s3.heap.push { cls:=.type "slice",data:=.fields #[vl,vu,.none] } }:=I3.kept (t':=s3.toks) λb ob q=>Qe _ q
 obtain⟨T,id,hT,ht,hg⟩:=hr pins { s3 with heap:=s3.heap.push { cls:=.type "slice",data:=.fields #[vl,vu,.none] } } σ H3 x v vl vu l u s3.heap.objs.size Q I4 r1 (QyP ..) pl pu q3;show wpAny (model X.prog X.w) X.A (subscriptTail e (.Slice lo hi none p2) v (.ref s3.heap.objs.size)) (EP X pins σ Q) X.xe { s3 with heap:=s3.heap.push { cls:=.type "slice",data:=.fields #[vl,vu,.none] } };exact tail_any (ops:=[.ref s3.heap.objs.size,v]) ht hT hg (by with_unfolding_all rfl)
def QjX(xs:List V)(lo hi:Option Int):List V:=(xs.drop (HT.sIx xs.length 0 lo)).take (HT.sIx xs.length xs.length hi - HT.sIx xs.length 0 lo)
theorem QeP(xs:List V)(lo hi:Option Int):(QjX xs lo hi).length<=xs.length:=by
 unfold QjX;rw[QaK,Qcb];omega
def QBZ(K:PySem.W.Frag):V->Option Int->Option Int->Hp->VK->Prop:=λx lo hi H Q=>∃a xs,x=.ref a/\SqT K H a xs /\
 ¬(HT.sIx xs.length 0 lo=0/\HT.sIx xs.length xs.length hi=xs.length)/\∀p,H p=none->Q (.ref p) (upd H p (.tup (QjX xs lo hi)))
theorem Qwu:SlR X (QBZ X.K):=by
 intro pins s σ H x v vl vu lo hi sl Q I rx hs pl pu h;obtain⟨a,xs,rfl,hx,hw,q⟩:=h;cases rx;obtain⟨its,r,ht,hz⟩:=I.tuple hx;have hlen:its.toArray.size=xs.length:=by rw[Ql];exact r.length.symm
 refine⟨"tuple",_,JR.lookup,ht.typeIs,?_⟩;refine HT.Qdy ht hs pl pu (by rw[hlen];exact hw) ?_ (by rw[hlen];exact hz)
 rw[hlen];refine⟨.ref s.heap.objs.size,_,I.laid (t':=s.toks) (o:=.tup (QjX xs lo hi)) (λb ob q=>Qe _ q) (Qg _) ?_,rfl,q _ (I.hok.fresh (Qg _))⟩;exact⟨QU (QeP xs lo hi) hz,_,(r.drop (HT.sIx xs.length 0 lo)).take (HT.sIx xs.length xs.length hi - HT.sIx xs.length 0 lo),TupN.new _ _⟩
def QzX(K:PySem.W.Frag):R2:=λx y H Q=>∃a b xs ys,x=.ref a/\y=.ref b/\SqT K H a xs/\SqT K H b ys/\xs≠[]/\xs.length+ys.length<=sizeLine /\
 (ys=[]->Q (.ref a) H)/\(ys≠[]->∀p,H p=none->Q (.ref p) (upd H p (.tup (xs++ys))))
theorem Vals.nil_iff{xs:List V}{us:List Value}(r:Vals xs us):us=[]↔xs=[]:=by
 cases r with
 |nil=>simp
 |cons _ _=>simp
theorem Qus:OpR X (binaryOp .Add) (QzX X.K):=by
 intro pins s σ H x y v u Q I rx ry h;obtain⟨a,b,xs,ys,rfl,rfl,ha,hb,hx,hz,q1,q2⟩:=h;cases rx;cases ry;obtain⟨its,r1,p1,_⟩:=I.tuple ha;obtain⟨its2,r2,p2,_⟩:=I.tuple hb;refine HT.Qvu p1 p2 (λz=>hx (r1.nil_iff.mp z)) (λz=>⟨.ref a,H,I,rfl,q1 (r2.nil_iff.mp z)⟩) (λz=>?_) (by rw[<- r1.length,<- r2.length];exact hz);refine⟨.ref s.heap.objs.size,_,I.laid (t':=s.toks) (o:=.tup (xs++ys)) (λb ob q=>Qe _ q) (Qg _) ?_,rfl,q2 (λw=>z (r2.nil_iff.mpr w)) _ (I.hok.fresh (Qg _))⟩;exact⟨by rw[Qu];exact hz,_,r1.append r2,TupN.new _ _⟩
end
def ixN(n:Nat)(i:Int):Option Nat:=if 0<=i then(if i<n then some i.toNat else none) else if -(n:Int)<=i then some (i+n).toNat else none
def atI{α:Type}(xs:List α)(i:Int):Option α:=(ixN xs.length i).bind λj=>xs[j]?
theorem Qm3{n:Nat}{i:Int}{j:Nat}(h:ixN n i=some j):seqIndex? i n=some j/\j<n /\ -(n:Int)<=i/\i<n:=by
 unfold ixN at h;by_cases h0:0<=i
 ·rw[if_pos h0] at h;by_cases h1:i<n
  ·rw[if_pos h1] at h;have e:i.toNat=j:=QJ h;exact⟨by rw[Qj3 h0 h1,e],by omega,by omega,h1⟩
  ·rw[if_neg h1] at h;cases h
 ·rw[if_neg h0] at h;by_cases h1 : -(n:Int)<=i
  ·rw[if_pos h1] at h;have e:(i+n).toNat=j:=QJ h;exact⟨by rw[QhS (by omega) h1,e],by omega,h1,by omega⟩
  ·rw[if_neg h1] at h;cases h
theorem QiL{α:Type}{xs:List α}{i:Int}{v:α}(h:atI xs i=some v):∃j,seqIndex? i xs.length=some j/\xs[j]? = some v/\j<xs.length /\ -(xs.length:Int)<=i/\i<xs.length:=by
 unfold atI at h;cases e:ixN xs.length i with
 |none=>rw[e] at h;cases h
 |some j=>
  rw[e] at h;obtain⟨h1,h2,h3,h4⟩:=Qm3 e;exact⟨j,h1,h,h2,h3,h4⟩
theorem Jq{α:Type}{xs:List α}{j:Nat}{v:α}(h:xs[j]? = some v):atI xs (j:Int)=some v:=by
 have hj:j<xs.length:=(Jd.mp h).1;have e:ixN xs.length (j:Int)=some j:=by
  unfold ixN;rw[if_pos (by omega),if_pos (by omega)];simp
 unfold atI;rw[e];exact h
theorem Qru{α:Type}(xs:List α)(v:α):atI (xs++[v]) (-1)=some v:=by
 have hl:(xs++[v]).length=xs.length+1:=by simp
 have e:ixN (xs++[v]).length (-1)=some xs.length:=by
  unfold ixN;rw[hl,if_neg (by decide),if_pos (by omega)]
  congr 1
  omega
 unfold atI;rw[e];show(xs++[v])[xs.length]? = some v;simp
def QiO(b:QV):Prop:=∀o i,subscripted b false o i=operate [o,i] (getItem o i)
def IxR(X:Cx)(r:R2):Prop:=
 ∀(value slice:QV)(pins:List (Addr×Obj))(s:Shared)(σ:St)(H:Hp)(x y:V)(v u:Value)(Q:VK),Inv X pins σ H s->RelV x v->RelV y u->r x y H Q ->
  subscripted slice false v u=operate [v,u] (getItem v u)->wpAny (model X.prog X.w) X.A (subscriptTail value slice v u) (EP X pins σ Q) X.xe s
def MtR(X:Cx)(id:String)(r:V->List V->Hp->VK->Prop):Prop:=
 ∀(pins:List (Addr×Obj))(s:Shared)(σ:St)(H:Hp)(x:V)(xs:List V)(v:Value)(us:List Value)(Q:VK),Inv X pins σ H s->RelV x v->Vals xs us->r x xs H Q ->
  wpAny (model X.prog X.w) X.A (call (.builtin id) (v::us)) (EP X pins σ Q) X.xe s
section
variable{X:Cx}{a b:QV}{ta tb:TE}{pos:Pos}
theorem Qml{r:R2}(hr:IxR X r)(ha:PE X a ta)(hb:PE X b tb)(hs:QiO b):PE X (.Subscript a b pos) (tOp r ta tb):=by
 intro pins s σ H Q I h;exact Subscript_ (QAW ha hb I h λv u s2 x y H2 I2 rx ry q=>hr a b pins s2 σ H2 x y v u Q I2 rx ry q (hs _ _))
def QyS(K:PySem.W.Frag):R2:=λx y H Q=>∃p xs i v,x=.ref p/\y=.int i/\SqL K H p xs/\atI xs i=some v/\Q v H
def QBg(K:PySem.W.Frag):R2:=λx y H Q=>∃p xs i v,x=.ref p/\y=.int i/\SqT K H p xs/\atI xs i=some v/\Q v H
theorem Qgl:IxR X (QyS X.K):=by
 intro value slice pins s σ H x y v u Q I rx ry h hs;obtain⟨p,xs,i,z,rfl,rfl,hq,he,q⟩:=h;cases rx;obtain⟨t,rfl⟩:=ry;obtain⟨its,r,pl,hz⟩:=I.list hq;obtain⟨j,h1,h2,h3,h4,h5⟩:=QiL he;obtain⟨w,ew,rw'⟩:=r.get h2;have hl:=r.length;have hn:=Qfx;have fin:EP X pins σ Q w s:=⟨z,H,I,rw',q⟩;by_cases h0:0<=i
 ·have hj:i.toNat=j:=by
   rw[Qj3 h0 h5] at h1;exact QJ h1
  exact item_listR pl.isList h0 (by omega) (by rw[hj];simpa using ew) fin hs
 ·have hj:(i+(its.toArray.size:Int)).toNat=j:=by
   rw[QhS (by omega) h4] at h1;rw[Ql,<- hl];exact QJ h1
  exact QrB (x:=w) pl.isList.typeIs Qza.lookup
   (QrA (Q:=λr s'=>r=w/\EP X pins σ Q r s') pl.isList (by omega) (by rw[Ql]<;>omega) (by omega) (by rw[hj];simpa using ew) ⟨rfl,fin⟩) hs
theorem Qsm:IxR X (QBg X.K):=by
 intro value slice pins s σ H x y v u Q I rx ry h hs;obtain⟨p,xs,i,z,rfl,rfl,hq,he,q⟩:=h;cases rx;obtain⟨t,rfl⟩:=ry;obtain⟨its,r,pl,hz⟩:=I.tuple hq;obtain⟨j,h1,h2,h3,h4,h5⟩:=QiL he;obtain⟨w,ew,rw'⟩:=r.get h2;have hl:=r.length;have hn:=Qfx;have fin:EP X pins σ Q w s:=⟨z,H,I,rw',q⟩;exact QrB (x:=w) pl.typeIs slot_tuple_getitem.lookup
  (getItem_tuple (j:=j) (Q:=λr s'=>r=w/\EP X pins σ Q r s') pl (by omega) (by omega) (by rw[Ql,<- hl];exact h1) (by simpa using ew) ⟨rfl,fin⟩) hs
theorem QkA(its:List Value)(n j:Nat)(u:Value):Zv (·.setIfInBounds j u) { cls:=.type "list",data:=.seq its.toArray n }={ cls:=.type "list",data:=.seq (its.set j u).toArray n }:=by
 simp[Zv]
theorem Inv.lst{pins:List (Addr×Obj)}{σ:St}{H:Hp}{s:Shared}{p:Addr}{xs:List V}(I:Inv X pins σ H s)(h:H p=some (.lst xs)) :
  ∃(its:List Value)(n:Nat),Vals xs its/\s.heap.get? p=some { cls:=.type "list",data:=.seq its.toArray n }/\xs.length<=sizeLine:=by
 obtain⟨z,its,n,r,e⟩:=I.hok p _ h;exact⟨its,n,r,e,z⟩
theorem Inv.lstUpd{pins:List (Addr×Obj)}{σ:St}{H:Hp}{s:Shared}{p:Addr}{xs ys:List V}{its its':List Value}{n n':Nat}{f:Obj->Obj}(I:Inv X pins σ H s)(h:H p=some (.lst xs))
  (ho:s.heap.get? p=some { cls:=.type "list",data:=.seq its.toArray n })(hf:f { cls:=.type "list",data:=.seq its.toArray n }={ cls:=.type "list",data:=.seq its'.toArray n' })(r:Vals ys its')(hz:ys.length<=sizeLine)(t:Nat) :
  Inv X pins σ (upd H p (.lst ys)) { s with heap:=s.heap.update p f,toks:=t }:=by
 have e:(s.heap.update p f).get? p=some { cls:=.type "list",data:=.seq its'.toArray n' }:=by
  rw[JU f ho (by rw[hf]<;>rfl),hf]
 refine I.write (x:=p) (e:=p) (by rw[h];trivial) (.inl rfl) (λb u hb q=>(Zj _ _ (QaQ hb)).trans q) ⟨_,e⟩ ?_
 exact⟨hz,its',n',r,e⟩
def QwK:V->V->V->Hp->(Hp->Prop)->Prop:=λo i v H Q=>∃p xs k j,o=.ref p/\i=.int k/\H p=some (.lst xs)/\ixN xs.length k=some j/\Q (upd H p (.lst (xs.set j v)))
theorem Qja:QA1 X QwK:=by
 intro pins s σ H o i v ov iv u Q I ro ri rv h;obtain⟨p,xs,k,j,rfl,rfl,hp,hj,q⟩:=h;cases ro;obtain⟨t,rfl⟩:=ri;obtain⟨its,n,r,ho,hz⟩:=I.lst hp;obtain⟨h1,h2,h3,h4⟩:=Qm3 hj;have hl:=r.length;have hn:=Qfx;have I':Inv X pins σ (upd H p (.lst (xs.set j v))) { s with heap:=s.heap.update p (Zv (·.setIfInBounds j u)) }:=
  I.lstUpd hp ho (QkA its n j u) (r.set rv j) (by rw[Z7];exact hz) s.toks
 by_cases h0:0<=k
 ·have hk:k.toNat=j:=by
   rw[Qj3 h0 h4] at h1;exact QJ h1
  exact PySem.W.ki_setAt ho h0 (by omega) (by rw[Ql,<- hl];exact h4) (by rw[hk];exact⟨_,I',q⟩)
 ·have hk:(k+(its.toArray.size:Int)).toNat=j:=by
   rw[QhS (by omega) h3] at h1;rw[Ql,<- hl];exact QJ h1
  exact PySem.W.ki_setBack ho (by omega) (by rw[Ql,<- hl];exact h3) (by omega) (by rw[hk];exact⟨_,I',q⟩)
theorem Qg7(lo hi:Option Int)(n:Nat):(sliceBounds lo hi none n).1=((HT.sIx n 0 lo:Nat):Int)/\(sliceBounds lo hi none n).2.1=((HT.sIx n n hi:Nat):Int)/\(sliceBounds lo hi none n).2.2=1:=by
 refine⟨?_,?_,rfl⟩
 ·cases lo with
  |none=>simp[sliceBounds,HT.sIx]
  |some i=>
   simp only[sliceBounds,HT.sIx,Qor,show(1:Int) > 0 by decide,if_true];by_cases h:i<0
   ·simp only[h,if_true]<;>omega
   ·simp only[h,if_false]<;>omega
 ·cases hi with
  |none=>simp[sliceBounds,HT.sIx]
  |some i=>
   simp only[sliceBounds,HT.sIx,Qor,show(1:Int) > 0 by decide,if_true];by_cases h:i<0
   ·simp only[h,if_true]<;>omega
   ·simp only[h,if_false]<;>omega
theorem QfZ(its:List Value)(lo hi:Option Int):slicePick its.toArray lo hi none=((its.drop (HT.sIx its.length 0 lo)).take (HT.sIx its.length its.length hi - HT.sIx its.length 0 lo)).toArray:=by
 obtain⟨h1,h2,h3⟩:=Qg7 lo hi its.toArray.size;unfold slicePick;rw[h1,h2,h3];simp only[sliceRange_one,pick_run,Ql]<;>rfl
def QB0(K:PySem.W.Frag):V->Option Int->Option Int->Hp->VK->Prop:=λx lo hi H Q=>∃a xs,x=.ref a/\SqL K H a xs/\∀p,H p=none->Q (.ref p) (upd H p (.lst (QjX xs lo hi)))
theorem Qtl:SlR X (QB0 X.K):=by
 intro pins s σ H x v vl vu lo hi sl Q I rx hs pl pu h;obtain⟨a,xs,rfl,hx,q⟩:=h;cases rx;obtain⟨its,r,ht,hz⟩:=I.list hx;have hlen:=r.length;refine⟨"list",_,Qza.lookup,ht.isList.typeIs,?_⟩;refine wpAny_getItem_list_slice ht.isList hs pl pu .none (by simp) ?_ (by rw[Ql]<;>omega)
 rw[QfZ,<- hlen];refine⟨.ref s.heap.objs.size,_,I.laid (t':=s.toks) (o:=.lst (QjX xs lo hi)) (λb ob q=>Qe _ q) (Qg _) ?_,rfl,q _ (I.hok.fresh (Qg _))⟩;exact⟨QU (QeP xs lo hi) hz,_,0,(r.drop (HT.sIx xs.length 0 lo)).take (HT.sIx xs.length xs.length hi - HT.sIx xs.length 0 lo),Qr _ rfl⟩
def Qgp:V->Bool
 |.non=>true
 |.bl _=>true
 |.int _=>true
 |.str _=>true
 |_=>false
def eqV:V->V->Bool
 |.non,.non=>true
 |.bl a,.bl b=>a == b
 |.bl a,.int b=>(if a then 1 else 0) == b
 |.int a,.bl b=>a == (if b then 1 else 0)
 |.int a,.int b=>a == b
 |.str a,.str b=>a == b
 |_,_=>false
theorem Qx6{A:Q9}{s:Shared}{y x:V}{u v:Value}(ry:RelV y u)(rx:RelV x v)(fy:Qgp y=true)(fx:Qgp x=true):Qop A s u v (eqV y x):=by
 cases y with
 |non=>
  cases ry;cases x with
  |non=>cases rx;exact SeqAt.EqAt.same _
  |bl b=>cases rx;exact SeqAt.EqAt.none_bool b
  |int b=>obtain⟨t,rfl⟩:=rx;exact SeqAt.EqAt.none_int b t
  |str b=>obtain⟨t,rfl⟩:=rx;exact SeqAt.EqAt.none_str b t
  |_=>exact absurd (show false=true from fx) Qm
 |bl a=>
  cases ry;cases x with
  |non=>cases rx;exact SeqAt.EqAt.bool_none a
  |bl b=>cases rx;exact SeqAt.EqAt.bool_bool a b
  |int b=>obtain⟨t,rfl⟩:=rx;exact SeqAt.EqAt.bool_int a b t
  |str b=>obtain⟨t,rfl⟩:=rx;exact SeqAt.EqAt.bool_str a b t
  |_=>exact absurd (show false=true from fx) Qm
 |int a=>
  obtain⟨t',rfl⟩:=ry;cases x with
  |non=>cases rx;exact SeqAt.EqAt.int_none a t'
  |bl b=>cases rx;exact SeqAt.EqAt.int_bool a t' b
  |int b=>obtain⟨t,rfl⟩:=rx;exact SeqAt.EqAt.int_int a t' b t
  |str b=>obtain⟨t,rfl⟩:=rx;exact Qh5 a t' b t
  |_=>exact absurd (show false=true from fx) Qm
 |str a=>
  obtain⟨t',rfl⟩:=ry;cases x with
  |non=>cases rx;exact SeqAt.EqAt.str_none a t'
  |bl b=>cases rx;exact SeqAt.EqAt.str_bool a t' b
  |int b=>obtain⟨t,rfl⟩:=rx;exact Qh4 a t' b t
  |str b=>obtain⟨t,rfl⟩:=rx;exact SeqAt.EqAt.str_str a t' b t
  |_=>exact absurd (show false=true from fx) Qm
 |_=>exact absurd (show false=true from fy) Qm
def eqU(x:V)(u:Value):Bool:=match u with
 |.none=>eqV .non x
 |.bool b=>eqV (.bl b) x
 |.int i _=>eqV (.int i) x
 |.str z _=>eqV (.str z) x
 |_=>false
theorem Qst{x y:V}{u:Value}(r:RelV y u)(f:Qgp y=true):eqU x u=eqV y x:=by
 cases y with
 |non=>cases r;rfl
 |bl b=>cases r;rfl
 |int i=>obtain⟨t,rfl⟩:=r;rfl
 |str z=>obtain⟨t,rfl⟩:=r;rfl
 |_=>exact absurd (show false=true from f) Qm
theorem QiN{x:V}:∀{xs:List V}{us:List Value},Vals xs us->xs.all Qgp=true->us.any (eqU x)=xs.any λy=>eqV y x
 |_,_,.nil,_=>rfl
 |y::xs,u::us,.cons r t,f=>by
  rw[Qd2,JB] at f;rw[Qd1,Qd1,Qst r f.1,QiN t f.2]
theorem Qgk{A:Q9}{s:Shared}{x:V}{v:Value}(rx:RelV x v)(fx:Qgp x=true):∀{xs:List V}{us:List Value},Vals xs us->xs.all Qgp=true->∀u∈us,Qop A s u v (eqU x u)
 |_,_,.nil,_=>λu hu=>by cases hu
 |y::xs,u::us,.cons r t,f=>λu' hu=>by
  rw[Qd2,JB] at f;rcases Qy.mp hu with rfl | hu
  ·rw[Qst r f.1];exact Qx6 r rx f.1 fx
  ·exact Qgk rx fx t f.2 u' hu
def inV(x:V)(xs:List V):Bool:=xs.any λy=>eqV y x
def rIn(K:PySem.W.Frag)(neg:Bool):R2:=λx y H Q=>∃p xs,y=.ref p/\(SqL K H p xs∨SqT K H p xs)/\Qgp x=true/\xs.all Qgp=true/\Q (.bl (if neg then !inV x xs else inV x xs)) H
theorem Qhg:OpR X (compareOp .NotIn) (rIn X.K true):=by
 intro pins s σ H x y v u Q I rx ry h;obtain⟨p,xs,rfl,hq,fx,fs,q⟩:=h;cases ry;rcases hq with hq | hq
 ·obtain⟨its,r,pl,hz⟩:=I.list hq;refine Qob (eqU x) pl.isList (λw hw=>Qgk rx fx r fs w (by simpa using hw)) ⟨.bl _,H,I,rfl,?_⟩;rw[show its.toArray.any (eqU x)=its.any (eqU x) by simp,QiN r fs];exact q
 ·obtain⟨its,r,pl,hz⟩:=I.tuple hq;refine Qld (eqU x) pl (λw hw=>Qgk rx fx r fs w (by simpa using hw)) ⟨.bl _,H,I,rfl,?_⟩;rw[show its.toArray.any (eqU x)=its.any (eqU x) by simp,QiN r fs];exact q
theorem QbO:CallR X (.builtin "len") (λxs H Q=>∃p ys,xs=[.ref p]/\(SqL X.K H p ys∨SqT X.K H p ys)/\Q (.int ys.length) H):=by
 intro pins s σ H xs us Q I r h;obtain⟨p,ys,rfl,hq,q⟩:=h;obtain⟨u,rfl,rx⟩:=vals1 r;cases rx;have hn:=Qfx;rcases hq with hq | hq
 ·obtain⟨its,r',pl,hz⟩:=I.list hq;have hlen:=r'.length;exact Calls.call_len_list pl.isList (by simp only[Ql]<;>omega) ⟨.int ys.length,H,I.tok _,⟨s.toks+1,by rw[Ql,hlen]⟩,q⟩
 ·obtain⟨its,r',pl,hz⟩:=I.tuple hq;have hlen:=r'.length;exact len_tuple pl (by simp only[Ql]<;>omega) ⟨.int ys.length,H,I.tok _,⟨s.toks+1,by rw[Ql,hlen]⟩,q⟩
theorem QhK:CallR X (.type "list") (λxs H Q=>∃p ys,xs=[.ref p]/\(SqL X.K H p ys∨SqT X.K H p ys)/\∀l,H l=none->Q (.ref l) (upd H l (.lst ys))):=by
 intro pins s σ H xs us Q I r h;obtain⟨p,ys,rfl,hq,q⟩:=h;obtain⟨u,rfl,rx⟩:=vals1 r;cases rx;have fin:∀(its:List Value),Vals ys its->ys.length<=sizeLine->∀(h':Heap)(c':Nat),(∀b o',s.heap.get? b=some o'->h'.get? b=some o') ->
   h'.get? s.heap.objs.size=some { cls:=.type "list",dict:=none,data:=.seq its.toArray c',slots:=#[] }->EP X pins σ Q (.ref s.heap.objs.size) { s with heap:=h' }:=λits r' hz h' c' kp e=>
  ⟨.ref s.heap.objs.size,_,I.laid (t':=s.toks) kp (Qg _) (show ObjOk X.prog X.w _ h' _ (.lst ys) from⟨hz,its,c',r',e⟩),rfl,q _ (I.hok.fresh (Qg _))⟩
 rcases hq with hq | hq
 ·obtain⟨its,r',pl,hz⟩:=I.list hq;have hlen:=r'.length;obtain⟨o,ho,hc,n,hd⟩:=pl.isList;exact call_list_seq p (.inl rfl) ho hc hd (λh' c' kp e=>fin its r' hz h' c' kp e) (by simp only[Ql]<;>omega)
 ·obtain⟨its,r',pl,hz⟩:=I.tuple hq;have hlen:=r'.length;obtain⟨o,ho,hc,n,hd⟩:=pl;exact call_list_seq p (.inr rfl) ho hc hd (λh' c' kp e=>fin its r' hz h' c' kp e) (by simp only[Ql]<;>omega)
theorem Qc5:CallR X (.type "tuple") (λxs H Q=>∃p ys,xs=[.ref p]/\((SqL X.K H p ys/\∀l,H l=none->Q (.ref l) (upd H l (.tup ys)))∨(SqT X.K H p ys/\Q (.ref p) H))):=by
 intro pins s σ H xs us Q I r h;obtain⟨p,ys,rfl,h⟩:=h;obtain⟨u,rfl,rx⟩:=vals1 r;cases rx;rcases h with⟨hq,q⟩ | ⟨hq,q⟩
 ·obtain⟨its,r',pl,hz⟩:=I.list hq;have hlen:=r'.length;refine call_tuple_list pl.isList (λh' kp=>?_) (by simp only[Ql]<;>omega);have I1:Inv X pins σ H { s with heap:=h' }:=I.kept (t':=s.toks) kp;have I2:Inv X pins σ (upd H h'.objs.size (.tup ys)) { s with heap:=h'.push { cls:=.type "tuple",data:=.seq its.toArray } }:=
   I1.laid (t':=s.toks) (λb o e=>Qe _ e) (Qg _) (show ObjOk X.prog X.w _ _ _ (.tup ys) from⟨hz,its,r',TupN.new _ _⟩)
  exact⟨.ref h'.objs.size,_,I2,rfl,q _ (I1.hok.fresh (Qg _))⟩
 ·obtain⟨its,r',pl,hz⟩:=I.tuple hq;exact call_tuple_same pl ⟨.ref p,H,I,rfl,q⟩
def tyV(K:PySem.W.Frag)(T:String)(x:V)(H:Hp):Prop:=match x with
 |.str _=>T = "str"
 |.int _=>T = "int"
 |.ref p=>(T = "list" /\ ∃xs,SqL K H p xs)∨(T = "tuple" /\ ∃o,K.lookup p=some o/\o.cls=.type "tuple" /\ o.dict=none) ∨
   (T = "dict" /\ ((∃kvs,H p=some (.dK kvs))∨∃kvs,H p=some (.dT kvs)))∨(T = "set" /\ ∃S n,H p=some (.set S n))
 |_=>False
theorem Qwa{pins:List (Addr×Obj)}{σ:St}{H:Hp}{s:Shared}{T:String}{x:V}{v:Value}(I:Inv X pins σ H s)(r:RelV x v)(ty:tyV X.K T x H) :
  s.TypeIs v T/\∀a,v=.ref a->∃ob,s.heap.get? a=some ob/\ob.dict=none:=by
 cases x with
 |str z=>
  obtain⟨t,rfl⟩:=r;cases(show T = "str" from ty);exact⟨typeIs_str s z t,λ_ e=>nomatch e⟩
 |int i=>
  obtain⟨t,rfl⟩:=r;cases(show T = "int" from ty);exact⟨Qy9 s i t,λ_ e=>nomatch e⟩
 |ref p=>
  cases r;rcases ty with⟨rfl,xs,hq⟩ | ⟨rfl,o,hk,hc,hd⟩ | ⟨rfl,hk⟩ | ⟨rfl,S,n,hk⟩
  ·obtain⟨its,_,pl,_⟩:=I.list hq;refine⟨pl.isList.typeIs,λa e=>?_⟩;cases e;obtain⟨o,n,e,c,hd,_⟩:=pl;exact⟨o,e,hd⟩
  ·refine⟨⟨o,I.kIn p o hk,hc⟩,λa e=>?_⟩;cases e;exact⟨o,I.kIn _ o hk,hd⟩
  ·have z:∃o,s.heap.get? p=some o/\o.ExactDict:=by
    rcases hk with⟨kvs,hk⟩ | ⟨kvs,hk⟩
    ·obtain⟨_,_,_,_,o,_,_,e,ex,_⟩:=I.hok p _ hk;exact⟨o,e,ex⟩
    ·obtain⟨_,_,_,_,o,_,_,e,ex,_⟩:=I.hok p _ hk;exact⟨o,e,ex⟩
   obtain⟨o,e,ex⟩:=z;refine⟨⟨o,e,ex.1⟩,λa e2=>?_⟩;cases e2;exact⟨o,e,ex.2.1⟩
  ·obtain⟨o,_,_,_,e,ex,_⟩:=I.hok p _ hk;refine⟨⟨o,e,ex.1⟩,λa e2=>?_⟩;cases e2;exact⟨o,e,ex.2.1⟩
 |_=>exact Zr ty
def tBM(K:PySem.W.Frag)(T:String)(r:V->List V->Hp->VK->Prop)(to:TE)(t:TA):TE:=λσ H Q=>to σ H λx H1=>tyV K T x H1/\t σ H1 λxs H2=>r x xs H2 Q
variable{o e:QV}{es:List QV}{to:TE}{t:TA}{name:Str}{apos cpos:Pos}{T id:String}{r:V->List V->Hp->VK->Prop}
theorem Qpd(pa:PlainAttrs T)(slot:Slot T name id)(hty:typeOf (.builtin id)=pure (.type "method_descriptor"))(hm:MtR X id r)(ho:PE X o to)(ha:PA X (e::es) t)
  (hbase:attributeBase o name X.env (eval o X.env)=eval o X.env:=by rfl)
  (hfew:((backTo cpos (starEach (e::es) X.env)).all (λx => !x.1)&&(backToKw cpos (keywordEach [] X.env)).all (λx=>x.1.isSome)
   && decide ((e::es).length+([]:List QcS).length+(if([]:List QcS).isEmpty then 0 else 1)<30))=true:=by rfl)
  (hline:(apos.endLine == cpos.line)=true:=by rfl) (hs:starEach (e::es) X.env=(false,eval e X.env)::starEach es X.env:=by rfl) (hplain:(backTo cpos (starEach es X.env)).any (·.1)=false:=by rfl) :
  PE X (.Call (.Attribute o name apos) (e::es) [] cpos) (tBM X.K T r to t):=by
 intro pins s σ H Q I h;refine wpAny_Call_method_late hbase hfew hline rfl (thn (ho pins s σ H _ I h) λv s1 ⟨x,H1,I1,r1,ty,q1⟩=>?_);obtain⟨h1,h2⟩:=Qwa I1 r1 ty;refine⟨T,id,pa,slot,hty,h1,h2,?_⟩;have hA:=ha cpos pins s1 σ H1 _ I1 q1;rw[hs] at hA ⊢;refine Calls.callWith_builtin (by show(false||(backTo cpos (starEach es X.env)).any (·.1))=false;rw[hplain]<;>rfl) (Calls.evalArgs_plain ?_);exact thn hA λus s2 ⟨vs,H2,I2,r2,q2⟩=>hm pins s2 σ H2 x vs v us Q I2 r1 r2 q2
end
def MtM(X:Cx)(id:String)(r:V->List V->Hp->VK->Prop):Prop:=
 ∀(pins:List (Addr×Obj))(s:Shared)(σ:St)(H:Hp)(x:V)(xs:List V)(v:Value)(us:List Value)(Q:VK),Inv X pins σ H s->RelV x v->Vals xs us->r x xs H Q ->
  wpAny (model X.prog X.w) X.A (call (.builtin id) (v::us)) (EP X pins σ Q) X.xe s
theorem Vals.one:∀{x:V}{us:List Value},Vals [x] us->∃u,us=[u]/\RelV x u
 |_,_,.cons r .nil=>⟨_,rfl,r⟩
theorem Vals.zero:∀{us:List Value},Vals [] us->us=[]
 |_,.nil=>rfl
theorem Vals.eraseIdx:∀{xs:List V}{us:List Value}(i:Nat),Vals xs us->Vals (xs.eraseIdx i) (us.eraseIdx i)
 |_,_,_,.nil=>.nil
 |_,_,0,.cons _ t=>t
 |_,_,i+1,.cons r t=>.cons r (Vals.eraseIdx i t)
theorem Vals.reverse{xs:List V}{us:List Value}(h:Vals xs us):Vals xs.reverse us.reverse:=by
 induction h with
 |nil=>exact .nil
 |cons r t ih=>rw[QrF,QrF];exact Vals.append ih (.cons r .nil)
theorem Vals.rep{xs:List V}{us:List Value}(h:Vals xs us):∀k:Nat,Vals (Ji k xs).flatten (Ji k us).flatten
 |0=>.nil
 |k+1=>by
  rw[Zk,Zk,Z8,Z8];exact Vals.append h (Vals.rep h k)
theorem Qhu{α:Type}:∀(l:List α)(i:Nat),(l.eraseIdx i).length<=l.length
 |[],_=>Qg _
 |_::_,0=>QdW _
 |_::r,i+1=>QvE (Qhu r i)
theorem foldl_rep(its:List Value):∀(k:Nat)(acc:List Value),
  QrH (λx1 x2=>x1++x2) acc.toArray (Ji k its.toArray)=(acc++(Ji k its).flatten).toArray
 |0,acc=>by simp
 |k+1,acc=>by
  have e:acc.toArray++its.toArray=(acc++its).toArray:=by simp
  have e2:(acc++its)++(Ji k its).flatten=acc++(Ji (k+1) its).flatten:=by
   rw[Zk,Z8,Qbw]
  rw[<- e2,<- foldl_rep its k (acc++its),<- e,Zk,QgQ]
section
variable{X:Cx}{pins:List (Addr×Obj)}{σ:St}{H:Hp}{s:Shared}{l b:Addr}{xs ys zs:List V}
theorem Inv.lset{its its':List Value}{n:Nat}{f:Array Value->Array Value}{t':Nat}(I:Inv X pins σ H s)(hH:H l=some (.lst xs))
  (e:s.heap.get? l=some { cls:=.type "list",data:=.seq its.toArray n })(hf:f its.toArray=its'.toArray)(hv:Vals ys its')(hz:ys.length<=sizeLine) :
  Inv X pins σ (upd H l (.lst ys)) { s with heap:=s.heap.update l (Zv f),toks:=t' }:=by
 have q:=PySem.IsL.update e f;rw[hf] at q;refine I.write (x:=l) (e:=l) (by rw[hH];exact trivial) (.inl rfl) (λb' u hb hu=>(Zj s.heap (Zv f) (QaQ hb)).trans hu) ⟨_,q⟩ ?_
 exact⟨hz,its',_,hv,q⟩
theorem Inv.lnew{its:List Value}{t':Nat}(I:Inv X pins σ H s)(hv:Vals ys its)(hz:ys.length<=sizeLine) :
  Inv X pins σ (upd H s.heap.objs.size (.lst ys)) { s with heap:=s.heap.push { cls:=.type "list",data:=.seq its.toArray },toks:=t' }:=
 I.laid (λ_ _ q=>Qe _ q) (Qg _) ⟨hz,its,0,hv,Qr _ rfl⟩
theorem Inv.fresh(I:Inv X pins σ H s):H s.heap.objs.size=none:=I.hok.fresh (Qg _)
theorem Inv.lstM(I:Inv X pins σ H s)(hH:H l=some (.lst xs)):xs.length<=sizeLine/\∃(its:List Value)(n:Nat),Vals xs its/\xs.length=its.length/\s.heap.get? l=some { cls:=.type "list",data:=.seq its.toArray n }:=by
 obtain⟨z,its,n,r,e⟩:=I.hok l _ hH;exact⟨z,its,n,r,r.length,e⟩
theorem QpQ{n:Nat}(h:n<=sizeLine):QaT n=false:=by
 unfold QaT;exact decide_eq_false (by omega)
end
section
variable{X:Cx}
def Qih:V->List V->Hp->VK->Prop:=λx vs H Q=>∃l xs y,x=.ref l/\vs=[y]/\H l=some (.lst xs)/\xs.length<sizeLine/\Q .non (upd H l (.lst (xs++[y])))
theorem QeA:MtM X "list.append" Qih:=by
 intro pins s σ H x vs v us Q I rx rv h;obtain⟨l,xs,y,rfl,rfl,hH,hz,q⟩:=h;cases rx;obtain⟨u,rfl,ru⟩:=rv.one;obtain⟨z,its,n,r,hl,e⟩:=I.lstM hH;refine QgV F.slot_list_append ⟨_,e,rfl⟩ F.entry_list_append (F.args_list_append_2 _ _) (PySem.list_append l its.toArray n u (by rw[Ql];omega)) ⟨e,?_⟩;refine⟨.non,_,I.lset (its':=its++[u]) hH e (by simp) (r.append (.cons ru .nil)) ?_,rfl,q⟩;rw[Qu,QcI];omega
def Qr3:V->List V->Hp->VK->Prop:=λx vs H Q=>∃l xs i k y,x=.ref l/\vs=[.int i]/\H l=some (.lst xs) /\ -(2^63)<=i/\i<2^63/\seqIndex? i xs.length=some k/\xs[k]? = some y/\Q y (upd H l (.lst (xs.eraseIdx k)))
theorem QpX:MtM X "list.pop" Qr3:=by
 intro pins s σ H x vs v us Q I rx rv h;obtain⟨l,xs,i,k,y,rfl,rfl,hH,h1,h2,hk,hy,q⟩:=h;cases rx;obtain⟨u,rfl,ru⟩:=rv.one;obtain⟨t,rfl⟩:=ru;obtain⟨z,its,n,r,hl,e⟩:=I.lstM hH;obtain⟨w,hw,rw'⟩:=r.get hy;refine QgV F.slot_list_pop ⟨_,e,rfl⟩ F.entry_list_pop (F.args_list_pop_2 _ _)
  (MeetsSeq.list_pop_at l its.toArray n i t k w (fitsIndex_both h1 h2) (by rw[Ql,<- hl];exact hk) (by rw[<- Qcp];exact hw) (by rw[Ql];omega)) ⟨e,?_⟩
 refine⟨y,_,I.lset (its':=its.eraseIdx k) hH e ?_ (r.eraseIdx k) ?_,rw',q⟩
 ·show its.toArray.eraseIdxIfInBounds k=(its.eraseIdx k).toArray;rw[List.eraseIdxIfInBounds_toArray]
 ·have:=Qhu xs k;omega
def QBl:R2:=λx y H Q=>∃l b xs zs,x=.ref l/\y=.ref b/\H l=some (.lst xs)/\H b=some (.lst zs)/\xs.length+zs.length<=sizeLine/\∀p,H p=none->Q (.ref p) (upd H p (.lst (xs++zs)))
theorem Qxv:OpR X (binaryOp .Add) QBl:=by
 intro pins s σ H x y v u Q I rx ry h;obtain⟨l,b,xs,zs,rfl,rfl,hH,hB,hz,q⟩:=h;cases rx;cases ry;obtain⟨z,its,n,r,hl,e⟩:=I.lstM hH;obtain⟨z2,its2,n2,r2,hl2,e2⟩:=I.lstM hB;refine PySem.P.add_list e e2 ?_ (by rw[Ql,Ql];omega)
 have ea:its.toArray++its2.toArray=(its++its2).toArray:=by simp
 rw[ea];exact⟨.ref _,_,I.lnew (t':=s.toks) (r.append r2) (by rw[Qu];omega),rfl,q _ I.fresh⟩
def QBc:R2:=λx y H Q=>∃l k xs,x=.ref l/\y=.int k/\H l=some (.lst xs) /\ -(2^63)<=k/\k<2^63/\xs.length*k.toNat<=sizeLine /\
 ∀p,H p=none->Q (.ref p) (upd H p (.lst (Ji k.toNat xs).flatten))
theorem QuW{α:Type}(xs:List α)(k:Nat):(Ji k xs).flatten.length=k*xs.length:=by
 induction k with
 |zero=>simp
 |succ k ih=>rw[Zk,Z8,Qu,ih,Qli,Nat.add_comm]
theorem Qxn:OpR X (binaryOp .Mult) QBc:=by
 intro pins s σ H x y v u Q I rx ry h;obtain⟨l,k,xs,rfl,rfl,hH,h1,h2,hz,q⟩:=h;cases rx;obtain⟨t,rfl⟩:=ry;obtain⟨z,its,n,r,hl,e⟩:=I.lstM hH;have hlen:its.toArray.size*k.toNat<=sizeLine:=by rw[Ql,<- hl];exact hz
 have hcap:¬its.toArray.size*k.toNat > (2^63 - 1) / 8:=by
  have:(sizeLine:Nat)<=(2^63 - 1) / 8:=by decide
  omega
 have hfit:¬(!Builtin.List.listFitsIndex k)=true:=by
  rw[fitsIndex_both h1 h2];exact Qm
 have hlong:¬QaT (its.toArray.size*k.toNat)=true:=by
  rw[QpQ hlen];exact Qm
 have hnew:QrH (λx1 x2=>x1++x2) #[] (Ji (if its.toArray.isEmpty=true then 0 else k.toNat) its.toArray)=(Ji k.toNat its).flatten.toArray:=by
  have f0:∀m:Nat,QrH (λx1 x2=>x1++x2) #[] (Ji m its.toArray)=(Ji m its).flatten.toArray:=λm=>by
   have:=foldl_rep its m [];rw[QgL] at this;exact this
  rw[f0];cases its with
  |nil=>simp
  |cons a r'=>rw[if_neg (by simp)]
 refine wpAny_binaryOp_repeat_ref (T := "list") (U := "int") (by decide) ⟨_,e,rfl⟩ (λs'=>Qy9 s' k t) noFill_list_mul F.fills_int_mul Qzt repeat_list F.slot_int_index.lookup
  (QgV Qzt (Qy9 s k t) F.entry_int_rmul (F.args_int_rmul_2 _ _) (int___rmul___int_list k t l its.toArray n)
   ⟨e,rfl,⟨_,e,rfl⟩,QgV F.slot_list_mul ⟨_,e,rfl⟩ F.entry_list_mul (F.args_list_mul_2 _ _) (AutoListH.list___mul___list_int_3 l its.toArray n k t hfit hcap hlong) ⟨e,?_⟩⟩)
 rw[hnew];exact⟨.ref _,_,I.lnew (t':=s.toks) (r.rep k.toNat) (by rw[QuW,Nat.mul_comm];exact hz),rfl,q _ I.fresh⟩
end
section
variable{prog:QF}{w:Jk}{A:Q9}{E:Value->Shared->Prop}{s:Shared}
end
section
variable{X:Cx}
end
end L2
namespace Att
open PySem.W PySem.Calls
theorem QeG{P:Params}{h:Heap}:∀(ns:List Int)(vs:List Value),WellAll P h vs (ns.map WData.int)->Qa9 vs ns:=by
 intro ns;induction ns with
 |nil=>
  intro vs w;rw[Qzn] at w;cases w;exact .nil
 |cons n ns ih=>
  intro vs w;rw[Js] at w;cases w with
  |cons a b=>
   cases a;exact .cons _ _ (ih _ b)
theorem QlR{l:OpenLaw}{n:Nat}(hn:l.most=some n){P:Params}{h:Heap}{args:List WData}{vals:List Value}
  (hpre:l.row.toRowW.claim.pre args=true)(hwl:WellAll P h vals args) :
  ∃a vs ns,vals=[J7 a]/\args=[WData.list (ns.map WData.int)]/\h.get? a=some { cls:=.type "list",data:=.seq vs.toArray }/\Qa9 vs ns/\ns.length<=n:=by
 have hsh:WShape.hasAll [] args [.list .int]=true:=(pre_splitW hpre).1;have hc:l.pre.holds [] { args:=args }=true:=(pre_splitW hpre).2;obtain⟨d,r,rfl,h1,h2⟩:=hasAllW_cons hsh;obtain rfl:=hasAllW_nil h2;obtain⟨xs,rfl,h3⟩:=hasW_list h1;obtain⟨ns,rfl⟩:=items_int h3;have hlen:ns.length<=n:=by
  unfold OpenLaw.pre at hc;have h4:(WTm.not (.lt (.lit (.int (n:Int))) (.len (.arg 0)))).holds [] { args:=[.list (ns.map .int)] }=true:=by
   have h4:=(holds_andW hc).1;rw[hn] at h4;exact h4
  have h5:=condW_of h4 (w_not (w_lt w_lit (w_len_list (w_arg rfl))));rw[Qd] at h5;refine Nat.le_of_not_lt λq=>?_
  have q':(n:Int)<((ns.length:Nat):Int):=by omega
  first
   |(rw[decide_eq_true q'] at h5;exact absurd h5 (by decide))
   |(simp at h5;omega)
 cases hwl with
 |cons w1 w2=>
  cases w2;cases w1 with
  |list ho hall=>exact⟨_,_,ns,rfl,rfl,ho,QeG ns _ hall,hlen⟩
theorem Qmh(l:OpenLaw)(args:List WData):l.row.toRowW.claim.post args (.bool true) args=true:=
 postW_of (r:=l.row.toRowW) (X:=(true == true))
  (show Qzd [] (.bool true) .bool=true by first | rfl | decide | simp[Qzd,WShape.arms,WShape.armsAll])
  (show(WTm.eq .res (.lit (.bool true))).value [] { args:=args,res:=some (.bool true),after:=args }=some (.bool (true == true)) from w_eq_bool (w_res rfl) w_lit) rfl
theorem QiK{l:OpenLaw}{n:Nat}{q:QF}{loose:List Str}{XP:(Str->Option Value)->Heap->Prop}{YP:Jk->Heap->Prop}{d:DefRec}
  (hn:l.most=some n)(hdf:d.params.defaults=[])
  (call:∀(w:Jk)(s₀ s₁:Shared)(mg mb:Str->Option Value)(fa:Addr)(o:Obj)(pm cd doc:Value)(a:Addr)(vs:List Value)(ns:List Int),
   Ground q loose [] XP w s₀ mg mb s₁.heap->YP w s₁.heap ->
   s₁.heap.get? fa=some o->o.data=.func (docDef d.name d.params d.body d.scope pm cd doc)->s₁.heap.CodeRec cd d.name->mg d.name=some (.ref fa) ->
   s₁.heap.get? a=some { cls:=.type "list",data:=.seq vs.toArray }->Qa9 vs ns->ns.length<=n->s₁.gens=#[] ->
   codeAny (model l.prog w) callerA (.call (.ref fa) ⟨[.ref a],[]⟩) (λr s'=>r=.ok (.ret (.bool true))/\OldK s₁.heap s'.heap/\s'.os=s₁.os/\Qe4 s'.gens) s₁) :
  WalkO q loose XP YP l.row.toRowW d [] (λf vs=>PySem.call f vs):=by
 intro w s₀ s₁ mg mb G Y fa o pm cd doc dV kV ho hd hcd hD hmg hg args vals as hpre hlay hrd hwl hlo;obtain rfl:dV=.none:=Dflts.none hD hdf;obtain rfl:kV=.none:=Dflts.noKw hD;obtain⟨a,vs,ns,rfl,rfl,hobj,hints,hlen⟩:=QlR hn hpre hwl;refine enter_call (QdT (call w s₀ s₁ mg mb fa o pm cd doc a vs ns G Y ho (fd_plain hd) hcd hmg hobj hints hlen hg) λr s' hq=>?_);obtain⟨rfl,h2,h3,h4⟩:=hq;exact⟨.inl ⟨.bool true,.bool true,[],rfl,λ_=>rfl,.bool true,Qmh l _,λ_=>⟨Qzq,λ_ hm=>(nomatch hm)⟩⟩,h2,h3,h4⟩
section
variable{prog:QF}{w:Jk}{A:Q9}{E:Value->Shared->Prop}{s:Shared}{K:Frag}
end
end Att
namespace L2
theorem QgY:∀{vs:List Value}{ns:List Int},Qa9 vs ns->Vals (ns.map V.int) vs
 |_,_,.nil=>.nil
 |_,_,.cons n t h=>.cons ⟨t,rfl⟩ (QgY h)
def QA2(H:Hp):Prop:=∀b,H b=none∨∃o xs,H b=some (.frz o (.lst xs))
theorem Qp6{P:QF}{w:Jk}{K:PySem.W.Frag}{mg mb:Str->Option Value}{CX:CXT}{k:Nat}{fa a:Addr}{fd:QM}{x:Str}{sp:Sp}{s₁:Shared}{vs:List Value}{ns:List Int}
  (KX:K.In s₁.heap)(hns:s₁.heap.Ns mainGlobals mg)(hb:s₁.heap.Ns builtinsNs mb)(hbb:∀x:Str,x ≠ "__name__" -> mb x=bootBuiltins x)(hlim:s₁.heap.NoLimit)(hg:s₁.gens=#[])
  (ha:s₁.heap.get? a=some { cls:=.type "list",data:=.seq vs.toArray })(hi:Qa9 vs ns)(hl:ns.length<=sizeLine)(hr:Room k callerA)
  (F:∀base:Heap,K.In base->base.Ns mainGlobals mg->FnOk P w K mg base CX k fa fd [x] sp)(hbind:∀(s:Shared)(u:Value),Qox s fd ⟨[u],[]⟩ [(x,u)])
  (hsp:∀H:Hp,QA2 H->SqL K H a (ns.map V.int)->sp [.ref a] H (λv _=>v=.bl true) λ_ _ _=>False)
  (hCX:∀H e s',CX [] H s₁ (λ_ _ _=>False) e s'->False) :
  codeAny (model P w) callerA (.call (.ref fa) ⟨[.ref a],[]⟩) (λr s'=>r=.ok (.ret (.bool true))/\OldK s₁.heap s'.heap/\s'.os=s₁.os/\Qe4 s'.gens) s₁:=by
 have rv:=QgY hi;have lenV:=hi.length;have core:∀H:Hp,QA2 H->SqL K H a (ns.map V.int)->HOk P w H s₁.heap->(∀b,H b≠none->b=a)->(H a≠none->K.lookup a=none) ->
   codeAny (model P w) callerA (.call (.ref fa) ⟨[.ref a],[]⟩) (λr s'=>r=.ok (.ret (.bool true))/\OldK s₁.heap s'.heap/\s'.os=s₁.os/\Qe4 s'.gens) s₁:=by
  intro H hO hS hok hA hK;have base_of:∀{b:Addr}{o:Obj},s₁.heap.get? b=some o->H b=none->(Qp9 s₁.heap H).get? b=some o:=λe n=>Qp8 e n
  have noA:∀{b:Addr}{o:Obj}{es:Array DictEntry}{ep:Nat},s₁.heap.get? b=some o->o.data=.dict es ep->H b=none:=λ{b o es ep} e d=>by
   cases q:H b with
   |none=>rfl
   |some u=>
    have e':b=a:=hA b (by rw[q];simp);subst e';rw[ha] at e;cases e;have d':Data.seq vs.toArray _=Data.dict es ep:=d;cases d'
  have nsK:∀{b:Addr}{m:Str->Option Value},s₁.heap.Ns b m->(Qp9 s₁.heap H).Ns b m:=λ{b m} ⟨o,es,ep,e,d,r⟩=>⟨o,es,ep,base_of e (noA e d),d,r⟩
  have hKb:K.In (Qp9 s₁.heap H):=λb o e=>base_of (KX b o e) (by
   cases q:H b with
   |none=>rfl
   |some u=>
    have e':b=a:=hA b (by rw[q];simp);subst e';rw[hK (by rw[q];simp)] at e;cases e)
  have hM:Mod K mg (Qp9 s₁.heap H):=⟨hKb,nsK hns,⟨mb,nsK hb,hbb⟩,let ⟨mc,h1,h2⟩:=hlim;⟨mc,nsK h1,h2⟩⟩;have e0:Env0 P w K mg (Qp9 s₁.heap H) callerA [] s₁ H:=⟨rfl,hM,λb o e=>QuH e,Nat.le_of_eq (Qm7 _ _),trivial,λb hb=>absurd (show b∈([]:List Addr) from hb) (by simp),hok,.of_eq hg⟩;refine QdT ((F _ hKb (nsK hns)).run callerA [] s₁ H ⟨[.ref a],[]⟩ [.ref a] [.ref a] _ _ hr e0 (hbind s₁ (.ref a)) (.cons rfl .nil) (hsp H hO hS)) λr s' h=>?_
  cases r with
  |error e=>exact(hCX H e s' h).elim
  |ok fl=>
   cases fl with
   |next=>exact Zr h
   |brk=>exact Zr h
   |cont=>exact Zr h
   |ret u=>
    obtain⟨v,H',os,bare,un,hok',r',q⟩:=h;have q':v=.bl true:=q;subst q';obtain rfl:u=Qbq true:=r';refine⟨rfl,OldK.of_keep λb o e=>?_,os,bare⟩;cases q:H b with
    |none=>exact un.keep b o e q (by intro z;exact absurd (show b∈([]:List Addr) from z) (by simp)) (by simp)
    |some u=>
     rcases hO b with z | ⟨ob,xs,z⟩
     ·rw[q] at z;cases z
     ·have z2:=un.frzs b ob _ z;obtain⟨e1,_⟩:=hok b _ z;obtain⟨e2,_⟩:=hok' b _ z2;rw[e] at e1;cases e1;exact e2
 cases hk:K.lookup a with
 |some o=>
  have e:=KX a o hk;rw[ha] at e;cases e;refine core (λ_=>none) (λ_=>.inl rfl) (.inr ⟨_,vs.toArray,_,hk,rfl,rfl,rfl,by rw[Ql,lenV];exact hl,by simpa using rv⟩) (λb u z=>by have z':(none:Option HO)=some u:=z;cases z') (λb z=>absurd rfl z) λz=>absurd rfl z
 |none=>
  refine core (λb=>if b=a then some (.frz { cls:=.type "list",data:=.seq vs.toArray } (.lst (ns.map V.int))) else none) (λb=>?_) (.inl (.inr ⟨{ cls:=.type "list",data:=.seq vs.toArray },if_pos rfl⟩)) (λb u z=>?_) (λb z=>?_) λ_=>hk
  ·by_cases hb:b=a
   ·exact .inr ⟨_,_,if_pos hb⟩
   ·exact .inl (if_neg hb)
  ·by_cases hb:b=a
   ·have z':=(if_pos hb).symm.trans z;cases z';subst hb;exact⟨ha,by rw[Qd];exact hl,vs,_,rv,ha⟩
   ·have z':=(if_neg hb).symm.trans z;cases z'
  ·by_cases hb:b=a
   ·exact hb
   ·exact absurd (if_neg hb) z
theorem Qs5{l:PySem.W.OpenLaw}{n k:Nat}{q:QF}{loose:List Str}{XP:(Str->Option Value)->Heap->Prop}{YP:Jk->Heap->Prop}{d:DefRec}{K:Params->PySem.W.Frag}{CX:Jk->CXT}{sp:Jk->Sp}{x:Str}
  (hn:l.most=some n)(hn2:n<=sizeLine)(hdf:d.params.defaults=[])(hr:Room k callerA)
  (hY:∀(w:Jk)(h:Heap),YP w h->(K w.params).In h)
  (F:∀(w:Jk)(mg:Str->Option Value)(fa:Addr)(h:Heap),(K w.params).In h->h.Ns mainGlobals mg->mg d.name=some (.ref fa) ->
   ∃fd:QM,(∀(s:Shared)(u:Value),Qox s fd ⟨[u],[]⟩ [(x,u)]) /\
    ∀base:Heap,(K w.params).In base->base.Ns mainGlobals mg->FnOk l.prog w (K w.params) mg base (CX w) k fa fd [x] (sp w))
  (hsp:∀(w:Jk)(H:Hp)(a:Addr)(ns:List Int),ns.length<=n->QA2 H->SqL (K w.params) H a (ns.map V.int)->sp w [.ref a] H (λv _=>v=.bl true) λ_ _ _=>False)
  (hCX:∀(w:Jk)(H:Hp)(s:Shared)(e:Value)(s':Shared),CX w [] H s (λ_ _ _=>False) e s'->False) :
  PySem.W.WalkO q loose XP YP l.row.toRowW d [] (λf vs=>PySem.call f vs):=by
 refine Att.QiK hn hdf λw s₀ s₁ mg mb fa o pm cd doc a vs ns G Y ho hd hcd hmg hobj hints hlen hg=>?_
 have KX:=hY w _ Y;obtain⟨fd,hb,hF⟩:=F w mg fa _ KX G.T.g hmg;exact Qp6 KX G.T.g G.T.b G.T.builtins G.T.nolimit hg hobj hints (QU hlen hn2) hr hF hb (λH hO hS=>hsp w H a ns hlen hO hS) λH e s'=>hCX w H s₁ e s'
def Jp(s:ZY):Arguments:=match s with
 |.FunctionDef _ a _ _ _ _ _ _ _ _=>a
 |_=>{ posonlyargs:=[],args:=[],vararg:=none,kwonlyargs:=[],kw_defaults:=[],kwarg:=none,defaults:=[] }
def Jl(s:ZY):List ZY:=match s with
 |.FunctionDef _ _ b _ _ _ _ _ _ _=>b
 |_=>[]
def Qq(s:ZY):Y0:=match s with
 |.FunctionDef _ _ _ _ _ _ sc _ _ _=>sc
 |_=>{ kind:=.function,names:=[],isGenerator:=false,isCoroutine:=false }
abbrev CX0:CXT:=λ_ _ _ _ _ _=>False
abbrev E0:XK:=λ_ _ _=>False
structure Fun (K:PySem.W.Frag) (x qual:Str) (st:ZY) (f:Addr) (fd:QM):Prop where
 ex:∃(oc:Value)(od:Option Addr)(kV doc pm:Value)(an:Option Addr)(cdv ct:Value)(osl:Array (Option Value)),
  fd=PySem.W.fnOf x qual (Jp st) (Jl st) (Qq st) .none kV doc pm an cdv ct/\K.lookup f=some ⟨oc,od,.func fd,osl⟩/\PySem.W.codeIn K cdv qual=true
 kp:PySem.W.keepIn K (.ref f)=true
section
variable{P:QF}{w:Jk}{K:PySem.W.Frag}{mg:Str->Option Value}{base:Heap}
theorem Fun.ok{x qual:Str}{st:ZY}{f:Addr}{fd:QM}{N ps:List Str}{k:Nat}{sp:Sp}(F:Fun K x qual st f fd)(S:Jm N ps (Qq st))(len:∀vs H Q E,sp vs H Q E->vs.length=ps.length)
  (hbody:∀(cdv:Value)(A:Q9)(outer:List Env)(s:Shared)(H:Hp)(vs:List V)(Q:VK)(E:XK),Room k (A.deeper (envOfC qual (Qq st) s.heap.objs.size f cdv))->sp vs H Q E ->
   ∃t,PSs (Qoi CX0 P w K mg base N qual (Qq st) f cdv A outer s H E).nox (Jl st) t/\t { nx:=λ_ H'=>Q .non H',rt:=Q } (start N vs) H):FnOk P w K mg base CX0 (k+1) f fd ps sp:=by
 obtain⟨oc,od,kV,doc,pm,an,cdv,ct,osl,rfl,lk,hcd⟩:=F.ex;refine QAL lk hcd S len λA outer s H vs Q E hr hsp=>?_
 obtain⟨t,h,q⟩:=hbody cdv A outer s H vs Q E hr hsp;exact⟨t,h.nox,q⟩
theorem Fun.binds{x qual:Str}{st:ZY}{f:Addr}{fd:QM}{ps:List Str}(F:Fun K x qual st f fd)
  (h:∀(kV doc pm:Value)(an:Option Addr)(cdv ct:Value)(us:List Value),us.length=ps.length->bindArgs (PySem.W.fnOf x qual (Jp st) (Jl st) (Qq st) .none kV doc pm an cdv ct) ⟨us,[]⟩=pure (ps.zip us)):Binds K fd ps []:=by
 obtain⟨oc,od,kV,doc,pm,an,cdv,ct,osl,rfl,lk,hcd⟩:=F.ex;exact .all (h kV doc pm an cdv ct)
theorem JY{x qual:Str}{st:ZY}{f:Addr}{oc:Value}{od an:Option Addr}{osl:Array (Option Value)}{kV doc pm cdv ct:Value}(l:K.lookup f=some ⟨oc,od,.func (PySem.W.fnOf x qual (Jp st) (Jl st) (Qq st) .none kV doc pm an cdv ct),osl⟩)
  (c:PySem.W.codeIn K cdv qual=true)(k:PySem.W.keepIn K (.ref f)=true):Fun K x qual st f (PySem.W.fnOf x qual (Jp st) (Jl st) (Qq st) .none kV doc pm an cdv ct):=⟨⟨oc,od,kV,doc,pm,an,cdv,ct,osl,rfl,l,c⟩,k⟩
end
section
variable{X:Cx}
theorem pv(i:Nat){x:Str}{pos:Pos}(hN:X.N[i]? = some x:=by rfl)(hv:Vis X.env.scope x:=by first | exact QN rfl | exact QK (QN rfl) | exact QK (QK rfl))(hd:(x == ("__debug__" : Str))=false:=by decide)
  (hcd:(x == ("__classdict__" : Str))=false:=by decide):PE X (.Name x pos) (QhZ i):=Qw2 hN hv hd hcd
end
theorem QBp{A B:Prop}(h:B):if false=true then A else B:=by
 rw[if_neg Qm];exact h
theorem QAw{A B:Prop}(h:A):if true=true then A else B:=by
 rw[if_pos rfl];exact h
theorem QBq{c A B:Prop}[Decidable c](h1:c->A)(h2:¬c->B):if c then A else B:=by
 by_cases h:c
 ·rw[if_pos h];exact h1 h
 ·rw[if_neg h];exact h2 h
def Same(H H':Hp):Prop:=∀b o,H b=some o->H' b=some o
theorem Same.refl(H:Hp):Same H H:=λ_ _ h=>h
theorem Same.free{H H':Hp}(e:Same H H'){l:Addr}(h:H' l=QyM):H l=QyM:=by
 cases q:H l with
 |none=>rfl
 |some o=>
  rw[e l o q] at h;cases h
theorem Same.seq{K:PySem.W.Frag}{H H':Hp}{a:Addr}{xs:List V}(e:Same H H')(h:SqL K H a xs):SqL K H' a xs:=by
 rcases h with(h | ⟨o,h⟩) | h
 ·exact .inl (.inl (e _ _ h))
 ·exact .inl (.inr ⟨o,e _ _ h⟩)
 ·exact .inr h
end L2
set_option maxHeartbeats 4000000
namespace Zt
def f5(M x:Nat):Nat:=(x*5+1) % M
def it5(M:Nat):Nat->Nat->Nat
 |0,x=>x
 |n+1,x=>it5 M n (f5 M x)
def QBK(M:Nat):Nat->Nat->Nat->Nat
 |0,_,acc=>acc
 |n+1,x,acc=>QBK M n (f5 M x) (acc ||| 2^x)
def QAH(M:Nat):Bool:=decide (QBK M M 0 0=2^M - 1)&&decide (it5 M M 0=0)
def stps(t:SetTable):Nat->Qa2->Qa2
 |0,p=>p
 |n+1,p=>stps t n (t.advance p)
theorem Qi5:∀{P Q:List Nat},P.Nodup->(∀p∈P,p∈Q)->P.length<=Q.length
 |[],_,_,_=>Jc _
 |p::P,Q,nd,h=>by
  have nd:=JO.mp nd;have hp:=h p (.head _);have:=Qi5 (P:=P) (Q:=Q.erase p) nd.2 λx hx=>(Qlk (show x≠p from λe=>nd.1 (e ▸ hx))).mpr (h x (.tail _ hx))
  rw[Qbv hp] at this;have:=ZM hp;rw[QQ];omega
structure Tab (t:SetTable):Prop where
 pw:t.place.toList.Pairwise (· < ·)
 le:∀x∈t.place.toList,x<=t.mask
 dm:t.dummies=#[]
 gd:QAH (t.mask+1)=true
 pl:t.plain=true
 od:t.mask % 2=1
theorem Tab.room{t:SetTable}(x:Tab t)(hs:t.place.size<=t.mask):∃j,j<t.mask+1/\j∉t.place.toList:=by
 apply YA
 intro hn;have:∀p∈Qt (t.mask+1),p∈t.place.toList:=λp hp=>by
  apply YA
  intro h;exact hn ⟨p,Q0.mp hp,h⟩
 have:=Qi5 JN this;rw[Q1,Q4] at this;omega
structure PIn (t:SetTable) (p:Qa2):Prop where
 a:p.j+p.more<=t.mask
 b:p.i<=t.mask
theorem Qg8{mask i:Nat}(h:i<=mask):i+(Qoa mask i - i)<=mask:=by unfold Qoa;split<;>omega
theorem PIn.adv{t:SetTable}{p:Qa2}(x:PIn t p):PIn t (t.advance p):=by
 unfold SetTable.advance;split
 ·exact⟨by show p.j+1+(p.more - 1)<=_;have:=x.a;omega,x.b⟩
 ·have:(SetTable.leap t.mask p.i p.perturb).1<=t.mask:=QsS (QsR _ (Nat.succ_pos _));exact⟨Qg8 this,this⟩
theorem PIn.stps{t:SetTable}:∀(n:Nat){p:Qa2},PIn t p->PIn t (stps t n p)
 |0,_,x=>x
 |n+1,_,x=>PIn.stps n x.adv
theorem PIn.start(t:SetTable)(h:Int):PIn t (t.probeStart h):=by
 have:SetTable.bits h % (t.mask+1)<=t.mask:=QsS (QsR _ (Nat.succ_pos _));exact⟨Qg8 this,this⟩
def Rch(t:SetTable)(j:Nat)(h:Int):Prop:=∃n,(stps t n (t.probeStart h)).j=j/\∀m,m<n->(stps t m (t.probeStart h)).j∈t.place.toList
theorem Qdg:Slot "set_iterator" "__next__" "set_iterator.__next__" :=
 .of (owner := "set_iterator") (n := "__next__") (by rw[Qj2,QdU];kernel_rfl) (by decide +kernel) (by decide +kernel) (by decide +kernel) (by first | exact .inl (by decide +kernel) | exact .inr (by decide +kernel)) (by rw[Qb9];kernel_rfl)
theorem Qni:entryFor table "set_iterator.__next__" = some YV.«set_iterator.__next__» := entryFor_of_fast (by kernel_rfl)
theorem Qxj:Manifest.owners.lookup (String.ofList ['r', 'o', 't', 'a', 'r', 'e', 't', 'i', '_', 't', 'e', 's'].reverse)=some Manifest.sig_set_iterator:=by kernel_rfl
theorem QnR(a:Value):argsOk "set_iterator.__next__" ⟨[a],[]⟩:=by
 unfold argsOk;rw[signature?_of (id := "set_iterator.__next__") (n:=['_', '_', 't', 'x', 'e', 'n', '_', '_']) (o:=['r', 'o', 't', 'a', 'r', 'e', 't', 'i', '_', 't', 'e', 's']) (by kernel_rfl) Qxj];kernel_rfl
theorem Qvd:entryFor table "set.__iter__" = some YV.«frozenset.__iter__» := entryFor_alias (id' := "frozenset.__iter__") (by kernel_rfl) (by first | rfl | decide +kernel | (unfold QsO;simp +decide [Qn9])) (by decide +kernel) (by kernel_rfl)
def IsSI(h:Heap)(I:Addr)(first:Value)(i a n ep:Nat):Prop:=∃o,h.get? I=some o/\o.cls=.type "set_iterator" /\ o.data=.fields #[first,.int i 0,.ref a,.int n 0,.int ep 0]
theorem IsSI.typeIs{s:Shared}{I:Addr}{first:Value}{i a n ep:Nat}(x:IsSI s.heap I first i a n ep):s.TypeIs (.ref I) "set_iterator" := let ⟨o,h,c,_⟩:=x;⟨o,h,c⟩
structure SetAt (h:Heap) (a:Addr) (es:Array (Int×Value)) (ep:Nat) (t:SetTable):Prop where
 at_:∃o,h.get? a=some o/\o.ExactSet/\o.data=.set es ep t
 ft:t.fits es.size=true
section
variable{prog:QF}{w:Jk}{A:Q9}{E:Value->Shared->Prop}{s:Shared}
theorem QuI{I a:Addr}{i ep slot nx:Nat}{es:Array (Int×Value)}{t:SetTable}{x:Value}{Q:Option Value->Shared->Prop}(hit:IsSI s.heap I (.int slot 0) i a es.size ep)(ha:SetAt s.heap a es ep t)
  (hN:∀(A:Q9)(E:Value->Shared->Prop)(Q':Option (Value×Nat)->Shared->Prop),Q' (some (x,nx)) s->wpAny (model prog w) A (setNext a slot i ep) Q' E s)
  (hQ:∀h',IsSI h' I (.int nx 0) (i+1) a es.size ep->QaC I s.heap h'->Q (some x) { s with heap:=h' }):wpAny (model prog w) A (pyNext (.ref I)) Q E s:=by
 obtain⟨o,ho,hc,hd⟩:=id hit;obtain⟨os,hos,hex,hds⟩:=ha.at_;unfold pyNext;refine wpAny_bind (QfK (J6 (name:=Y8 "__next__") hit.typeIs Qdg (JJ Qdg hit.typeIs Qni ?_ (QnR _))));unfold YV.«set_iterator.__next__»
 wp_walk
 rw[hd];refine wpAny_pure ?_
 dsimp only
 refine wpAny_bind (QvP hos hds ha.ft ?_);rw[if_neg (by simp)];refine wpAny_bind ?_
 refine hN _ _ _ ?_
 dsimp only
 refine wpAny_bind (Qb8 ho hd (by simp) ?_);have g1:(s.heap.update I (Qj6 λx=>x.setIfInBounds 0 (rawInt ↑nx))).get? I=some (Qj6 (λx=>x.setIfInBounds 0 (rawInt ↑nx)) o):=JU _ ho (QcQ (Yt hd _));have d1:(Qj6 (λx=>x.setIfInBounds 0 (rawInt ↑nx)) o).data=.fields #[.int nx 0,.int i 0,.ref a,.int es.size 0,.int ep 0]:=by rw[Yt hd];simp[rawInt]
 refine wpAny_bind (Qb8 g1 d1 (by simp) (wpAny_pure ⟨x,rfl,wpAny_pure (hQ _ ?_ ((Zx ..).trans (Zx ..)))⟩));exact⟨_,JU _ g1 (QcQ (Yt d1 _)),(Qe0 ..).trans ((Qe0 ..).trans hc),by rw[Yt d1];simp[rawInt]⟩
theorem QxE{I a:Addr}{i ep slot:Nat}{es:Array (Int×Value)}{t:SetTable}{Q:Option Value->Shared->Prop}(hh:A.handled=none)(hit:IsSI s.heap I (.int slot 0) i a es.size ep)(ha:SetAt s.heap a es ep t)
  (hN:∀(A:Q9)(E:Value->Shared->Prop)(Q':Option (Value×Nat)->Shared->Prop),Q' none s->wpAny (model prog w) A (setNext a slot i ep) Q' E s)
  (hQ:∀h',Heap.ExtBut I s.heap h'->Q none { s with heap:=h' }):wpAny (model prog w) A (pyNext (.ref I)) Q E s:=by
 obtain⟨o,ho,hc,hd⟩:=id hit;obtain⟨os,hos,hex,hds⟩:=ha.at_;unfold pyNext;refine wpAny_bind (QfK (J6 (name:=Y8 "__next__") hit.typeIs Qdg (JJ Qdg hit.typeIs Qni ?_ (QnR _))));unfold YV.«set_iterator.__next__»
 wp_walk
 rw[hd];refine wpAny_pure ?_
 dsimp only
 refine wpAny_bind (QvP hos hds ha.ft ?_);rw[if_neg (by simp)];refine wpAny_bind ?_
 refine hN _ _ _ ?_
 dsimp only
 refine wpAny_bind (Qb8 ho hd (by simp) ?_);refine wpAny_bind ?_
 simp only[newExc,newTuple];refine wpAny_bind (Jx ?_ (by size_fits));refine wpAny_bind (m:=firstArgMember _ _) (ZH (a:=Jz) (by first | rfl | (simp only[firstArgMember];rfl)) ?_);refine Jx ?_ (by size_fits)
 simp only[raiseNew];refine wpAny_bind (wpAny_handled ?_)
 first | rw[show A.in1.handled=none from hh] | rw[hh]
 refine wpAny_bind (wpAny_pure (wpAny_throw ?_));refine wpAny_bind (Qh0 (T := "StopIteration") (b:=true) ⟨_,Qr _ rfl,rfl⟩ (by rw[Qb9];kernel_rfl) ?_);exact wpAny_pure (hQ _ (((Zx ..).extBut.push _).push _))
theorem QrU{a:Addr}{ep slot given:Nat}{es:Array (Int×Value)}{t:SetTable}{Q:Option (Value×Nat)->Shared->Prop}(hb:w.params.followText "set-order" = false)(ha:SetAt s.heap a es ep t)(hp:t.plain=true)(hl:t.led=true)
  (h:Q (match es[Qco t.place slot]?,t.place[Qco t.place slot]? with | some (_,x),some j=>some (x,j+1) | _,_=>none) s):wpAny (model prog w) A (setNext a slot given ep) Q E s:=by
 obtain⟨os,hos,hex,hds⟩:=ha.at_;unfold setNext;refine wpAny_bind (QaN hos hds ha.ft ?_)
 dsimp only
 unfold setsByText;refine wpAny_bind (wpAny_bind (Z0 (wpAny_pure ?_)));rw[show(model prog w).w.params.followText "set-order" = false from hb,if_neg Qm];split
 ·rename_i hdr
  exact absurd (show(!t.plain&&decide (es.size > 1))=true from hdr) (by rw[hp];simp)
 ·refine wpAny_bind ?_
  show wpAny (model prog w) A (if(!t.led && !es.isEmpty)=true then unsupported "set:maker-not-led" else pure ()) _ E s;rw[if_neg (by rw[hl];simp)];exact wpAny_pure (wpAny_pure h)
theorem QlP{a:Addr}{ep slot given:Nat}{es:Array (Int×Value)}{t:SetTable}{Q:Option (Value×Nat)->Shared->Prop}(hb:w.params.followText "set-order" = true)(ha:SetAt s.heap a es ep t)
  (h:Q (((pickOrder (w.params.setOrder a ep) es)[given]?).map λe=>(e.2,slot)) s):wpAny (model prog w) A (setNext a slot given ep) Q E s:=by
 obtain⟨os,hos,hex,hds⟩:=ha.at_;unfold setNext;refine wpAny_bind (QaN hos hds ha.ft ?_)
 dsimp only
 unfold setsByText;refine wpAny_bind (wpAny_bind (Z0 (wpAny_pure ?_)));rw[show(model prog w).w.params.followText "set-order" = true from hb,if_pos rfl,if_neg (by simp)];refine wpAny_bind ?_
 unfold setWalk;refine wpAny_bind (QaN hos hds ha.ft ?_)
 dsimp only
 unfold setsByText;refine wpAny_bind (wpAny_bind (Z0 (wpAny_pure ?_)));rw[show(model prog w).w.params.followText "set-order" = true from hb,if_pos rfl];refine wpAny_bind (Z0 (wpAny_pure ?_));exact wpAny_pure h
theorem Qhb{α:Type}(next:Nat->Nat)(xs:Array α):(pickOrder next xs).toList.Perm xs.toList:=by
 unfold pickOrder;have go:∀(n k:Nat)(left:List α)(out:Array α),left.length=n->(QrC next n k left out).toList.Perm (out.toList++left):=λn=>by
  induction n with
  |zero=>
   intro k left out hl;rw[List.length_eq_zero_iff.mp hl,Zo];exact Qcf _
  |succ n ih=>
   intro k left out hl;have hi:next k % left.length<left.length:=QsR _ (by omega)
   unfold QrC;rw[Qf hi]
   dsimp only
   refine(ih (k+1) _ _ (by rw[List.length_eraseIdx,if_pos hi];omega)).trans ?_
   rw[Array.toList_push,Qbw];refine List.Perm.append_left _ ?_
   have sp:left=left.take (next k % left.length)++left[next k % left.length]::left.drop (next k % left.length+1):=by rw[<- QhV hi,Qk2]
   have pm:=(List.perm_middle (a:=left[next k % left.length]) (l₁:=left.take (next k % left.length)) (l₂:=left.drop (next k % left.length+1))).symm;rw[<- sp,<- Ya] at pm;exact pm
 have:=go xs.size 0 xs.toList #[] (by simp)
 simpa using this
theorem QxU{a:Addr}{ep:Nat}{es:Array (Int×Value)}{t:SetTable}{Q:Value->Shared->Prop}(ha:SetAt s.heap a es ep t)(hp:t.plain=true)
  (hQ:Q (.ref s.heap.objs.size) { s with heap:=s.heap.push { cls:=.type "set_iterator",data:=.fields #[.int 0 0,.int 0 0,.ref a,.int es.size 0,.int ep 0] } }):wpAny (model prog w) A (pyIter (.ref a)) Q E s:=by
 obtain⟨os,hos,hex,hds⟩:=ha.at_;have hT:s.TypeIs (.ref a) "set" := ⟨os,hos,hex.1⟩;refine Qy5 hT PySem.F.slot_set_iter (JJ PySem.F.slot_set_iter hT Qvd ?_ (PySem.F.args_set_iter_1 _));unfold YV.«frozenset.__iter__»
 wp_walk
 have nf:¬(t.place.size != es.size||decide (t.fill > t.mask))=true:=by
  have hf:=ha.ft;simp only[SetTable.fits,JB,beq_iff_eq,decide_eq_true_eq] at hf;simp[hf.1,Nat.not_lt.mpr hf.2]
 rw[hds]
 dsimp only
 rw[if_neg nf];refine wpAny_pure (wpAny_pure (wpAny_pure ?_));refine wpAny_bind ?_
 unfold setDrawn;refine wpAny_bind (QaN hos hds ha.ft ?_)
 dsimp only
 unfold setsByText;refine wpAny_bind (wpAny_bind (Z0 (wpAny_pure ?_)));refine wpAny_pure ?_
 split
 ·rename_i hdr
  have hdr:(!(w.params.followText "set-order")&&(!t.plain&&decide (es.size > 1)))=true:=hdr;rw[hp] at hdr;simp at hdr
 ·refine wpAny_bind (wpAny_pure ?_);refine wpAny_bind (wpAny_setEpoch_of hos hds ha.ft ?_);exact wpAny_bind (Jx (wpAny_pure ⟨_,rfl, "set_iterator",_,⟨_,Qr _ rfl,rfl⟩,Qdg.lookup,hQ⟩))
theorem SetAt.at'{h h':Heap}{a:Addr}{es:Array (Int×Value)}{ep:Nat}{t:SetTable}(x:SetAt h a es ep t)(k:∀o,h.get? a=some o->h'.get? a=some o):SetAt h' a es ep t:=let ⟨o,h1,h2⟩:=x.at_;⟨⟨o,k o h1,h2⟩,x.ft⟩
theorem IsSI.at'{h h':Heap}{I:Addr}{first:Value}{i a n ep:Nat}(x:IsSI h I first i a n ep)(k:∀o,h.get? I=some o->h'.get? I=some o):IsSI h' I first i a n ep:=let ⟨o,h1,h2⟩:=x;⟨o,k o h1,h2⟩
end
structure Way (prog:QF) (w:Jk) (a:Addr) (es:Array (Int×Value)) (ep:Nat) (t:SetTable) (so:Nat->Nat) (vs:Array (Int×Value)):Prop where
 pm:vs.toList.Perm es.toList
 s0:so 0=0
 item:∀(s:Shared)(A:Q9)(E:Value->Shared->Prop)(Q:Option (Value×Nat)->Shared->Prop)(i:Nat)(e:Int×Value),SetAt s.heap a es ep t->vs[i]? = some e->Q (some (e.2,so (i+1))) s->wpAny (model prog w) A (setNext a (so i) i ep) Q E s
 fin:∀(s:Shared)(A:Q9)(E:Value->Shared->Prop)(Q:Option (Value×Nat)->Shared->Prop),SetAt s.heap a es ep t->Q none s->wpAny (model prog w) A (setNext a (so es.size) es.size ep) Q E s
theorem Way.walks{prog:QF}{w:Jk}{A:Q9}(hh:A.handled=none){a:Addr}{es:Array (Int×Value)}{ep:Nat}{t:SetTable}{so:Nat->Nat}{vs:Array (Int×Value)}(W:Way prog w a es ep t so vs)(I:Addr)(hne:a≠I)(self:∀(s:Shared)(Q:Value->Shared->Prop)(E:Value->Shared->Prop)(i:Nat),IsSI s.heap I (.int (so i) 0) i a es.size ep->Q (.ref I) s->wpAny (model prog w) A (pyIter (.ref I)) Q E s) :
  Walks prog w A I [I,a] [I] es.size (λi v=>(vs[i]?).map (·.2)=some v) (λi h=>IsSI h I (.int (so i) 0) i a es.size ep/\SetAt h a es ep t) where
 sub:=λb hb=>by simp at hb;simp[hb]
 frame:=λ_ _ _ st hk=>⟨st.1.at' λo e=>hk I (by simp) o e,st.2.at' λo e=>hk a (by simp) o e⟩
 item:=λi s Q E hi st hQ=>by
  have hl:vs.size=es.size:=by rw[<- Q4,W.pm.length_eq,Q4]
  have hv:vs[i]? = some vs[i]:=by simp[hl,hi]
  refine QuI st.1 st.2 (x:=vs[i].2) (nx:=so (i+1)) (λA E Q' q=>W.item s A E Q' i _ st.2 hv q) λh' hit' hs'=>?_
  refine hQ _ h' s.toks (by rw[hv];rfl) ⟨hit',st.2.at' λo e=>hs'.extBut a o (λz=>hne z) e⟩ λb o hb e=>hs'.extBut b o (λz=>hb (by simp[z])) e
 done:=λs Q E st hQ=>QxE hh st.1 st.2 (λA E Q' q=>W.fin s A E Q' st.2 q) λh' he'=>hQ h' s.toks λb o hb e=>he' b o (λz=>hb (by simp[z])) e
 self:=λi s Q E st hQ=>self s Q E i st.1 hQ
theorem QoB{prog:QF}{w:Jk}(hb:w.params.followText "set-order" = true)(a:Addr)(es:Array (Int×Value))(ep:Nat)(t:SetTable):Way prog w a es ep t (λ_=>0) (pickOrder (w.params.setOrder a ep) es) where
 pm:=Qhb _ _
 s0:=rfl
 item:=λs A E Q i e ha hv q=>QlP hb ha (by rw[hv];exact q)
 fin:=λs A E Q ha q=>QlP hb ha (by
  have hl:(pickOrder (w.params.setOrder a ep) es).size=es.size:=by rw[<- Q4,(Qhb _ _).length_eq,Q4]
  rw[ZL (by omega)];exact q)
theorem Qs4{prog:QF}{w:Jk}(hb:w.params.followText "set-order" = false)(a:Addr)(es:Array (Int×Value))(ep:Nat)(t:SetTable)(hp:t.plain=true)(hl:t.led=true)(hz:t.place.size=es.size)(so:Nat->Nat)(s0:so 0=0)(hs:∀i,i<t.place.size->so (i+1)=t.place.getD i 0+1)(hbel:∀i,i<=t.place.size->Qco t.place (so i)=i):Way prog w a es ep t so es where
 pm:=Qcf _
 s0:=s0
 item:=λs A E Q i e ha hv q=>QrU hb ha hp hl (by
  have hi:i<es.size:=by
   by_cases z:i<es.size
   ·exact z
   ·rw[ZL (by omega)] at hv;cases hv
  rw[hbel i (by omega),hv,show t.place[i]? = some (t.place.getD i 0) by simp[Array.getD,show i<t.place.size by omega]]
  dsimp only
  rw[<- hs i (by omega)];exact q)
 fin:=λs A E Q ha q=>QrU hb ha hp hl (by
  rw[hbel es.size (by omega),ZL (Qg _)];exact q)
section
variable{prog:QF}{w:Jk}{A:Q9}{E:Value->Shared->Prop}{s:Shared}
end
section
variable{prog:QF}{w:Jk}{A:Q9}{E:Value->Shared->Prop}{s:Shared}
structure TS (prog:QF) (w:Jk) (h:Heap) (a:Addr) (es:Array (Int×Value)) (ep:Nat) (t:SetTable) (ps:List (List Int×Addr)):Prop where
 at_:SetAt h a es ep t
 tab:Tab t
 ent:es.toList=ps.map λp=>(tupleKeyHash (intKind prog w) p.1,J7 p.2)
 key:∀p∈ps,IsTupleKey (intKind prog w) h p.1 p.2
 nd:(ps.map (·.1)).Nodup
 rch:∀(i j:Nat)(e:Int×Value),t.place[i]? = some j->es[i]? = some e->Rch t j e.1
 mks:t.mask=7∨t.mask=31∨t.mask=127∨t.mask=511∨t.mask=2047
 few:t.place.size*5<t.mask*3
variable{a:Addr}{es:Array (Int×Value)}{ep:Nat}{t:SetTable}{ps:List (List Int×Addr)}
theorem TS.size(x:TS prog w s.heap a es ep t ps):es.size=ps.length:=by rw[<- Q4,x.ent,Qd]
end
def Sm(m:Nat):List Nat:=(Qt 6).filter m.testBit
def tb(m:Nat)(led:Bool):SetTable:={ mask:=if 5<=(Sm m).length then 31 else 7,place:=(Sm m).toArray,dummies:=#[],finger:=0,led:=led,moves:=if 5<=(Sm m).length then 1 else 0,plain:=true }
def tp(m v:Nat)(led:Bool):SetTable:={ tb m led with place:=(Sm (m ||| 2^v)).toArray }
def pz(m v:Nat):Nat:=((Sm m).filter (· < v)).length
theorem Qs9:∀led:Bool,tb 0 led=SetTable.fresh 0 0 led:=by decide +kernel
theorem Qwi:∀m:Fin 64,∀v:Fin 6,∀led:Bool,m.val.testBit v.val=false->(tb m led).freeSlot (v.val:Int)=some (v.val,false):=by decide +kernel
theorem QzA:∀m:Fin 64,∀v:Fin 6,∀led:Bool,m.val.testBit v.val=false->(tb m led).put v.val=(tp m v led,pz m v):=by decide +kernel
theorem QlA:∀m:Fin 64,∀led:Bool,(tb m led).fits (Sm m).length=true:=by decide +kernel
theorem Qsb:∀m:Fin 64,∀v:Fin 6,∀led:Bool,m.val.testBit v.val=false->(tp m v led).fits ((Sm m).length+1)=true:=by decide +kernel
theorem QoG:∀m:Fin 64,∀v:Fin 6,m.val.testBit v.val=false->Sm (m ||| 2^v.val)=(Sm m).take (pz m v)++v.val::(Sm m).drop (pz m v):=by decide +kernel
theorem Qwh:∀m:Fin 64,∀v:Fin 6,∀led:Bool,m.val.testBit v.val=false->(tp m v led).tooFull=decide ((Sm m).length=4):=by decide +kernel
theorem Qwg:∀m:Fin 64,∀v:Fin 6,∀led:Bool,m.val.testBit v.val=false->(Sm m).length≠4->tp m v led=tb (m ||| 2^v.val) led:=by decide +kernel
theorem Qs8:∀m:Fin 64,∀v:Fin 6,∀led:Bool,m.val.testBit v.val=false->(Sm m).length=4->(tp m v led).relaid ((Sm (m ||| 2^v.val)).map (λ(x:Nat)=>(x:Int))).toArray (Qfd 5)=some (tb (m ||| 2^v.val) led,#[0,1,2,3,4]):=by decide +kernel
theorem QzD:coversAll #[0,1,2,3,4] 5=true:=by decide +kernel
def so(m i:Nat):Nat:=match i with
 |0=>0
 |i+1=>(Sm m).toArray.getD i 0+1
theorem Qta:∀m:Fin 64,∀i:Fin 7,i.val<=(Sm m).length->Qco (Sm m).toArray (so m i)=i:=by decide +kernel
theorem QzB:∀m:Fin 64,∀v:Fin 6,decide (v.val∈Sm m)=m.val.testBit v.val:=by decide +kernel
theorem QA5:∀m:Fin 64,∀v:Fin 6,m.val ||| 2^v.val<64:=by decide +kernel
theorem QzC:∀m:Fin 64,∀v:Fin 6,m.val.testBit v.val=true->m.val ||| 2^v.val=m:=by decide +kernel
theorem Qke:∀m:Fin 64,(Sm m).length<=6:=by decide +kernel
theorem QyE{m x:Nat}(h:x∈Sm m):x<6:=Q0.mp (Qj.mp h).1
theorem QfD:∀v:Fin 6,hashInt (v.val:Int)=(v.val:Int):=by decide +kernel
def EsOk(es:Array (Int×Value))(S:List Nat):Prop:=∃tks:List Tok,tks.length=S.length/\es.toList=QcF (λ(v:Nat)(tk:Tok)=>((v:Int),Yw (v:Int) tk)) S tks
theorem EsOk.size{es:Array (Int×Value)}{S:List Nat}(h:EsOk es S):es.size=S.length:=by
 obtain⟨tks,hl,e⟩:=h;rw[<- Q4,e,Qod,hl,Nat.min_self]
theorem EsOk.ins{es:Array (Int×Value)}{S:List Nat}(h:EsOk es S)(p v:Nat)(tk:Tok):EsOk (JE es p ((v:Int),.int v tk)) (S.take p++v::S.drop p):=by
 obtain⟨tks,hl,e⟩:=h;refine⟨tks.take p++tk::tks.drop p,by simp[hl],?_⟩;rw[SetTable.toList_insertAt,e,List.zipWith_append (by simp[hl]),List.take_zipWith,List.drop_zipWith];rfl
theorem Qs0{S:List Nat}{e:Int×Value}:∀{tks:List Tok},e∈QcF (λ(v:Nat)(tk:Tok)=>((v:Int),Yw (v:Int) tk)) S tks->∃v∈S,∃tk,e=((v:Int),.int v tk):=by
 induction S with
 |nil=>intro tks h;cases tks<;>cases h
 |cons x S ih=>
  intro tks h;cases tks with
  |nil=>cases h
  |cons t tks=>
   rcases Qy.mp h with z | z
   ·exact⟨x,.head _,t,z⟩
   ·obtain⟨v,hv,r⟩:=ih z;exact⟨v,.tail _ hv,r⟩
theorem EsOk.mem{es:Array (Int×Value)}{S:List Nat}(h:EsOk es S){e:Int×Value}(he:e∈es.toList):∃v∈S,∃tk,e=((v:Int),.int v tk):=by
 obtain⟨tks,hl,e'⟩:=h;rw[e'] at he;exact Qs0 he
theorem Qs1{S:List Nat}{v:Nat}(hv:v∈S):∀{tks:List Tok},tks.length=S.length->∃tk,((v:Int),Yw (v:Int) tk)∈QcF (λ(v:Nat)(tk:Tok)=>((v:Int),Yw (v:Int) tk)) S tks:=by
 induction S with
 |nil=>cases hv
 |cons x S ih=>
  intro tks hl;cases tks with
  |nil=>cases hl
  |cons t tks=>
   rcases Qy.mp hv with z | z
   ·subst z;exact⟨t,.head _⟩
   ·obtain⟨tk,h⟩:=ih z (QhU hl);exact⟨tk,.tail _ h⟩
theorem EsOk.has{es:Array (Int×Value)}{S:List Nat}(h:EsOk es S){v:Nat}(hv:v∈S):∃tk,((v:Int),Yw (v:Int) tk)∈es.toList:=by
 obtain⟨tks,hl,e⟩:=h;rw[e];exact Qs1 hv hl
theorem EsOk.hashes{es:Array (Int×Value)}{S:List Nat}(h:EsOk es S):es.map (·.1)=(S.map λ(x:Nat)=>(x:Int)).toArray:=by
 obtain⟨tks,hl,e⟩:=h;apply Qe3.mp
 rw[Qe2,e,Qa3];have:∀(S:List Nat)(tks:List Tok),tks.length=S.length->(QcF (λ(v:Nat)(tk:Tok)=>((v:Int),Yw (v:Int) tk)) S tks).map (·.1)=S.map λ(x:Nat)=>(x:Int):=λS=>by
  induction S with
  |nil=>intro tks _;cases tks<;>rfl
  |cons x S ih=>
   intro tks hl;cases tks with
   |nil=>cases hl
   |cons t tks=>
    show(x:Int)::_=(x:Int)::_;rw[ih tks (QhU hl)]
 exact this S tks hl
theorem EsOk.elems{prog:QF}{w:Jk}{es:Array (Int×Value)}{m:Nat}(h:EsOk es (Sm m)):ElemsOf (intKind prog w) es.toList:=λe he=>by
 obtain⟨v,hv,tk,rfl⟩:=h.mem he;exact⟨⟨(v:Int),Qn8 _ _ _ _,(QfD ⟨v,QyE hv⟩).symm⟩,rfl⟩
structure Sml (h:Heap) (a:Addr) (m:Nat) (led:Bool):Prop where
 ex:∃es ep,SetAt h a es ep (tb m led)/\EsOk es (Sm m)
theorem Sml.at'{h h':Heap}{a:Addr}{m:Nat}{led:Bool}(x:Sml h a m led)(k:∀o,h.get? a=some o->h'.get? a=some o):Sml h' a m led:=by
 obtain⟨es,ep,sa,eo⟩:=x.ex;exact⟨es,ep,sa.at' k,eo⟩
theorem SetAt.store{h:Heap}{a:Addr}{es es':Array (Int×Value)}{ep:Nat}{t t':SetTable}(x:SetAt h a es ep t)(hf:t'.fits es'.size=true):SetAt (h.update a (QsQ es' t')) a es' (ep+1) t':=by
 obtain⟨o,ho,hex,hd⟩:=x.at_;have hg:=JU (QsQ es' t') ho (by rw[putSet_of es' t' hd];rfl);rw[putSet_of es' t' hd] at hg;exact⟨⟨_,hg,hex,rfl⟩,hf⟩
section
variable{prog:QF}{w:Jk}{A:Q9}{E:Value->Shared->Prop}{s:Shared}
theorem QnX{a:Addr}{m v:Nat}{led:Bool}{tk:Tok}{Q:Bool->Shared->Prop}(hm:m<64)(hv:v<6)(x:Sml s.heap a m led)
  (h:∀h' b,QaC a s.heap h'->Sml h' a (m ||| 2^v) led->Q b { s with heap:=h' }):wpAny (model prog w) A (setAddHashed a (.int (v:Int) tk) (hashInt (v:Int))) Q E s:=by
 obtain⟨es,ep,sa,eo⟩:=x.ex;obtain⟨o,ho,hex,hd⟩:=sa.at_;have sz:=eo.size;have l6:=Qke ⟨m,hm⟩;have hel:ElemsOf (intKind prog w) es.toList:=eo.elems;have hb:es.size<scanBound:=by unfold scanBound;have:(Sm m).length<=6:=l6;omega
 unfold setAddHashed setAddHashedIn;refine JT (wpAny_bind (QaN ho hd sa.ft ?_))
 dsimp only
 rw[byScan_of (knd:=intKind prog w) (x:=.int (v:Int) tk) rfl hb hel,if_pos rfl];unfold setAddByScan;refine wpAny_bind (wpAny_bind (wpAny_rule (wpAny_bind (wpAny_setScan_of (knd:=intKind prog w) (k:=(v:Int)) (Qn8 _ _ _ _) ho hd sa.ft hel ?_))));have tm:decide (v∈Sm m)=m.testBit v:=QzB ⟨m,hm⟩ ⟨v,hv⟩;cases hr:List.findIdx? (λe=>(intKind prog w).is (v:Int) e.2) es.toList with
 |some j=>
  obtain⟨hj,hpj,_⟩:=List.findIdx?_eq_some_iff_getElem.mp hr
  obtain⟨u,hu,tk2,eu⟩:=eo.mem (Zw hj);rw[eu] at hpj;have e2:u=v:=by
   have:=(intKind prog w).inj (.int (u:Int) tk2) (v:Int) (u:Int) hpj (Qn8 _ _ _ _);omega
  subst e2;have tb1:m.testBit u=true:=by rw[<- tm];exact decide_eq_true hu
  have e3:m ||| 2^u=m:=QzC ⟨m,hm⟩ ⟨u,hv⟩ tb1
  dsimp only
  refine wpAny_pure (wpAny_pure ?_);have e:s={ s with heap:=s.heap }:=by cases s;rfl
  rw[e];exact h s.heap false (QhX a s.heap) (by rw[e3];exact⟨es,ep,sa,eo⟩)
 |none=>
  have nb:m.testBit v=false:=by
   rw[<- tm];refine decide_eq_false λhu=>?_
   obtain⟨tk2,ht⟩:=eo.has hu;have:=List.findIdx?_eq_none_iff.mp hr _ ht
   rw[Qn8] at this;cases this
  have lay:layNew (tb m led) es (hashInt (v:Int)) (.int (v:Int) tk)=(JE es (pz m v) ((v:Int),.int (v:Int) tk),tp m v led,false,false):=by
   have f1:(tb m led).freeSlot (v:Int)=some (v,false):=Qwi ⟨m,hm⟩ ⟨v,hv⟩ led nb;have f2:(tb m led).put v=(tp m v led,pz m v):=QzA ⟨m,hm⟩ ⟨v,hv⟩ led nb;have f3:(tp m v led).fits ((Sm m).length+1)=true:=Qsb ⟨m,hm⟩ ⟨v,hv⟩ led nb;have ei:=(eo.ins (pz m v) v tk).size;have ei:(JE es (pz m v) ((v:Int),.int (v:Int) tk)).size=(Sm m).length+1:=by rw[ei,<- QoG ⟨m,hm⟩ ⟨v,hv⟩ nb,QoG ⟨m,hm⟩ ⟨v,hv⟩ nb];simp;omega
   unfold layNew;rw[QfD ⟨v,hv⟩];rw[show((⟨v,hv⟩:Fin 6).val:Int)=(v:Int) from rfl,f1]
   dsimp only
   rw[f2]
   dsimp only
   unfold SetTable.orStandIn;rw[ei,f3];rfl
  have eo1:=eo.ins (pz m v) v tk;rw[<- QoG ⟨m,hm⟩ ⟨v,hv⟩ nb] at eo1;have eo1:EsOk (JE es (pz m v) ((v:Int),.int (v:Int) tk)) (Sm (m ||| 2^v)):=eo1;have s1:(JE es (pz m v) ((v:Int),.int (v:Int) tk)).size=(Sm m).length+1:=by
   rw[eo1.size,show Sm (m ||| 2^v)=_ from QoG ⟨m,hm⟩ ⟨v,hv⟩ nb];simp;omega
  dsimp only
  rw[lay]
  dsimp only
  refine wpAny_bind (ZH (a:=()) rfl ?_);rw[if_pos (show(tp m v led).plain=true from rfl),hashByValue_scannable 8 (x:=.int (v:Int) tk) rfl];refine wpAny_bind (wpAny_pure ?_);have pk:plainKind (.int (v:Int) tk)=true:=rfl;simp only[pk,if_true];have m64:m ||| 2^v<64:=QA5 ⟨m,hm⟩ ⟨v,hv⟩;have f3:(tp m v led).fits (JE es (pz m v) ((v:Int),.int (v:Int) tk)).size=true:=by rw[s1];exact Qsb ⟨m,hm⟩ ⟨v,hv⟩ led nb
  have sa1:=sa.store (es':=JE es (pz m v) ((v:Int),.int (v:Int) tk)) (t':=tp m v led) f3;have sb1:=Zx s.heap a (QsQ (JE es (pz m v) ((v:Int),.int (v:Int) tk)) (tp m v led));refine wpAny_bind (Qy3 ho hd ?_ (by rw[s1];show _<=2^24;have:(Sm m).length<=6:=l6;omega));have tf:(tp m v led).tooFull=decide ((Sm m).length=4):=Qwh ⟨m,hm⟩ ⟨v,hv⟩ led nb;rw[tf];by_cases z:(Sm m).length=4
  ·rw[decide_eq_true z,if_pos (show(!false&&true)=true from rfl)];have rl:relayAll (tp m v led) (JE es (pz m v) ((v:Int),.int (v:Int) tk)) (Qfd (JE es (pz m v) ((v:Int),.int (v:Int) tk)).size)=(JE es (pz m v) ((v:Int),.int (v:Int) tk),tb (m ||| 2^v) led,false):=by
    rw[s1,z];have s5:(JE es (pz m v) ((v:Int),.int (v:Int) tk)).size=5:=by rw[s1,z]
    have f4:(tp m v led).relaid ((Sm (m ||| 2^v)).map (λ(x:Nat)=>(x:Int))).toArray (Qfd 5)=some (tb (m ||| 2^v) led,#[0,1,2,3,4]):=Qs8 ⟨m,hm⟩ ⟨v,hv⟩ led nb z;have f5:(tb (m ||| 2^v) led).fits 5=true:=by
     have:=QlA ⟨m ||| 2^v,m64⟩ led;rw[show(Sm (⟨m ||| 2^v,m64⟩:Fin 64).val).length=5 by show(Sm (m ||| 2^v)).length=5;rw[<- eo1.size,s5]] at this;exact this
    unfold relayAll;rw[eo1.hashes,show(4:Nat)+1=5 from rfl,f4]
    dsimp only
    generalize JE es (pz m v) ((v:Int),.int (v:Int) tk)=X at s5;have ex:(#[0,1,2,3,4]:Array Nat).filterMap (X[·]?)=X:=by
     have q:=filterMap_getElem?_range X
     rw[s5] at q;apply Qe3.mp
     rw[Array.toList_filterMap];exact q
    rw[ex,s5,QzD,f5];rfl
   rw[rl]
   dsimp only
   refine wpAny_bind (ZH (a:=()) rfl ?_);obtain⟨o1,ho1,hex1,hd1⟩:=sa1.at_;refine wpAny_bind (Qy3 ho1 hd1 ?_ (by rw[s1];show _<=2^24;omega));refine wpAny_pure ?_
   dsimp only
   refine wpAny_pure (h _ _ (sb1.trans (Zx _ a _)) ⟨_,_,sa1.store (by rw[eo1.size];exact QlA ⟨m ||| 2^v,m64⟩ led),eo1⟩)
  ·rw[decide_eq_false z,if_neg (show ¬(!false&&false)=true by decide)];refine wpAny_pure ?_
   dsimp only
   have tn:tp m v led=tb (m ||| 2^v) led:=Qwg ⟨m,hm⟩ ⟨v,hv⟩ led nb z;have sa2:=sa1;rw[tn] at sa2;rw[tn] at sb1 ⊢;exact wpAny_pure (h _ _ sb1 ⟨_,_,sa2,eo1⟩)
end
section
variable{prog:QF}{w:Jk}{A:Q9}{R:Qj5->Shared->Prop}{I:Addr}{fp wr:List Addr}{n:Nat}{P:Nat->Value->Prop}{St:Nat->Heap->Prop}
end
section
variable{prog:QF}{w:Jk}{A:Q9}{E:Value->Shared->Prop}{s:Shared}{a:Addr}{es:Array (Int×Value)}{ep:Nat}{t:SetTable}{ps:List (List Int×Addr)}
theorem TS.other(x:TS prog w s.heap a es ep t ps){ks:List Int}{b:Addr}(hk:IsTupleKey (intKind prog w) s.heap ks b):b≠a:=λe=>by
 subst e;obtain⟨o,ho,hex,hd⟩:=x.at_.at_;obtain⟨o',it,n,ho',hc,_⟩:=hk;rw[ho] at ho';cases ho';rw[hex.1] at hc;exact absurd hc (by decide)
end
section
variable{prog:QF}{w:Jk}{A:Q9}{E:Value->Shared->Prop}{s:Shared}{a:Addr}{es:Array (Int×Value)}{ep:Nat}{t:SetTable}{ps:List (List Int×Addr)}
end
section
variable{prog:QF}{w:Jk}{A:Q9}{E:Value->Shared->Prop}{s:Shared}
def ledOf(w:Jk):Bool := !w.params.followText "set-order"
end
section
variable{prog:QF}{w:Jk}{s:Shared}{a:Addr}{es:Array (Int×Value)}{ep:Nat}{t:SetTable}{ps:List (List Int×Addr)}
variable{A:Q9}{R:Qj5->Shared->Prop}{I:Addr}{fp wr:List Addr}{n:Nat}{P:Nat->Value->Prop}{St:Nat->Heap->Prop}
end
section
variable{prog:QF}{w:Jk}{A:Q9}{E:Value->Shared->Prop}{s:Shared}
end
theorem QlQ:Slot "set_iterator" "__iter__" "set_iterator.__iter__" :=
 .of (owner := "set_iterator") (n := "__iter__") (by rw[Qj2,QdU];kernel_rfl) (by decide +kernel) (by decide +kernel) (by decide +kernel) (by first | exact .inl (by decide +kernel) | exact .inr (by decide +kernel)) (by rw[Qb9];kernel_rfl)
theorem QAP:entryFor table "set_iterator.__iter__" = some YV.«dict_keyiterator.__iter__» := entryFor_alias (id' := "dict_keyiterator.__iter__") (by kernel_rfl) (by first | rfl | decide +kernel | (unfold QsO;simp +decide [Qn9])) (by decide +kernel) (by kernel_rfl)
theorem QAX(a:Value):argsOk "set_iterator.__iter__" ⟨[a],[]⟩:=by
 unfold argsOk;rw[signature?_of (id := "set_iterator.__iter__") (n:=['_', '_', 'r', 'e', 't', 'i', '_', '_']) (o:=['r', 'o', 't', 'a', 'r', 'e', 't', 'i', '_', 't', 'e', 's']) (by kernel_rfl) Qxj];kernel_rfl
theorem QuV:typeLookup (.type "set") "__len__" = pure (some (.builtin "set.__len__")):=by rw[Qj2,QdU];kernel_rfl
section
variable{prog:QF}{w:Jk}{A:Q9}{E:Value->Shared->Prop}{s:Shared}
theorem Qtm{I a:Addr}{first:Value}{i n ep:Nat}{Q:Value->Shared->Prop}(hit:IsSI s.heap I first i a n ep)(h:Q (.ref I) s):wpAny (model prog w) A (pyIter (.ref I)) Q E s:=by
 refine Qy5 hit.typeIs QlQ (JJ QlQ hit.typeIs QAP ?_ (QAX _));show wpAny _ _ (ret (.ref I)) _ _ s;exact wpAny_pure ⟨_,rfl, "set_iterator",_,hit.typeIs,Qdg.lookup,h⟩
theorem QiA{a:Addr}{es vs:Array (Int×Value)}{ep:Nat}{t:SetTable}{so:Nat->Nat}{Q:List Value->Shared->Prop}(hh:A.handled=none)(W:Way prog w a es ep t so vs)(ha:SetAt s.heap a es ep t)(hp:t.plain=true)(hn:es.size<=sizeLine)
  (hQ:∀(h':Heap)(tk:Nat),(∀b o,s.heap.get? b=some o->h'.get? b=some o)->Q (vs.toList.map (·.2)) { s with heap:=h',toks:=tk }):wpAny (model prog w) A (collect (.ref a)) Q E s:=by
 have hlt:a<s.heap.objs.size:=let ⟨o,ho,_⟩:=ha.at_;Qk ho
 unfold collect;refine wpAny_bind (wpAny_runValue (YU F.entry_proto_collect ?_));rw[Zy F.plain_proto_collect _];show wpAny _ A.in1 (newList [] >>= λl=>again (.builtin "list.__iadd__" ⟨[l,.ref a],[]⟩)) _ _ s;refine wpAny_bind (Jx (wpAny_pure ⟨Qav Qv1 _,YU F.entry_list_iadd ?_⟩));rw[Zy Qv1 _];generalize hH:s.heap.push { cls:=.type "list",data:=.seq ([]:List Value).toArray }=H;have hHs:H.objs.size=s.heap.objs.size+1:=by rw[<- hH,Zm]
 have keep:∀b o,s.heap.get? b=some o->H.get? b=some o:=λb o e=>hH ▸ Qe _ e
 have hS:H.get? s.heap.objs.size=some { cls:=.type "list",data:=.seq ([]:List Value).toArray }:=hH ▸ Qr _ rfl;have ha1:SetAt H a es ep t:=ha.at' λo e=>keep a o e
 have hT:QvC { s with heap:=H } (.ref a) "set" := let ⟨o,ho,hx,_⟩:=ha1.at_;⟨o,ho,hx.1⟩
 show wpAny _ A.in1 (QdG (.ref s.heap.objs.size) (.ref a) (.ref s.heap.objs.size)) _ _ { s with heap:=H };unfold QdG;refine wpAny_bind (QdP hT ?_);have h1:Qej (.ref s.heap.objs.size) (.ref a)=false:=by simp[Qej,QaD hlt]
 have h2:(Qam "set" == Qam "list")=false:=by decide
 have h3:(Qam "set" == Qam "tuple")=false:=by decide
 simp only[h1,h2,h3,Bool.or_false,Zu,if_false];refine wpAny_bind (QxU ha1 hp ?_);generalize hH2:Heap.push H { cls:=.type "set_iterator",data:=.fields #[.int 0 0,.int 0 0,.ref a,.int es.size 0,.int ep 0] }=H2;have keep2:∀b o,H.get? b=some o->H2.get? b=some o:=λb o e=>hH2 ▸ Qe _ e
 have hT2:QvC { s with heap:=H2 } (.ref a) "set" := let ⟨o,ho,hc⟩:=hT;⟨o,keep2 a o ho,hc⟩
 have hI:IsSI H2 H.objs.size (.int (so 0) 0) 0 a es.size ep:=⟨_,hH2 ▸ Qr _ rfl,rfl,by rw[W.s0];rfl⟩;refine wpAny_bind (JT ?_);show wpAny _ A.in1 _ _ _ { s with heap:=H2 };unfold Builtin.List.listLengthHint;refine wpAny_bind (wpAny_specialOf hT2 QuV ?_)
 wp_delta
 refine wpAny_bind (Qh0 (b:=true) hT2 (by rw[Qb9];kernel_rfl) ?_);show wpAny _ A.in1 (typeOf (J7 a) >>= _) _ _ _;refine wpAny_bind (QdP hT2 (wpAny_pure ?_));show wpAny _ A.in1 (rule "list.extend.makes-room" >>= λ_=>Builtin.List.listTouch (.ref s.heap.objs.size) >>= λ_=>again (.builtin "list.extend.loop" ⟨[.ref s.heap.objs.size,.ref H.objs.size,.ref s.heap.objs.size],[]⟩)) _ _ _;refine wpAny_bind (wpAny_rule (wpAny_bind ?_));show wpAny _ A.in1 (updateSeq s.heap.objs.size (·.push .none) >>= λ_=>updateSeq s.heap.objs.size (·.pop)) _ _ _;have hS1:=keep2 _ _ hS;refine wpAny_bind (Qbo hS1 rfl ?_);have hS2:=JU (Zv (·.push Jz)) hS1 rfl;refine Qbo hS2 rfl ?_
 have hS3:=JU (Zv (·.pop)) hS2 rfl;generalize hH3:(H2.update s.heap.objs.size (Zv (·.push Jz))).update s.heap.objs.size (Zv (·.pop))=H3 at hS3 ⊢;have oth:∀b o,b≠s.heap.objs.size->H2.get? b=some o->H3.get? b=some o:=λb o hb e=>hH3 ▸ (Zj _ _ (QaQ hb)).trans ((Zj _ _ (QaQ hb)).trans e)
 have hIS:H.objs.size≠s.heap.objs.size:=by omega
 have hne:a≠H.objs.size:=by rw[hHs];exact QD (YI hlt)
 have hSf:s.heap.objs.size∉[H.objs.size,a]:=by simp only[Qy,Q3,or_false,not_or];exact⟨by omega,QaD hlt⟩
 have WW:=(Way.walks (A:=A.in1) hh W H.objs.size hne λs Q E i st q=>Qtm st q).toS;refine wpAny_pure ⟨Qav F.plain_extend_loop _,codeAny_extend_loopS WW hn _ hSf _ es.size 0 { s with heap:=H3 } _ _ rfl (Jc _) ⟨hI.at' λo e=>oth _ o hIS e,ha1.at' λo e=>oth a o (QD hlt) (keep2 a o e)⟩ hS3 (ItemsOf.nil _) λs' acc' c' hm hS' hacc=>?_⟩;show wpAny _ A (load s.heap.objs.size >>= _) _ _ s';refine wpAny_bind (wpAny_load hS' (wpAny_pure ?_));have hl:vs.size=es.size:=by rw[<- Q4,W.pm.length_eq,Q4]
 have he:acc'.toList=vs.toList.map (·.2):=by
  apply Z9
  intro j;rw[Qv,Qcp,Qcp];by_cases z:j<acc'.size
  ·have:=hacc.2 j acc'[j] (by simp[z]);rw[this];simp[z]
  ·rw[ZL (by omega),ZL (by have:=hacc.1;omega)];rfl
 show Q acc'.toList s';rw[he];have es':s'={ s with heap:=s'.heap,toks:=s'.toks }:=by
  obtain⟨hp',g',d',tk',os'⟩:=s';have e1:=hm.gens;have e2:=hm.drawn;have e3:=hm.os;simp only at e1 e2 e3;rw[e1,e2,e3]
 rw[es'];refine hQ _ _ λb o e=>?_
 have hb:=Qk e;refine hm.heap b o ?_ (oth b o (QD hb) (keep2 b o (keep b o e)))
 simp only[Qy,Q3,or_false,not_or];exact⟨QD hb,by rw[hHs];exact QD (YI hb)⟩
end
end Zt
namespace L2
def blk(X:Cx)(M:List Str)(scope:Y0)(cl:List (Str×Addr))(ex:List Addr)(s3:Shared)(H3:Hp)(C:Addr):Cx where
 prog:=X.prog
 w:=X.w
 K:=X.K
 mg:=X.mg
 base:=X.base
 A:=X.A
 N:=M
 s₀:=s3
 H₀:=H3
 env:=compEnvC scope cl C X.env
 outer:=X.stack
 stack:=X.stack
 ex:=ex
 fn:=λ_=>false
 calm:=X.calm
 pn:=[]
 xe:=λ_ _=>False
def Qbn(env:Env):List (Str×QaR)->List (Str×Addr)->List (Str×Addr)
 |[],acc=>acc
 |(n,k)::r,acc=>Qbn env r (if k=.free then(n,(env.cells.lookup n).getD 0)::acc else acc)
theorem QiD{env:Env}:∀(l:List (Str×QaR))(acc:List (Str×Addr)),(∀x∈l,x.2=.free->∃c,env.cells.lookup x.1=some c) ->
  (forIn (m:=Sem) l acc λx cs=>(if(x.2 == Jh)=true then do let a <- cellOf env x.1;pure (ZC ((x.1,a)::cs)) else pure (ZC cs)))=pure (Qbn env l acc)
 |[],acc,_=>rfl
 |(n,k)::r,acc,h=>by
  rw[QgP];by_cases hk:k=.free
  ·subst hk;obtain⟨c,hc⟩:=h (n,.free) ZR rfl;have e1:cellOf env n=pure c:=by unfold cellOf;rw[hc]
   have e2:Qbn env ((n,.free)::r) acc=Qbn env r ((n,c)::acc):=by
    show Qbn env r (if Jh=.free then(n,(env.cells.lookup n).getD 0)::acc else acc)=_;rw[if_pos rfl,hc];rfl
   rw[e2];show((if(Jh == Jh)=true then do let a <- cellOf env n;pure (ZC ((n,a)::acc)) else pure (ZC acc)) >>= _)=_;rw[if_pos (show(Jh == Jh)=true by decide),e1];exact QiD r _ λx hx=>h x (J4 _ hx)
  ·have hb:(k == Jh)=false:=by simpa using hk
   have e2:Qbn env ((n,k)::r) acc=Qbn env r acc:=by
    show Qbn env r (if k=.free then(n,(env.cells.lookup n).getD 0)::acc else acc)=_;rw[if_neg hk]
   rw[e2];show((if(k == Jh)=true then _ else pure (ZC acc)) >>= _)=_;rw[hb,if_neg Qm];exact QiD r _ λx hx=>h x (J4 _ hx)
theorem Qgw{scope:Y0}{env:Env}(h:∀x∈scope.names,x.2=.free->∃c,env.cells.lookup x.1=some c):closureFor scope env=pure (Qbn env scope.names []):=by
 have e:=QiD (env:=env) scope.names [] h;unfold closureFor;show(forIn scope.names [] _ >>= _)=_;have e':(forIn (m:=Sem) scope.names ([]:List (Str×Addr)) λx cs=>match x with | (name,kind)=>(if(kind == Jh)=true then do let a <- cellOf env name;pure (ZC ((name,a)::cs)) else pure (ZC cs)))=pure (Qbn env scope.names []):=e
 first
  |(rw[e'];rfl)
  |(refine Eq.trans (congrArg (λt=>t >>= _) e') ?_;rfl)
theorem QiE{env:Env}:∀(l:List (Str×QaR))(acc:List (Str×Addr)),(∀x∈l,x.2=.free->∃c,env.cells.lookup x.1=some c)->(∀x c,acc.lookup x=some c->env.cells.lookup x=some c) ->
  (∀x c,(Qbn env l acc).lookup x=some c->env.cells.lookup x=some c)/\(∀x c,acc.lookup x=some c->(Qbn env l acc).lookup x=some c)/\∀x,(x,Jh)∈l->∃c,(Qbn env l acc).lookup x=some c
 |[],acc,_,ha=>⟨ha,λ_ _ h=>h,λ_ h=>nomatch h⟩
 |(n,k)::r,acc,h,ha=>by
  have hr:∀x∈r,x.2=.free->∃c,env.cells.lookup x.1=some c:=λx hx=>h x (J4 _ hx)
  by_cases hk:k=.free
  ·subst hk;obtain⟨c,hc⟩:=h (n,.free) ZR rfl;have e2:Qbn env ((n,.free)::r) acc=Qbn env r ((n,c)::acc):=by
    show Qbn env r (if Jh=.free then(n,(env.cells.lookup n).getD 0)::acc else acc)=_;rw[if_pos rfl,hc];rfl
   rw[e2];have ha':∀x c',((n,c)::acc).lookup x=some c'->env.cells.lookup x=some c':=λx c' q=>by
    rw[Jn] at q;cases hx:x == n with
    |true=>
     rw[hx] at q;have z:c=c':=QJ q;have y:x=n:=by simpa using hx
     rw[y,<- z];exact hc
    |false=>rw[hx] at q;exact ha x c' q
   obtain⟨i1,i2,i3⟩:=QiE r ((n,c)::acc) hr ha';refine⟨i1,λx c' q=>?_,λx hx=>?_⟩
   ·refine i2 x c' ?_
    rw[Jn];cases hx:x == n with
    |true=>
     have y:x=n:=by simpa using hx
     have:=ha x c' q;rw[y,hc] at this;exact this
    |false=>exact q
   ·rcases Qy.mp hx with z | z
    ·cases z;exact⟨c,i2 n c (by rw[Jn,beq_self_eq_true])⟩
    ·exact i3 x z
  ·have e2:Qbn env ((n,k)::r) acc=Qbn env r acc:=by
    show Qbn env r (if k=.free then(n,(env.cells.lookup n).getD 0)::acc else acc)=_;rw[if_neg hk]
   rw[e2];obtain⟨i1,i2,i3⟩:=QiE r acc hr ha;refine⟨i1,i2,λx hx=>?_⟩;rcases Qy.mp hx with z | z
   ·cases z;exact absurd rfl hk
   ·exact i3 x z
theorem Qb1{l:List (Str×QaR)}{x:Str}{k:QaR}(h:l.lookup x=some k):(x,k)∈l:=by
 induction l with
 |nil=>cases h
 |cons p r ih=>
  obtain⟨n,q⟩:=p;rw[Jn] at h;cases hx:x == n with
  |true=>
   rw[hx] at h;have y:x=n:=by simpa using hx
   have z:q=k:=QJ h;subst y z;exact ZR
  |false=>rw[hx] at h;exact J4 _ (ih h)
theorem Qa0{env:Env}:∀{names:List (Str×QaR)}{x:Str}{k:QaR},(names.map λ(n,k)=>if(k == Jh&&env.scope.kind == .function&&env.kindOf n == some .cell) then(n,Yv) else(n,k)).lookup x=some k ->
  names.lookup x=some k∨(k=.cell/\names.lookup x=some .free)
 |[],x,k,h=>by cases h
 |(n,q)::r,x,k,h=>by
  have ih:=@Qa0 env r x k;rw[Js] at h;have h':QgN x ((if(q == Jh&&env.scope.kind == .function&&env.kindOf n == some .cell)=true then(n,Yv) else(n,q))::_)=some k:=h;cases hx:x == n with
  |true=>
   by_cases hc:(q == Jh&&env.scope.kind == .function&&env.kindOf n == some .cell)=true
   ·rw[if_pos hc,Jn,hx] at h';have z:Yv=k:=QJ h';have y:q=.free:=by simp at hc;exact hc.1.1
    refine .inr ⟨z.symm,?_⟩;rw[Jn,hx,y]
   ·rw[if_neg hc,Jn,hx] at h';refine .inl ?_
    rw[Jn,hx];exact h'
  |false=>
   have h2:QgN x (r.map λ(n,k)=>if(k == Jh&&env.scope.kind == .function&&env.kindOf n == some .cell) then(n,Yv) else(n,k))=some k:=by
    by_cases hc:(q == Jh&&env.scope.kind == .function&&env.kindOf n == some .cell)=true
    ·rw[if_pos hc,Jn,hx] at h';exact h'
    ·rw[if_neg hc,Jn,hx] at h';exact h'
   rw[Jn,hx];exact ih h2
theorem relabel_free{env:Env}:∀{names:List (Str×QaR)}{x:Str},names.lookup x=some .free->(names.map λ(n,k)=>if(k == Jh&&env.scope.kind == .function&&env.kindOf n == some .cell) then(n,Yv) else(n,k)).lookup x=some .cell ∨
   (names.map λ(n,k)=>if(k == Jh&&env.scope.kind == .function&&env.kindOf n == some .cell) then(n,Yv) else(n,k)).lookup x=some .free
 |[],x,h=>by cases h
 |(n,q)::r,x,h=>by
  have ih:=@relabel_free env r x;rw[Js];show QgN x ((if(q == Jh&&env.scope.kind == .function&&env.kindOf n == some .cell)=true then(n,Yv) else(n,q))::_)=some .cell∨QgN x ((if(q == Jh&&env.scope.kind == .function&&env.kindOf n == some .cell)=true then(n,Yv) else(n,q))::_)=some .free;cases hx:x == n with
  |true=>
   rw[Jn,hx] at h;have z:q=Jh:=QJ h;subst z;by_cases hc:(Jh == Jh&&env.scope.kind == .function&&env.kindOf n == some .cell)=true
   ·rw[if_pos hc,Jn,hx];exact .inl rfl
   ·rw[if_neg hc,Jn,hx];exact .inr rfl
  |false=>
   rw[Jn,hx] at h;by_cases hc:(q == Jh&&env.scope.kind == .function&&env.kindOf n == some .cell)=true
   ·rw[if_pos hc,Jn,hx];exact ih h
   ·rw[if_neg hc,Jn,hx];exact ih h
def Qfc(N:List Str)(sc:Y0)(M:List Str)(scope:Y0)(cap:List (Option Nat)):Bool:=
 cap.length == M.length&&(M.zip cap).all (λ(x,o)=>match o with
  |none=>scope.names.lookup x == some .local
  |some j=>N[j]? == some x&&(scope.names.lookup x == some .free&&(sc.names.lookup x == some .cell||sc.names.lookup x == some .free))) &&
 (scope.kind == .function&&scope.names.all λy=>y.2 != .cell&&((y.2 != .free||(sc.names.lookup y.1 == some .cell||sc.names.lookup y.1 == some .free))&&(y.2 != .local||scope.names.lookup y.1 == some .local)))
def Qc8(cap:List (Option Nat))(σ:St):St:=cap.map λo=>match o with
 |none=>none
 |some j=>(σ[j]?).getD none
structure CapOk (N:List Str) (sc:Y0) (M:List Str) (scope:Y0) (cap:List (Option Nat)):Prop where
 len:cap.length=M.length
 own:∀(i j:Nat)(x:Str),M[i]? = some x->cap[i]? = some (some j)->N[j]? = some x/\scope.names.lookup x=some .free/\(sc.names.lookup x=some .cell∨sc.names.lookup x=some .free)
 kind:scope.kind=.function
 cell:∀y∈scope.names,y.2≠.cell
 free:∀y∈scope.names,y.2=.free->sc.names.lookup y.1=some .cell∨sc.names.lookup y.1=some .free
 loc:∀y∈scope.names,y.2=.local->scope.names.lookup y.1=some .local
theorem CapOk.of{N:List Str}{sc:Y0}{M:List Str}{scope:Y0}{cap:List (Option Nat)}(h:Qfc N sc M scope cap=true):CapOk N sc M scope cap:=by
 unfold Qfc at h;simp only[JB,JW,beq_iff_eq] at h;obtain⟨⟨h1,h2⟩,h3,h4⟩:=h;refine⟨h1,λi j x e1 e2=>?_,h3,λy hy z=>?_,λy hy z=>?_,λy hy z=>?_⟩
 ·have hm:(x,some j)∈M.zip cap:=by
   have:(M.zip cap)[i]? = some (x,some j):=by rw[List.getElem?_zip_eq_some];exact⟨e1,e2⟩
   exact Ja this
  have:=h2 _ hm;simp only[JB,beq_iff_eq,Qa6] at this;exact this
 ·have:=(h4 y hy).1;simp[z] at this
 ·have:=(h4 y hy).2.1
  simpa [z] using this
 ·have:=(h4 y hy).2.2
  simpa [z] using this
section
variable{X:Cx}{pins:List (Addr×Obj)}{σ:St}{H H3:Hp}{s3:Shared}{M:List Str}{scope:Y0}{cap:List (Option Nat)}{fp:List Addr}{h4:Heap}{t4:Nat}
theorem Cx.Ok.cells(ok:X.Ok){N:List Str}(c:CapOk N X.env.scope M scope cap):∀y∈scope.names,y.2=.free->∃d,X.env.cells.lookup y.1=some d:=λy hy z=>ok.has y.1 (c.free y hy z)
theorem Qc6(I:Inv X pins σ H3 s3)(c:CapOk X.N X.env.scope M scope cap)(hf:∀b∈fp,FpOk X pins H3 b)(hb:∀b∈fp,b<s3.heap.objs.size)
  (hn:h4.Ns s3.heap.objs.size λ_=>none)(hk:∀b o,s3.heap.get? b=some o->h4.get? b=some o) :
  Inv (blk X M scope (Qbn X.env scope.names []) fp s3 H3 s3.heap.objs.size) [] (Qc8 cap σ) H3 { s3 with heap:=h4,toks:=t4 }:=by
 obtain⟨c1,c2,c3⟩:=QiE scope.names [] (I.ok.cells c) (λx d q=>by cases q);refine⟨⟨I.ok.mod,c.kind,I.ok.glob,I.ok.blt,Qg _,λx y d e1 e2=>I.ok.inj x y d (c1 x d e1) (c1 y d e2),λx hx=>?_,(λx d z=>nomatch z),I.ok.hd,I.ok.frames,.inl rfl,λb hb'=>?_,I.bs,
  QU I.ok.bsz I.sz,λb o e z=>?_,λb hb' z=>?_,I.stack,I.stkFree⟩,rfl,I.bare,Un.kept hk,⟨_,hn,λi x v e1 e2 e3=>?_⟩,λx d e=>?_,I.hok.fresh (Qg _),λx d e=>I.freeC x d (c1 x d e),λp hp=>(nomatch hp),I.hok.kept hk,?_⟩
 ·have hx':(relabel scope X.env).names.lookup x=some .cell∨(relabel scope X.env).names.lookup x=some .free:=hx;rcases hx' with q | q
  ·rcases Qa0 q with z | ⟨_,z⟩
   ·exact absurd rfl (c.cell _ (Qb1 z))
   ·exact c3 x (Qb1 z)
  ·rcases Qa0 q with z | ⟨z,_⟩
   ·exact c3 x (Qb1 z)
   ·cases z
 ·obtain⟨f0,f1,f2,f3,f4,f5⟩:=hf b hb';exact⟨QD (hb b hb'),λx d e=>f4 x d (c1 x d e)⟩
 ·obtain⟨f0,f1,f2,f3,f4,f5⟩:=hf b z;rcases f3 with q | q
  ·exact I.ok.noex b o e q
  ·exact absurd (QP (Qk e) (QU I.ok.bsz q)) (YJ _)
 ·obtain⟨f0,f1,f2,f3,f4,f5⟩:=hf b hb';rcases Qy.mp (I.stkSub b z) with q | q
  ·exact f1 q
  ·exact f2 q
 ·have e2':(cap.map λo=>match o with | none=>none | some j=>(σ[j]?).getD none)[i]? = some (some v):=e2;rw[Qv] at e2';cases q:cap[i]? with
  |none=>rw[q] at e2';cases e2'
  |some o=>
   rw[q] at e2';cases o with
   |none=>cases e2'
   |some j=>
    have e4:(σ[j]?).getD none=some v:=QJ e2';have e5:σ[j]? = some (some v):=by
     cases r:σ[j]? with
     |none=>rw[r] at e4;cases e4
     |some o=>rw[r] at e4;exact congrArg some e4
    obtain⟨n1,n2,n3⟩:=c.own i j x e1 q;obtain⟨m,hm,hl⟩:=I.loc;obtain⟨u,ru,lk⟩:=hl j x v n1 e5 (n3.elim (λz=>.inr (.inl z)) λz=>.inr (.inr z));refine⟨u,ru,.inr ?_⟩;rcases lk with⟨k1,_⟩ | ⟨_,d,k2,k3⟩
    ·have k1':X.env.scope.names.lookup x=some .local:=k1;rcases n3 with z | z<;>(rw[z] at k1';cases k1')
    ·obtain⟨d',hd'⟩:=c3 x (Qb1 n2);have ed:d'=d:=by
      have:=c1 x d' hd';rw[k2] at this;exact(QJ this).symm
     subst ed;exact⟨(relabel_free n2:(relabel scope X.env).names.lookup x=some .cell∨(relabel scope X.env).names.lookup x=some .free),d',hd',k3.keeps hk⟩
 ·obtain⟨v,q⟩:=I.cell x d (c1 x d e);exact⟨v,q.keeps hk⟩
 ·show(cap.map _).length=M.length;rw[Qd];exact c.len
theorem QnO{σ':St}{s':Shared}{h':Heap}(I:Inv X pins σ H3 s3)(hf:∀b∈fp,FpOk X pins H3 b)(J:Inv (blk X M scope (Qbn X.env scope.names []) fp s3 H3 s3.heap.objs.size) [] σ' H s')(hs:QaC s3.heap.objs.size s'.heap h') :
  Inv X pins σ H { s' with heap:=h' }:=by
 have u:Un (frs X.stack) fp H3 H s3.heap s'.heap:=J.base;have ne:∀b o,s3.heap.get? b=some o->b≠s3.heap.objs.size:=λb o e=>QD (Qk e)
 have hC:H s3.heap.objs.size=none:=J.free;refine I.call' (ch:=fp) (s':={ s' with heap:=h' }) J.os ⟨λb o e n hb hx=>(hs.2 b (ne b o e)).trans (u.keep b o e n hb hx),λb o e n hb hx=>?_,u.free,λb o e hx=>?_,u.tups,u.frzs,u.tbls⟩ (λb o e=>?_) J.bare λb hb=>?_
 ·obtain⟨sl,q⟩:=u.slot b o e n hb hx;exact⟨sl,(hs.2 b (ne b o e)).trans q⟩
 ·obtain⟨o',q⟩:=u.there b o e hx;exact⟨o',(hs.2 b (ne b o e)).trans q⟩
 ·refine(J.hok b o e).stay (λc v hc q=>(hs.2 c ?_).trans q) (λ_ q=>q) λ_ _ q=>q
  rintro rfl;rcases hc with z | z
  ·rw[<- z,hC] at e;cases e
  ·rw[hC] at z;cases z
 ·obtain⟨f0,f1,f2,f3,f4,f5⟩:=hf b hb;exact⟨f3,f1,f4,f5⟩
end
def Wk:St->St->Prop
 |[],[]=>True
 |none::a,_::b=>Wk a b
 |some v::a,some u::b=>v=u/\Wk a b
 |_,_=>False
theorem Wk.len:∀{a b:St},Wk a b->a.length=b.length
 |[],[],_=>rfl
 |none::a,_::b,h=>congrArg (·+1) (Wk.len (a:=a) (b:=b) h)
 |some v::a,some u::b,h=>congrArg (·+1) (Wk.len (a:=a) (b:=b) h.2)
 |[],_::_,h=>h.elim
 |some _::_,[],h=>h.elim
 |none::_,[],h=>h.elim
 |some _::_,none::_,h=>h.elim
theorem Wk.get:∀{a b:St},Wk a b->∀(i:Nat) v,a[i]? = some (some v)->b[i]? = some (some v)
 |[],[],_,i,v,h=>by simp at h
 |none::a,x::b,h,0,v,e=>by simp at e
 |none::a,x::b,h,i+1,v,e=>by
  simp only[Yi] at e ⊢;exact Wk.get (a:=a) (b:=b) h i v e
 |some q::a,some u::b,h,0,v,e=>by
  simp only[QiU] at e ⊢;rw[<- h.1];exact e
 |some q::a,some u::b,h,i+1,v,e=>by
  simp only[Yi] at e ⊢;exact Wk.get (a:=a) (b:=b) h.2 i v e
 |[],_::_,h,_,_,_=>h.elim
 |some _::_,[],h,_,_,_=>h.elim
 |none::_,[],h,_,_,_=>h.elim
 |some _::_,none::_,h,_,_,_=>h.elim
theorem Inv.wk{X:Cx}{pins:List (Addr×Obj)}{σ σ':St}{H:Hp}{s:Shared}(I:Inv X pins σ H s)(h:Wk σ' σ):Inv X pins σ' H s:=I.weak h.len h.get
def Qib(J:It)(body:V->Hp->(Hp->Prop)->Prop)(Qn:Hp->Prop)(H:Hp):Prop:=
 ∃W:Nat->Nat->Hp->Prop,(∃m,W 0 m H)/\∀i m H2,W i m H2->(J.stop i H2/\Qn H2)∨(J.go i H2/\∀x H3,J.yld i H2 x H3->body x H3 λH6=>∃m',m'<m/\W (i+1) m' H6)
abbrev Act:=(Shared->Prop)->Shared->Prop
def BodyOk(Y:Cx)(σ:St)(act:Act)(b:Hp->(Hp->Prop)->Prop):Prop:=
 ∀(pins:List (Addr×Obj))(s:Shared)(H:Hp)(k:Hp->Prop)(Q:Shared->Prop),Inv Y pins σ H s->b H k->(∀s' H',Inv Y pins σ H' s'->k H'->Q s')->act Q s
theorem Qc4{Y:Cx}{σ:St}{tg:QV}{elt:QV}{gens:List QcU}{scope:Y0}{cpos:Pos}{d:Nat}{it D:Addr}{fp:List Addr}{tn:Nat->Heap->Prop}{J:It}{pins:List (Addr×Obj)}{s:Shared}{H:Hp}{body:V->Hp->(Hp->Prop)->Prop}{Qn:Hp->Prop}{R:Qj5->Shared->Prop}{act:Value->Act}
  (hc:Y.calm=true)(T:Turn Y.prog Y.w Y.K tg J fp it tn)(st:tn 0 s.heap)(hf:∀b∈fp,FpOk Y pins H b)
  (hturn:∀(Q:PySem.Fin->Shared->Prop)(E:Value->Shared->Prop)(s:Shared),wpAny (model Y.prog Y.w) Y.A (pyNext (.ref it)) (λr s1=>match r with
   |none=>Q (.done .next) s1
   |some v=>wpAny (model Y.prog Y.w) Y.A (letOwnedTupleGo tg (.ref it) v) (λ_ s2=>act v (λs3=>Q (.again (.compLoop (.ListComp elt gens scope cpos) d (.ref it) (.ref D) Y.env)) s3) s2) E s1) E s ->
   wpAny (model Y.prog Y.w) Y.A (compTurn (.ListComp elt gens scope cpos) d (.ref it) (.ref D) Y.env) Q E s)
  (hact:∀(x:V)(u:Value),RelV x u->BodyOk Y σ (act u) (body x))
  (I:Inv Y pins σ H s)(h:Qib J body Qn H)(hR:∀s' H',Inv Y pins σ H' s'->Qn H'->R (.ok .next) s') :
  codeAny (model Y.prog Y.w) Y.A (.compLoop (.ListComp elt gens scope cpos) d (.ref it) (.ref D) Y.env) R s:=by
 obtain⟨W,⟨m0,w0⟩,turn⟩:=h;have stat:∀{H':Hp},(∀b∈fp,H' b=none)->∀b∈fp,FpOk Y pins H' b:=λhn b hb=>⟨hn b hb,(hf b hb).2⟩
 refine codeAny_loop rfl (λn s'=>∃i H',Inv Y pins σ H' s'/\tn i s'.heap/\(∀b∈fp,H' b=none)/\W i n H') (λn s3 hI=>?_) m0 ⟨0,H,I,st,λb hb=>(hf b hb).1,w0⟩;show wpAny _ Y.A ((compTurn (.ListComp elt gens scope cpos) d (.ref it) (.ref D) Y.env).onRaise (λx=>do noteFrame x Y.env;theTreesLotGoes x)) _ _ s3;refine wpAny_noted (hturn _ _ _ ?_);obtain⟨i,H3,I3,st3,fr3,w3⟩:=hI;rcases turn i n H3 w3 with⟨stop,qn⟩ | ⟨go,step⟩
 ·refine thn (T.done Y rfl rfl rfl hc i pins s3 σ H3 _ I3 (stat fr3) st3 stop) λr s4 ⟨hr,I4⟩=>?_
  subst hr;exact hR s4 H3 I4 qn
 ·refine thn (T.item Y rfl rfl rfl hc i pins s3 σ H3 _ I3 (stat fr3) st3 go) λr s4 ⟨u,hr,h4⟩=>?_
  subst hr;refine thn h4 λ_ s5 ⟨x,H5,I5,r5,y5,st5,fr5⟩=>?_
  have I5':=I5.pinned (stat fr5) (T.obj _ _ st5);refine hact x u r5 _ s5 H5 _ _ I5' (step x H5 y5) λs7 H7 I7 ⟨m',hm,w7⟩=>?_
  refine⟨rfl,m',hm,i+1,H7,I7.unpinned,T.keep _ _ _ st5 λb hb o e=>(I7.pin (b,o) (QB _ (QB _ (Ye hb e)))).1,λb hb=>?_,w7⟩;obtain⟨o,e,dd⟩:=T.obj _ _ st5 b hb;exact(I7.pin (b,o) (QB _ (QB _ (Ye hb e)))).2.1
abbrev Qh8 (ifs:List QV) (env:Env):Sem Bool:=forIn ifs true λc r=>if r=true then do let ok <- isTrue c env (eval c env);pure (ZC ok) else pure (ZC r)
def PTs(Y:Cx)(ifs:List QV)(t:TT):Prop:=
 ∀(pins:List (Addr×Obj))(s:Shared)(σ:St)(H:Hp)(Q:Bool->Hp->Prop),Inv Y pins σ H s->t σ H Q->wpAny (model Y.prog Y.w) Y.A (Qh8 ifs Y.env) (TP Y pins σ Q) Y.xe s
def Qtb:TT:=λ_ H Q=>Q true H
theorem QtH{Y:Cx}:PTs Y [] Qtb:=λpins s σ H Q I h=>wpAny_tests_nil ⟨H,I,h⟩
theorem Qme{Y:Cx}{c:QV}{t:TT}(h:PT Y c t):PTs Y [c] t:=λpins s σ H Q I q=>wpAny_tests_one (h pins s σ H Q I q)
def QnY(Y:Cx)(tg:QV)(ifs:List QV)(inner:Act):Value->Act:=λu Q s=>
 wpAny (model Y.prog Y.w) Y.A (assign tg Y.env u) (λ_ s4=>wpAny (model Y.prog Y.w) Y.A (Qh8 ifs Y.env) (λok s5=>if ok=true then inner Q s5 else Q s5) (λ_ _=>False) s4) (λ_ _=>False) s
def bOf(σ:St)(g:TG)(tc:TT)(inner:St->Hp->(Hp->Prop)->Prop):V->Hp->(Hp->Prop)->Prop:=λx H k=>g x σ H λσ4 H4=>Wk σ σ4/\tc σ4 H4 λb H5=>
 if b=true then inner σ4 H5 k else k H5
theorem QeS{Y:Cx}{σ:St}{tg:QV}{ifs:List QV}{g:TG}{tc:TT}{inner:Act}{ri:St->Hp->(Hp->Prop)->Prop}(hx:Y.xe=λ_ _=>False)(hg:PG Y tg g)(ht:PTs Y ifs tc)(he:∀σ4,BodyOk Y σ4 inner (ri σ4))(x:V)(u:Value)(r:RelV x u) :
  BodyOk Y σ (QnY Y tg ifs inner u) (bOf σ g tc ri x):=by
 intro pins s H k Q I h hQ;have hx':∀(v:Value)(s':Shared),Y.xe v s'->False:=λv s' z=>by rw[hx] at z;exact z
 refine wpAny_mono (hg pins s σ H x u _ I r h) (λ_ s4 ⟨σ4,H4,I4,wk,q4⟩=>?_) hx';refine wpAny_mono (ht pins s4 σ4 H4 _ I4 q4) (λb s5 ⟨H5,I5,q5⟩=>?_) hx';cases b with
 |false=>
  rw[if_neg Qm] at q5;rw[if_neg Qm];exact hQ s5 H5 (I5.wk wk) q5
 |true=>
  rw[if_pos rfl] at q5;rw[if_pos rfl];exact he σ4 pins s5 H5 k Q I5 q5 λs' H' I' k'=>hQ s' H' (I'.wk wk) k'
def Qn1(Y:Cx)(elt:QV)(D:Addr):Act:=λQ s=>wpAny (model Y.prog Y.w) Y.A (eval elt Y.env) (λv s6=>wpAny (model Y.prog Y.w) Y.A (call (.builtin "list.append") [.ref D,v]) (λ_ s7=>Q s7) (λ_ _=>False) s6) (λ_ _=>False) s
def Qyw(p:Addr)(te:TE):St->Hp->(Hp->Prop)->Prop:=λσ H k=>te σ H λv H6=>∃ys,H6 p=some (.lst ys)/\ys.length<sizeLine/\k (upd H6 p (.lst (ys++[v])))
theorem QgB{Y:Cx}{σ:St}{elt:QV}{te:TE}{D:Addr}(hx:Y.xe=λ_ _=>False)(he:PE Y elt te):BodyOk Y σ (Qn1 Y elt D) (Qyw D te σ):=by
 intro pins s H k Q I h hQ;have hx':∀(v:Value)(s':Shared),Y.xe v s'->False:=λv s' z=>by rw[hx] at z;exact z
 refine wpAny_mono (he pins s σ H _ I h) (λv s6 ⟨y,H6,I6,r6,ys,e,hz,q⟩=>?_) hx';exact wpAny_mono (QeA (X:=Y) pins s6 σ H6 (.ref D) [y] (.ref D) [v] (λ_ H'=>k H') I6 rfl (.cons r6 .nil) ⟨D,ys,y,rfl,rfl,e,hz,q⟩) (λ_ s7 ⟨_,H7,I7,_,q7⟩=>hQ s7 H7 I7 q7) hx'
theorem QiZ{Y:Cx}{elt tg iter:QV}{ifs:List QV}{scope:Y0}{cpos:Pos}{it D:Addr}(Q:PySem.Fin->Shared->Prop)(E:Value->Shared->Prop)(s:Shared)
  (h:wpAny (model Y.prog Y.w) Y.A (pyNext (.ref it)) (λr s1=>match r with
   |none=>Q (.done .next) s1
   |some v=>wpAny (model Y.prog Y.w) Y.A (letOwnedTupleGo tg (.ref it) v) (λ_ s2=>QnY Y tg ifs (Qn1 Y elt D) v (λs3=>Q (.again (.compLoop (.ListComp elt [⟨tg,iter,ifs,0⟩] scope cpos) 0 (.ref it) (.ref D) Y.env)) s3) s2) E s1) E s) :
  wpAny (model Y.prog Y.w) Y.A (compTurn (.ListComp elt [⟨tg,iter,ifs,0⟩] scope cpos) 0 (.ref it) (.ref D) Y.env) Q E s:=by
 rw[compTurn_list];refine wpAny_bind (wpAny_standAt (wpAny_bind (thn h λr s1 h1=>?_)));cases r with
 |none=>exact wpAny_pure h1
 |some v=>
  refine wpAny_bind (thn h1 λ_ s2 h2=>?_);refine wpAny_bind (wpAny_mono h2 (λ_ s4 h4=>wpAny_bind (wpAny_mono h4 (λok s5 h5=>?_) λ_ _ f=>f.elim)) λ_ _ f=>f.elim);cases ok with
  |false=>exact wpAny_pure h5
  |true=>exact wpAny_bind (wpAny_bind (wpAny_mono h5 (λx s6 h6=>wpAny_bind (wpAny_mono h6 (λ_ s7 h7=>wpAny_pure (wpAny_pure h7)) λ_ _ f=>f.elim)) λ_ _ f=>f.elim))
def tComp(cap:List (Option Nat))(wi:TI)(g:TG)(tc:TT)(te:TE):TE:=λσ H Q=>wi σ H λJ H1=>∀p,H1 p=none->Qib J (bOf (Qc8 cap σ) g tc (Qyw p te)) (Q (.ref p)) (upd H1 p (.lst []))
theorem FpOk.upd{X:Cx}{pins:List (Addr×Obj)}{H:Hp}{b a:Addr}{o:HO}(h:FpOk X pins H b)(hne:b≠a):FpOk X pins (upd H a o) b:=⟨by rw[JM hne];exact h.1,h.2⟩
theorem Qpa{X:Cx}{M:List Str}{cap:List (Option Nat)}{elt tg iter:QV}{ifs:List QV}{scope:Y0}{pos:Pos}{wi:TI}{g:TG}{tc:TT}{te:TE}(hc:X.calm=true)(ok:Qfc X.N X.env.scope M scope cap=true)
  (hi:PI X tg iter wi)(hb:∀cl ex s3 H3 C,PG (blk X M scope cl ex s3 H3 C) tg g/\PTs (blk X M scope cl ex s3 H3 C) ifs tc/\PE (blk X M scope cl ex s3 H3 C) elt te)
  (hs:∀x,foldedSetIterable iter X.env x=pure x:=by intro _;rfl):PE X (.ListComp elt [⟨tg,iter,ifs,0⟩] scope pos) (tComp cap wi g tc te):=by
 intro pins s σ H Q I h;have c:=CapOk.of ok;rw[eval_ListComp];refine Qal (use:=none) rfl hs (Qgw (I.ok.cells c)) c.kind c.loc ?_
 refine thn (hi pins s σ H _ I h) λv s1 h1=>thn h1 λitv s2 h2=>?_
 obtain⟨it,fp,tn,J,H2,e,I2,T,st2,f2,hW⟩:=h2;subst e;refine Jx (Qbe c.cell (by intro y hy;simp at hy) (λh₁ hns₁ hsb₁=>?_) c.kind);have I3:Inv X pins σ (upd H2 s2.heap.objs.size (.lst [])) { s2 with heap:=s2.heap.push { cls:=.type "list",data:=.seq ([]:List Value).toArray } }:=I2.lnew (t':=s2.toks) (ys:=[]) .nil (Jc _);have lt2:∀b∈fp,b<s2.heap.objs.size:=λb hb=>by obtain⟨o,e,_⟩:=T.obj _ _ st2 b hb;exact Qk e
 have f3:∀b∈fp,FpOk X pins (upd H2 s2.heap.objs.size (.lst [])) b:=λb hb=>(f2 b hb).upd (QD (lt2 b hb))
 generalize hs3:({ s2 with heap:=s2.heap.push { cls:=.type "list",data:=.seq ([]:List Value).toArray } }:Shared)=s3 at I3;have e3:s3.heap=s2.heap.push { cls:=.type "list",data:=.seq ([]:List Value).toArray }:=by rw[<- hs3]
 have z3:s3.heap.objs.size=s2.heap.objs.size+1:=by rw[e3,Zm]
 have hk:∀b o,s3.heap.get? b=some o->h₁.get? b=some o:=λb o e=>hsb₁.extBut b o (by
  have:=Qk e;rw[e3] at this;exact QD this) (Qe _ (e3 ▸ e))
 have hn₁:h₁.Ns s3.heap.objs.size λ_=>none:=by rw[e3];exact hns₁
 have B:=Qc6 (t4:=s3.toks+([]:List (Str×Value)).length) (fp:=fp) I3 c f3 (λb hb=>by rw[z3];exact YI (lt2 b hb)) hn₁ hk;have st4:tn 0 h₁:=T.keep _ _ _ st2 λb hb o e=>hk b o (by rw[e3];exact Qe _ e)
 have fp4:∀b∈fp,FpOk (blk X M scope (Qbn X.env scope.names []) fp s3 (upd H2 s2.heap.objs.size (.lst [])) s3.heap.objs.size) [] (upd H2 s2.heap.objs.size (.lst [])) b:=λb hb=>by
  refine⟨(f3 b hb).1,(B.ok.exf b hb).1,B.ok.exfs b hb,.inl hb,(B.ok.exf b hb).2,λp hp=>(nomatch hp)⟩
 obtain⟨hg,ht,he⟩:=hb (Qbn X.env scope.names []) fp s3 (upd H2 s2.heap.objs.size (.lst [])) s3.heap.objs.size;have loop:codeAny (model X.prog X.w) X.A (.compLoop (.ListComp elt [⟨tg,iter,ifs,0⟩] scope pos) 0 (.ref it) (.ref s2.heap.objs.size) (compEnvC scope (Qbn X.env scope.names []) s3.heap.objs.size X.env))
   (compPost (model X.prog X.w) X.A X.xe none (EP X pins σ Q) (.ref s2.heap.objs.size) s3.heap.objs.size) { s3 with heap:=h₁,toks:=s3.toks+([]:List (Str×Value)).length }:=by
  refine Qc4 (Y:=blk X M scope (Qbn X.env scope.names []) fp s3 (upd H2 s2.heap.objs.size (.lst [])) s3.heap.objs.size) (gens:=[⟨tg,iter,ifs,0⟩]) (d:=0) hc T st4 fp4
   (λQ E s h=>QiZ Q E s h) (λx u r=>QeS rfl hg ht (λσ4=>QgB rfl he) x u r) B (hW _ (I2.hok.fresh (Qg _))) λs' H' I' q=>?_
  obtain⟨m,hn,_⟩:=I'.loc;exact⟨m,hn,λh' hs'=>⟨.ref s2.heap.objs.size,H',QnO I3 f3 I' hs',rfl,q⟩⟩
 exact Qdb loop (T.self _ 0 _ _ _ st4 loop)
section
variable{X:Cx}
theorem QiJ:CallR X (.builtin "isinstance") (λxs H Q=>∃x t T b,xs=[x,.ty T]/\TyOf X.K H x t/\PySem.W.kitOne X.K t (.type T)=some b/\Q (.bl b) H):=by
 intro pins s σ H xs us Q I r h;obtain⟨x,t,T,b,rfl,ty,e,q⟩:=h;obtain⟨u,v,rfl,ru,rv⟩:=vals2 r;cases(show v=Qam T from rv);exact Qm4 I ru ty e λtk=>⟨.bl b,H,I.tok tk,rfl,q⟩
theorem Qrr{bs:List Bool}:∀{us:List Value},Vals (bs.map V.bl) us->LSm.BoolsAre us bs:=by
 induction bs with
 |nil=>intro us r;cases r;exact .nil
 |cons b bs ih=>
  intro us r;cases r with
  |cons r t=>
   cases(show _=Qbq b from r);exact .cons b (ih t)
theorem Qb7:CallR X (.builtin "all") (λxs H Q=>∃(p:Addr)(bs:List Bool),xs=[.ref p]/\SqL X.K H p (bs.map V.bl)/\X.calm=true/\Q (.bl (bs.all id)) H):=by
 intro pins s σ H xs us Q I r h;obtain⟨p,bs,rfl,hp,hc,q⟩:=h;obtain⟨u,rfl,ru⟩:=vals1 r;cases ru;obtain⟨its,rv,pl,hz⟩:=I.list hp;have hl:=pl.isList;have hb:=Qrr rv;have hlt:p<s.heap.objs.size:=by obtain⟨_,e,_⟩:=hl;exact Qk e
 refine call_all_walk (QgU hl ?_);refine⟨s.heap.objs.size,[s.heap.objs.size,p],[s.heap.objs.size],its.toArray.size,_,_,λi=>(bs[i]?).getD true,rfl,Walks.list (A:=X.A.in1) (I.ok.hd hc) _ p (QD hlt) its.toArray,
  ⟨⟨_,Qr _ rfl,rfl,rfl⟩,hl.push _⟩,λi v s' Q' E' hP hQ=>?_,λh' tk hk=>?_⟩
 ·obtain⟨b,e,rfl⟩:=hb.get i v (by simpa using hP);simp only[e,Option.getD_some] at hQ;exact Zp hQ
 ·have e:((Qt its.toArray.size).all λi=>(bs[i]?).getD true)=bs.all id:=by
   rw[Ql,hb.length];exact LSm.range_all bs
  rw[e];exact⟨.bl _,H,I.kept (LSm.kept_iter hk),rfl,q⟩
def QBb:V->Option Int->Option Int->Hp->VK->Prop:=λx lo hi H Q=>∃a xs,x=.ref a/\H a=some (.tup xs)/\∀p H',Same H H'->H' p=some (.tup (QjX xs lo hi))->Q (.ref p) H'
theorem JI{H:Hp}{p:Addr}{o:HO}(h:H p=none):Same H (upd H p o):=λb u e=>by rw[JM (ZX e h)];exact e
theorem Qcx{prog:QF}{w:Jk}{A:Q9}{E:Value->Shared->Prop}{s:Shared}{t sl:Addr}{items:Array Value}{vl vu:Value}{lo hi:Option Int}{Q:Value->Shared->Prop}(ht:IsTup s.heap t items)(hs:s.heap.IsSliceOf sl vl vu .none)(pl:QhW vl lo)(pu:QhW vu hi)
  (h1:HT.sIx items.size 0 lo=0)(h2:HT.sIx items.size items.size hi=items.size)(h:Q (.ref t) s):wpAny (model prog w) A (getItem (.ref t) (.ref sl)) Q E s:=by
 obtain⟨os,hos,hcs,hds⟩:=id hs;have hTs:s.TypeIs (.ref sl) "slice" := ⟨os,hos,hcs⟩;unfold getItem
 try with_reducible refine JT ?_
 first | refine wpAny_bind (wpAny_pure ?_) | skip
 refine wpAny_bind (Qy4 ht.typeIs (by decide) ?_);refine wpAny_bind (J6 (name:=Y8 "__getitem__") ht.typeIs JR
  (JJ JR ht.typeIs QvS ?_ (QyJ _ _)))
 show wpAny _ _ (QdE (.ref t) >>= _) _ _ s;refine wpAny_bind (tupleItemsOf_ ht ?_);refine wpAny_bind (QdP hTs ?_);rw[if_pos (by decide)];refine wpAny_bind (HT.Qbm hs pl pu ?_);show wpAny _ _ (if(((HT.sIx items.size 0 lo:Nat):Int) == 0&&(1:Int) == 1&&(HT.sIx items.size items.size hi - HT.sIx items.size 0 lo) == items.size)=true then _ else _) _ _ s;rw[if_pos (by rw[h1,h2];simp)];refine wpAny_bind (m:=Qzu _) (wpAny_bind (QdP ht.typeIs (wpAny_pure ?_)));rw[if_pos (by decide)];exact wpAny_bind (wpAny_rule (wpAny_pure ⟨_,rfl,wpAny_pure h⟩))
theorem Qwv:SlR X QBb:=by
 intro pins s σ H x v vl vu lo hi sl Q I rx hs pl pu h;obtain⟨a,xs,rfl,hx,q⟩:=h;by_cases hw:HT.sIx xs.length 0 lo=0/\HT.sIx xs.length xs.length hi=xs.length
 ·cases rx;obtain⟨its,r,ht,hz⟩:=I.tuple (SqT.of hx);have hlen:its.toArray.size=xs.length:=by rw[Ql];exact r.length.symm
  refine⟨"tuple",_,JR.lookup,ht.typeIs,?_⟩;refine Qcx ht hs pl pu (by rw[hlen];exact hw.1) (by rw[hlen];exact hw.2) ?_
  refine⟨.ref a,H,I,rfl,q a H (Same.refl H) ?_⟩;have e:QjX xs lo hi=xs:=by
   unfold QjX;rw[hw.1,hw.2];simp
  rw[e];exact hx
 ·exact Qwu pins s σ H (.ref a) v vl vu lo hi sl Q I rx hs pl pu ⟨a,xs,rfl,SqT.of hx,hw,λp hp=>q p _ (JI hp) Jy⟩
def QwO:R2:=λx y H Q=>∃a b xs ys,x=.ref a/\y=.ref b/\H a=some (.tup xs)/\H b=some (.tup ys)/\xs.length+ys.length<=sizeLine/\∀p H',Same H H'->H' p=some (.tup (xs++ys))->Q (.ref p) H'
theorem Qut:OpR X (binaryOp .Add) QwO:=by
 intro pins s σ H x y v u Q I rx ry h;obtain⟨a,b,xs,ys,rfl,rfl,ha,hb,hz,q⟩:=h;by_cases hx:xs=[]
 ·subst hx;cases rx;cases ry;obtain⟨its,r1,p1,_⟩:=I.tuple (SqT.of ha);obtain⟨its2,r2,p2,_⟩:=I.tuple (SqT.of hb);cases r1;obtain⟨⟨cls,dd,data,sl⟩,ho,hc,n,hd⟩:=id p1;obtain⟨⟨cls2,dd2,data2,sl2⟩,ho2,hc2,n2,hd2⟩:=id p2;simp only at hc hd hc2 hd2;subst hc hd hc2 hd2;exact QsM ⟨_,ho,rfl⟩ ⟨_,ho2,rfl⟩ Qh2 Qon PySem.F.slot_tuple_add PySem.F.entry_tuple_add (PySem.F.args_tuple_add_2 _ _)
   (tuple_addW0 a b #[] its2.toArray n n2 dd dd2 sl sl2 rfl) ⟨ho,ho2,⟨.ref b,H,I,rfl,q b H (Same.refl H) hb⟩⟩
 ·exact Qus pins s σ H _ _ v u Q I rx ry ⟨a,b,xs,ys,rfl,rfl,SqT.of ha,SqT.of hb,hx,hz,λe=>q a H (Same.refl H) (by rw[e,Zo];exact ha),λ_ p hp=>q p _ (JI hp) Jy⟩
end
end L2
namespace Rz
open Sem (wp)
section
variable{prog:QF}{w:Jk}{A:Q9}{E:Value->Shared->Prop}{s:Shared}
theorem Qeb{it t:Addr}{i:Nat}{items:Array Value}{x:Value}{Q:Value->Shared->Prop}(hit:s.heap.IsTupleIter it t i)(ht:s.heap.IsTuple t items)(hx:items[i]? = some x)
  (hQ:∀h',h'.IsTupleIter it t (i+1)->QaC it s.heap h'->Q x { s with heap:=h' }):wpAny (model prog w) A (JG (.ref it)) Q E s:=by
 obtain⟨o,ho,hc,hd⟩:=id hit;obtain⟨ol,hol,_,nl,hdl⟩:=ht;unfold JG;refine wpAny_bind (J6 (name:=Y8 "__next__") hit.typeIs YY
  (JJ YY hit.typeIs Qh7 ?_ (QhY _)))
 show wpAny _ _ (field (.ref it) 0 >>= _) _ _ s;refine wpAny_bind (J9 ho hd (x:=.ref t) rfl ?_);show wpAny _ _ (if(J7 t == Jz)=true then _ else _) _ _ s;rw[if_neg (show ¬((J7 t == Jz)=true) from Qm)];show wpAny _ _ (field (.ref it) 1 >>= _) _ _ s;refine wpAny_bind (J9 ho hd (x:=.int i 0) rfl ?_);show wpAny _ _ (seqItems? (.ref t) >>= _) _ _ s;refine wpAny_bind (Ze hol hdl ?_);simp only[QH,hx];refine wpAny_bind (Qb8 ho hd (by simp) (wpAny_pure ⟨x,rfl,wpAny_pure (hQ _ ?_ (Zx ..))⟩));exact⟨_,JU _ ho (QcQ (Yt hd _)),(Qe0 ..).trans hc,by
  rw[Yt hd];simp[rawInt]⟩
theorem Qip{it t:Addr}{i:Nat}{items:Array Value}{Q:Value->Shared->Prop}(hh:A.handled=none)(hit:s.heap.IsTupleIter it t i)(ht:s.heap.IsTuple t items)(hx:items[i]? = none)
  (hE:∀h' e,Heap.ExtBut it s.heap h'->(∃o,h'.get? e=some o/\o.cls=.type "StopIteration")->E (.ref e) { s with heap:=h' }):wpAny (model prog w) A (JG (.ref it)) Q E s:=by
 obtain⟨o,ho,hc,hd⟩:=id hit;obtain⟨ol,hol,_,nl,hdl⟩:=ht;unfold JG;refine wpAny_bind (J6 (name:=Y8 "__next__") hit.typeIs YY
  (JJ YY hit.typeIs Qh7 ?_ (QhY _)))
 show wpAny _ _ (field (.ref it) 0 >>= _) _ _ s;refine wpAny_bind (J9 ho hd (x:=.ref t) rfl ?_);show wpAny _ _ (if(J7 t == Jz)=true then _ else _) _ _ s;rw[if_neg (show ¬((J7 t == Jz)=true) from Qm)];show wpAny _ _ (field (.ref it) 1 >>= _) _ _ s;refine wpAny_bind (J9 ho hd (x:=.int i 0) rfl ?_);show wpAny _ _ (seqItems? (.ref t) >>= _) _ _ s;refine wpAny_bind (Ze hol hdl ?_);simp only[QH,hx];refine wpAny_bind (wpAny_rule (wpAny_bind (Qb8 ho hd (by simp) ?_)));show wpAny _ _ (newExc (.type "StopIteration") [] >>= _) _ _ _;refine wpAny_bind ?_
 simp only[newExc,newTuple];refine wpAny_bind (Jx ?_ (by size_fits));refine wpAny_bind (m:=firstArgMember _ _) (ZH (a:=Jz) (by first | rfl | (simp only[firstArgMember];rfl)) ?_);refine Jx ?_ (by size_fits)
 simp only[raiseNew];refine wpAny_bind (wpAny_handled ?_)
 first | rw[show A.in1.handled=none from hh] | rw[hh]
 refine wpAny_bind (wpAny_pure (wpAny_throw ?_));exact hE _ _ (((Zx ..).extBut.push _).push _) ⟨_,Qr _ rfl,rfl⟩
structure Apart (z TI TO i1 i2 t1 t2:Addr):Prop where
 a1:TI≠z
 a2:TO≠z
 a3:i1≠z
 a4:i2≠z
 a5:TI≠TO
 a6:TI≠i1
 a7:TI≠i2
 a8:TO≠i1
 a9:TO≠i2
 b1:i1≠i2
 b2:t1≠z/\t1≠TO/\t1≠i1/\t1≠i2
 b3:t2≠z/\t2≠TO/\t2≠i1/\t2≠i2
structure Qn3 (h:Heap) (z TI TO i1 i2 t1 t2:Addr) (f:Value) (k:Nat):Prop where
 zp:QsX h z TI TO f
 ti:IsPair h TI (.ref i1) (.ref i2)
 to:∃a b,IsPair h TO a b
 i1:h.IsTupleIter i1 t1 k
 i2:h.IsTupleIter i2 t2 k
theorem QmP{z TI TO i1 i2 t1 t2:Addr}{k:Nat}{xs ys:Array Value}{x y:Value}{Q:Option Value->Shared->Prop}(D:Apart z TI TO i1 i2 t1 t2)(Z:Qn3 s.heap z TI TO i1 i2 t1 t2 .none k)
  (hl1:s.heap.IsTuple t1 xs)(hl2:s.heap.IsTuple t2 ys)(hx:xs[k]? = some x)(hy:ys[k]? = some y)
  (hQ:∀h',Qn3 h' z TI TO i1 i2 t1 t2 (rawInt s.heap.objs.size) (k+1)->IsPair h' s.heap.objs.size x y->(∀c o,c≠z->c≠TO->c≠i1->c≠i2->s.heap.get? c=some o->h'.get? c=some o)->Q (some (.ref s.heap.objs.size)) { s with heap:=h' }) :
  wpAny (model prog w) A (pyNext (.ref z)) Q E s:=by
 obtain⟨hz,hTI,⟨a,b,hTO⟩,h1,h2⟩:=Z;have hT:s.TypeIs (.ref z) "zip" := ⟨_,hz,rfl⟩;unfold pyNext;refine wpAny_bind (QfK (J6 (name:=Y8 "__next__") hT Qdc (JJ Qdc hT QyQ ?_ (Qv2 _))));show wpAny _ _ (field (.ref z) 2 >>= _) _ _ _;refine wpAny_bind (J9 hz rfl (x:=.bool false) rfl ?_);show wpAny _ _ (field (.ref z) 3 >>= _) _ _ _;refine wpAny_bind (J9 hz rfl (x:=.ref TI) rfl (wpAny_bind (Ze hTI rfl ?_)));show wpAny _ _ (Zn (.ref z) >>= _) _ _ _;refine wpAny_bind ?_
 unfold Zn;refine wpAny_bind (J9 hz rfl (x:=.none) rfl (wpAny_pure ?_));simp only[if_true];refine wpAny_bind (wpAny_rule (wpAny_bind (J9 hz rfl (x:=.ref TO) rfl (wpAny_bind (YD hz (by simp) λg1 z1 s1=>?_)))))
 replace z1:QsX g1 z TI TO .ellipsis:=z1
 refine wpAny_bind ?_
 simp only[QsT,QvI,QgP,QvX];refine wpAny_bind (wpAny_bind (QfJ ?_));show wpAny _ _ (JG (.ref i1) >>= _) _ _ _;refine wpAny_bind (Qeb (h1.extBut s1.extBut D.a3) (hl1.extBut s1.extBut D.b2.1) hx λg2 p2 s2=>wpAny_pure ?_);have o2:IsPair g2 TO a b:=s2.extBut _ _ D.a8 (s1.extBut _ _ D.a2 hTO);refine wpAny_bind (Ze o2 rfl (wpAny_bind (Qei o2 λg3 o3 s3=>wpAny_bind (Qbp (wpAny_pure ?_)))))
 replace o3:IsPair g3 TO x b:=o3
 refine wpAny_bind (wpAny_bind (QfJ ?_));show wpAny _ _ (JG (.ref i2) >>= _) _ _ _;refine wpAny_bind (Qeb (((h2.extBut s1.extBut D.a4).extBut s2.extBut D.b1.symm).extBut s3.extBut D.a9.symm)
  (((hl2.extBut s1.extBut D.b3.1).extBut s2.extBut D.b3.2.2.1).extBut s3.extBut D.b3.2.1) hy λg4 p4 s4=>wpAny_pure ?_)
 have o4:IsPair g4 TO x b:=s4.extBut _ _ D.a9 o3;refine wpAny_bind (Ze o4 rfl (wpAny_bind (Qei o4 λg5 o5 s5=>wpAny_bind (Qbp (wpAny_pure (wpAny_pure ?_))))))
 replace o5:IsPair g5 TO x y:=o5
 refine wpAny_bind (Ze o5 rfl (wpAny_bind (wpAny_newTuple ?_)));have sz:g5.objs.size=s.heap.objs.size:=by rw[s5.1,s4.1,s3.1,s2.1,s1.1]
 have kp:∀c o,c≠z->c≠TO->c≠i1->c≠i2->s.heap.get? c=some o->g5.get? c=some o:=λc o c1 c2 c3 c4 e=>
  s5.extBut _ _ c2 (s4.extBut _ _ c4 (s3.extBut _ _ c2 (s2.extBut _ _ c3 (s1.extBut _ _ c1 e))))
 have z5:QsX g5 z TI TO .ellipsis:=s5.extBut _ _ D.a2.symm (s4.extBut _ _ D.a4.symm (s3.extBut _ _ D.a2.symm (s2.extBut _ _ D.a3.symm z1)));have q1:g5.IsTupleIter i1 t1 (k+1):=((p2.extBut s3.extBut D.a8.symm).extBut s4.extBut D.b1).extBut s5.extBut D.a8.symm;have q2:g5.IsTupleIter i2 t2 (k+1):=p4.extBut s5.extBut D.a9.symm;show wpAny _ _ (Qba (.ref z) (.ref g5.objs.size) >>= _) _ _ _;refine wpAny_bind ?_
 unfold Qba;have z6:QsX (g5.push { cls:=.type "tuple",data:=.seq #[x,y] }) z TI TO .ellipsis:=Qe _ z5;refine wpAny_bind (YD z6 (by simp) λg7 z7 s7=>?_)
 replace z7:QsX g7 z TI TO (rawInt g5.objs.size):=z7
 refine YD z7 (by simp) λg8 z8 s8=>?_
 replace z8:QsX g8 z TI TO (rawInt g5.objs.size):=z8
 have up:∀c o,c≠z->g5.get? c=some o->g8.get? c=some o:=λc o c1 e=>s8.extBut _ _ c1 (s7.extBut _ _ c1 (Qe _ e))
 have ne:g5.objs.size≠z:=QaD (Qk z5);have t8:IsPair g8 g5.objs.size x y:=s8.extBut _ _ ne (s7.extBut _ _ ne (Qr _ rfl));rw[sz] at z8 t8;refine wpAny_pure ⟨_,rfl,wpAny_pure ?_⟩;show Q (some (.ref g5.objs.size)) _;rw[sz];exact hQ g8 ⟨z8,up _ _ D.a1 (kp _ _ D.a1 D.a5 D.a6 D.a7 hTI),⟨x,y,up _ _ D.a2 o5⟩,q1.at λo e=>up _ o D.a3 e,q2.at λo e=>up _ o D.a4 e⟩ t8 λc o c1 c2 c3 c4 e=>up c o c1 (kp c o c1 c2 c3 c4 e)
theorem QpR{z TI TO i1 i2 t1 t2:Addr}{k:Nat}{xs ys:Array Value}{Q:Option Value->Shared->Prop}(hh:A.handled=none)(D:Apart z TI TO i1 i2 t1 t2)(Z:Qn3 s.heap z TI TO i1 i2 t1 t2 .none k)
  (hl1:s.heap.IsTuple t1 xs)(hl2:s.heap.IsTuple t2 ys)(hend:xs[k]? = none∨ys[k]? = none)
  (hQ:∀h',(∀c o,c≠z->c≠TO->c≠i1->c≠i2->s.heap.get? c=some o->h'.get? c=some o)->Q none { s with heap:=h' }):wpAny (model prog w) A (pyNext (.ref z)) Q E s:=by
 obtain⟨hz,hTI,⟨a,b,hTO⟩,h1,h2⟩:=Z;have hT:s.TypeIs (.ref z) "zip" := ⟨_,hz,rfl⟩;have fin:∀(h':Heap)(e:Addr),(∀c o,c≠z->c≠TO->c≠i1->c≠i2->s.heap.get? c=some o->h'.get? c=some o)->(∃o,h'.get? e=some o/\o.cls=.type "StopIteration") ->
   wpAny (model prog w) A (isInstance (.ref e) (.type "StopIteration") >>= λx=>if x=true then pure none else throw (.ref e)) Q E { s with heap:=h' }:=λh' e hk he=>by
  obtain⟨o,ho,hc⟩:=he;refine wpAny_bind (Qh0 (T := "StopIteration") (b:=true) ⟨o,ho,hc⟩ isSubtype_stop ?_);exact wpAny_pure (hQ _ hk)
 unfold pyNext;refine wpAny_bind (QfK (J6 (name:=Y8 "__next__") hT Qdc (JJ Qdc hT QyQ ?_ (Qv2 _))));show wpAny _ _ (field (.ref z) 2 >>= _) _ _ _;refine wpAny_bind (J9 hz rfl (x:=.bool false) rfl ?_);show wpAny _ _ (field (.ref z) 3 >>= _) _ _ _;refine wpAny_bind (J9 hz rfl (x:=.ref TI) rfl (wpAny_bind (Ze hTI rfl ?_)));show wpAny _ _ (Zn (.ref z) >>= _) _ _ _;refine wpAny_bind ?_
 unfold Zn;refine wpAny_bind (J9 hz rfl (x:=.none) rfl (wpAny_pure ?_));simp only[if_true];refine wpAny_bind (wpAny_rule (wpAny_bind (J9 hz rfl (x:=.ref TO) rfl (wpAny_bind (YD hz (by simp) λg1 z1 s1=>?_)))))
 replace z1:QsX g1 z TI TO .ellipsis:=z1
 refine wpAny_bind ?_
 simp only[QsT,QvI,QgP,QvX];refine wpAny_bind (wpAny_bind (QfJ ?_));show wpAny _ _ (JG (.ref i1) >>= _) _ _ _;cases hx:xs[k]? with
 |none=>
  refine wpAny_bind (Qip hh (h1.extBut s1.extBut D.a3) (hl1.extBut s1.extBut D.b2.1) hx λg2 e s2 he=>?_);obtain⟨oe,hoe,hce⟩:=he;have z2:QsX g2 z TI TO .ellipsis:=s2 _ _ D.a3.symm z1;have hez:e≠z:=λq=>by subst q;rw[z2] at hoe;cases hoe;simp at hce
  refine YD z2 (by simp) λg3 _ s3=>?_
  exact fin g3 e (λc o c1 _ c3 _ q=>s3.extBut _ _ c1 (s2 _ _ c3 (s1.extBut _ _ c1 q))) ⟨oe,s3.extBut _ _ hez hoe,hce⟩
 |some x=>
  have hy:ys[k]? = none:=by
   rcases hend with q | q
   ·rw[hx] at q;cases q
   ·exact q
  refine wpAny_bind (Qeb (h1.extBut s1.extBut D.a3) (hl1.extBut s1.extBut D.b2.1) hx λg2 p2 s2=>wpAny_pure ?_);have o2:IsPair g2 TO a b:=s2.extBut _ _ D.a8 (s1.extBut _ _ D.a2 hTO);refine wpAny_bind (Ze o2 rfl (wpAny_bind (Qei o2 λg3 o3 s3=>wpAny_bind (Qbp (wpAny_pure ?_)))));refine wpAny_bind (wpAny_bind (QfJ ?_));show wpAny _ _ (JG (.ref i2) >>= _) _ _ _;refine wpAny_bind (Qip hh (((h2.extBut s1.extBut D.a4).extBut s2.extBut D.b1.symm).extBut s3.extBut D.a9.symm)
   (((hl2.extBut s1.extBut D.b3.1).extBut s2.extBut D.b3.2.2.1).extBut s3.extBut D.b3.2.1) hy λg4 e s4 he=>?_)
  obtain⟨oe,hoe,hce⟩:=he;have z4:QsX g4 z TI TO .ellipsis:=s4 _ _ D.a4.symm (s3.extBut _ _ D.a2.symm (s2.extBut _ _ D.a3.symm z1));have hez:e≠z:=λq=>by subst q;rw[z4] at hoe;cases hoe;simp at hce
  refine YD z4 (by simp) λg5 _ s5=>?_
  exact fin g5 e (λc o c1 c2 c3 c4 q=>s5.extBut _ _ c1 (s4 _ _ c4 (s3.extBut _ _ c2 (s2.extBut _ _ c3 (s1.extBut _ _ c1 q))))) ⟨oe,s5.extBut _ _ hez hoe,hce⟩
end
abbrev zh1 (h:Heap) (t1:Addr):Heap:=h.push { cls:=.type "tuple_iterator",data:=.fields #[.ref t1,.int 0 0] }
abbrev zh2 (h:Heap) (t1 t2:Addr):Heap:=(zh1 h t1).push { cls:=.type "tuple_iterator",data:=.fields #[.ref t2,.int 0 0] }
abbrev zh3 (h:Heap) (t1 t2:Addr):Heap:=(zh2 h t1 t2).push { cls:=.type "tuple",data:=.seq #[.ref h.objs.size,.ref (zh1 h t1).objs.size] }
abbrev zh4 (h:Heap) (t1 t2:Addr):Heap:=(zh3 h t1 t2).push { cls:=.type "tuple",data:=.seq #[.none,.none] }
abbrev zh5 (h:Heap) (t1 t2:Addr):Heap:=(zh4 h t1 t2).push { cls:=.type "zip",data:=.fields #[.none,.bool false,.bool false,.ref (zh2 h t1 t2).objs.size,.ref (zh3 h t1 t2).objs.size] }
theorem QB7(t1 t2:Addr)(xs ys:Array Value) :
  Meets (YV.«zip.__new__» ⟨[.type "zip",.ref t1,.ref t2],[]⟩) (λ_ R s=>s.heap.IsTuple t1 xs/\s.heap.IsTuple t2 ys/\R (.ok (.ret (.ref (zh4 s.heap t1 t2).objs.size))) { s with heap:=zh5 s.heap t1 t2 }):=
 .of_wp λprog w A R s h=>by
  obtain⟨hp,g,d,tk,os⟩:=s;obtain⟨hl1,hl2,h⟩:=h;have hsub:=sub_zip;have k1:Qk7 (Qk1 ⟨hp,g,d,tk,os⟩) t1 xs:=hl1;have k2:Qk7 (Qk1 ⟨hp.push { cls:=.type "tuple_iterator",data:=.fields #[.ref t1,.int 0 0] },g,d,tk,os⟩) t2 ys:=hl2.at λo e=>Qe _ e
  wp_walk using YE k1,YE k2
  exact⟨_,rfl,h⟩
section
variable{prog:QF}{w:Jk}{A:Q9}{E:Value->Shared->Prop}{s:Shared}
theorem Qrq{t1 t2:Addr}{xs ys:Array Value}{Q:Value->Shared->Prop}(hl1:s.heap.IsTuple t1 xs)(hl2:s.heap.IsTuple t2 ys)
  (h:∀h',Qn3 h' (s.heap.objs.size+4) (s.heap.objs.size+2) (s.heap.objs.size+3) s.heap.objs.size (s.heap.objs.size+1) t1 t2 .none 0->(∀c o,s.heap.get? c=some o->h'.get? c=some o)->Q (.ref (s.heap.objs.size+4)) { s with heap:=h' }) :
  wpAny (model prog w) A (call (.type "zip") [.ref t1,.ref t2]) Q E s:=by
 refine callType_new F.called_zip (by decide) (F.typeCall_zip_2 _ _) (F.newCall_zip_2 _ _) (λobj=>F.args_object_init_3 obj _ _) F.entry_zip_new (QB7 t1 t2 xs ys) ⟨hl1,hl2,?_⟩;have z1:(zh1 s.heap t1).objs.size=s.heap.objs.size+1:=Zm ..;have z2:(zh2 s.heap t1 t2).objs.size=s.heap.objs.size+2:=by rw[Zm,z1]
 have z3:(zh3 s.heap t1 t2).objs.size=s.heap.objs.size+3:=by rw[Zm,z2]
 have z4:(zh4 s.heap t1 t2).objs.size=s.heap.objs.size+4:=by rw[Zm,z3]
 have g5:(zh5 s.heap t1 t2).get? (zh4 s.heap t1 t2).objs.size=some _:=Qr _ rfl;have g4:(zh5 s.heap t1 t2).get? (zh3 s.heap t1 t2).objs.size=some _:=Qe _ (Qr _ rfl);have g3:(zh5 s.heap t1 t2).get? (zh2 s.heap t1 t2).objs.size=some _:=Qe _ (Qe _ (Qr _ rfl));have g2:(zh5 s.heap t1 t2).get? (zh1 s.heap t1).objs.size=some _:=Qe _ (Qe _ (Qe _ (Qr _ rfl)));have g1:(zh5 s.heap t1 t2).get? s.heap.objs.size=some _:=Qe _ (Qe _ (Qe _ (Qe _ (Qr _ rfl))));show _/\_;rw[z2,z3,z4] at g5;rw[z1,z2] at g3;rw[z3] at g4;rw[z1] at g2;rw[z4];exact⟨⟨_,g5,rfl⟩,h _ ⟨g5,g3,⟨_,_,g4⟩,⟨_,g1,rfl,rfl⟩,⟨_,g2,rfl,rfl⟩⟩ λc o x=>Qe _ (Qe _ (Qe _ (Qe _ (Qe _ x))))⟩
end
end Rz
namespace L2
section
variable{X:Cx}{pins:List (Addr×Obj)}{σ:St}{H:Hp}{s:Shared}{h':Heap}
theorem Inv.turnedNew{t':Nat}{ch:List Addr}{a:Addr}{o:HO}(I:Inv X pins σ H s)(hch:∀b∈ch,FpOk X pins H b)(k:∀b u,b∉ch->s.heap.get? b=some u->h'.get? b=some u)(hp:s.heap.objs.size<=a)
  (new:ObjOk X.prog X.w (upd H a o) h' a o):Inv X pins σ (upd H a o) { s with heap:=h',toks:=t' }:=by
 have hn:H a=none:=I.hok.fresh hp;have nch:∀b u,H b=some u->b∉ch:=λb u e z=>by rw[(hch b z).1] at e;cases e
 refine I.step (g':=s.gens) (d':=s.drawn) (ch:=ch) (λb hb=>?_) (λb u _ _ hc e _=>k b u hc e) (λb u _ _ hc e _=>⟨u.slots,k b u hc e⟩) (λb u hc e n=>?_) (λb u hc e=>⟨u,k b u hc e⟩)
  (λb xs e=>by rw[JM (ZX e hn)];exact e) (λb u v e=>by rw[JM (ZX e hn)];exact e) (λb ps e=>⟨#[],by rw[JM (ZX e hn),e];simp⟩) (λm hm=>?_) (λb u e=>?_) I.bare
 ·obtain⟨f0,f1,f2,f3,f4,f5⟩:=hch b hb;exact⟨f3,f1,f4,f5⟩
 ·rw[JM (QD (QP (Qk e) hp))];exact n
 ·obtain⟨u,es,ep,ho,r⟩:=hm;exact⟨u,es,ep,k _ u (λz=>(hch _ z).2.1 rfl) ho,r⟩
 ·by_cases hb:b=a
  ·subst hb;rw[Jy] at e;cases e;exact new
  ·rw[JM hb] at e;refine(I.hok b u e).stay (λc v hc q=>k c v ?_ q) (λc q=>by rw[JM (ZX q hn)];exact q) λc xs q=>by rw[JM (ZX q hn)];exact q
   rcases hc with z | z
   ·rw[z];exact nch b u e
   ·exact nch c _ z
theorem Inv.turnedAll{t':Nat}{ch:List Addr}(I:Inv X pins σ H s)(hch:∀b∈ch,FpOk X pins H b)(k:∀b u,b∉ch->s.heap.get? b=some u->h'.get? b=some u):Inv X pins σ H { s with heap:=h',toks:=t' }:=by
 have nch:∀b u,H b=some u->b∉ch:=λb u e z=>by rw[(hch b z).1] at e;cases e
 refine I.step (g':=s.gens) (d':=s.drawn) (ch:=ch) (λb hb=>?_) (λb u _ _ hc e _=>k b u hc e) (λb u _ _ hc e _=>⟨u.slots,k b u hc e⟩) (λb u hc e n=>n) (λb u hc e=>⟨u,k b u hc e⟩)
  (λb xs e=>e) (λb u v e=>e) (λb ps e=>⟨#[],by rw[e];simp⟩) (λm hm=>?_) (λb u e=>?_) I.bare
 ·obtain⟨f0,f1,f2,f3,f4,f5⟩:=hch b hb;exact⟨f3,f1,f4,f5⟩
 ·obtain⟨u,es,ep,ho,r⟩:=hm;exact⟨u,es,ep,k _ u (λz=>(hch _ z).2.1 rfl) ho,r⟩
 ·refine(I.hok b u e).stay (λc v hc q=>k c v ?_ q) (λc q=>q) λc xs q=>q
  rcases hc with z | z
  ·rw[z];exact nch b u e
  ·exact nch c _ z
end
def Itz(t1 t2:Addr):It:=
 ⟨λi H=>∃xs ys x y,H t1=some (.tup xs)/\H t2=some (.tup ys)/\xs[i]? = some x/\ys[i]? = some y,
  λi H v H'=>∃p x y,H p=none/\(∀xs,H t1=some (.tup xs)->xs[i]? = some x)/\(∀ys,H t2=some (.tup ys)->ys[i]? = some y)/\v=.ref p/\H'=upd H p (.tup [x,y]),
  λi H=>∃xs ys,H t1=some (.tup xs)/\H t2=some (.tup ys)/\(xs.length<=i∨ys.length<=i)⟩
theorem QoC{P:QF}{w:Jk}{K:PySem.W.Frag}{elts:List QV}{x1}{tpos:Pos}{z TI TO i1 i2 t1 t2:Addr}(D:Rz.Apart z TI TO i1 i2 t1 t2) :
  Turn P w K (.Tuple elts x1 tpos) (Itz t1 t2) [z,TI,TO,i1,i2] z (λi h=>Rz.Qn3 h z TI TO i1 i2 t1 t2 .none i) where
 mem:=by simp
 obj:=λi h st b hb=>by
  obtain⟨a1,a2,⟨_,_,a3⟩,⟨o4,a4,_,d4⟩,⟨o5,a5,_,d5⟩⟩:=st;simp only[Qy,Q3,or_false] at hb;rcases hb with rfl | rfl | rfl | rfl | rfl
  ·exact⟨_,a1,λv q=>nomatch q⟩
  ·exact⟨_,a2,λv q=>nomatch q⟩
  ·exact⟨_,a3,λv q=>nomatch q⟩
  ·exact⟨_,a4,λv q=>by rw[d4] at q;cases q⟩
  ·exact⟨_,a5,λv q=>by rw[d5] at q;cases q⟩
 keep:=λi h h' st k=>by
  obtain⟨a1,a2,⟨a,b,a3⟩,a4,a5⟩:=st;exact⟨k z (by simp) _ a1,k TI (by simp) _ a2,⟨a,b,k TO (by simp) _ a3⟩,a4.at λo e=>k i1 (by simp) o e,a5.at λo e=>k i2 (by simp) o e⟩
 item:=by
  intro X hP hw hK hc i pins s σ H E I hf st hg;subst hP hw hK;obtain⟨xs,ys,x,y,h1,h2,hx,hy⟩:=hg;obtain⟨its1,r1,p1,_⟩:=I.tuple (SqT.of h1);obtain⟨its2,r2,p2,_⟩:=I.tuple (SqT.of h2);obtain⟨u1,hu1,ru1⟩:=r1.get hx;obtain⟨u2,hu2,ru2⟩:=r2.get hy;refine Rz.QmP D st (show s.heap.IsTuple t1 its1.toArray from p1) (show s.heap.IsTuple t2 its2.toArray from p2) (by simpa using hu1) (by simpa using hu2) λh' st' tp kp=>?_
  have hlt:∀b∈[z,TI,TO,i1,i2],b≠s.heap.objs.size:=λb hb=>by
   obtain⟨a1,a2,⟨_,_,a3⟩,⟨o4,a4,_,d4⟩,⟨o5,a5,_,d5⟩⟩:=st;simp only[Qy,Q3,or_false] at hb;rcases hb with rfl | rfl | rfl | rfl | rfl
   ·exact QD (Qk a1)
   ·exact QD (Qk a2)
   ·exact QD (Qk a3)
   ·exact QD (Qk a4)
   ·exact QD (Qk a5)
  have fr:H s.heap.objs.size=none:=I.hok.fresh (Qg _);refine⟨_,rfl,Qla st'.zp λh2' z2 s2=>?_⟩;have I1:Inv X pins σ (upd H s.heap.objs.size (.tup [x,y])) { s with heap:=h2',toks:=s.toks }:=by
   refine I.turnedNew (ch:=[z,TI,TO,i1,i2]) hf (λb u hb e=>?_) (Qg _) ⟨by show 2<=sizeLine;decide,[u1,u2],.cons ru1 (.cons ru2 .nil),?_⟩
   ·simp only[Qy,Q3,or_false,not_or] at hb;exact s2.extBut _ _ hb.1 (kp b u hb.1 hb.2.2.1 hb.2.2.2.1 hb.2.2.2.2 e)
   ·exact⟨_,s2.extBut _ _ (hlt z (by simp)).symm tp,rfl,rfl,0,rfl⟩
  refine⟨.ref s.heap.objs.size,_,I1,rfl,⟨_,x,y,fr,λxs' e=>?_,λys' e=>?_,rfl,rfl⟩,?_,λb hb=>?_⟩
  ·rw[h1] at e;cases e;exact hx
  ·rw[h2] at e;cases e;exact hy
  ·obtain⟨a1,a2,⟨a,b,a3⟩,a4,a5⟩:=st';exact⟨z2,s2.extBut _ _ D.a1 a2,⟨a,b,s2.extBut _ _ D.a2 a3⟩,a4.extBut s2.extBut D.a3,a5.extBut s2.extBut D.a4⟩
  ·rw[JM (hlt b hb)];exact(hf b hb).1
 done:=by
  intro X hP hw hK hc i pins s σ H E I hf st hg;subst hP hw hK;obtain⟨xs,ys,h1,h2,he⟩:=hg;obtain⟨its1,r1,p1,_⟩:=I.tuple (SqT.of h1);obtain⟨its2,r2,p2,_⟩:=I.tuple (SqT.of h2);have l1:=r1.length;have l2:=r2.length;refine Rz.QpR (I.ok.hd hc) D st (show s.heap.IsTuple t1 its1.toArray from p1) (show s.heap.IsTuple t2 its2.toArray from p2) ?_ λh' kp=>⟨rfl,I.turnedAll (t':=s.toks) (ch:=[z,TI,TO,i1,i2]) hf λb u hb e=>?_⟩
  ·rcases he with q | q
   ·exact .inl (by simp;omega)
   ·exact .inr (by simp;omega)
  ·simp only[Qy,Q3,or_false,not_or] at hb;exact kp b u hb.1 hb.2.2.1 hb.2.2.2.1 hb.2.2.2.2 e
 self:=λ_ _ _ _ _ st h=>Qc7 st.zp h
section
variable{X:Cx}
theorem apart_new(n t1 t2:Nat)(h1:t1<n)(h2:t2<n):Rz.Apart (n+4) (n+2) (n+3) n (n+1) t1 t2 where
 a1:=by show ¬(n+2=n+4);omega
 a2:=by show ¬(n+3=n+4);omega
 a3:=by show ¬(n=n+4);omega
 a4:=by show ¬(n+1=n+4);omega
 a5:=by show ¬(n+2=n+3);omega
 a6:=by show ¬(n+2=n);omega
 a7:=by show ¬(n+2=n+1);omega
 a8:=by show ¬(n+3=n);omega
 a9:=by show ¬(n+3=n+1);omega
 b1:=by show ¬(n=n+1);omega
 b2:=⟨by show ¬(t1=n+4);omega,by show ¬(t1=n+3);omega,by show ¬(t1=n);omega,by show ¬(t1=n+1);omega⟩
 b3:=⟨by show ¬(t2=n+4);omega,by show ¬(t2=n+3);omega,by show ¬(t2=n);omega,by show ¬(t2=n+1);omega⟩
def QCc(ta:TA):TI:=λσ H R=>ta σ H λvs H1=>∃t1 t2 xs ys,vs=[.ref t1,.ref t2]/\H1 t1=some (.tup xs)/\H1 t2=some (.tup ys)/\R (Itz t1 t2) H1
theorem QnK:bootBuiltins "zip" = some (.type "zip"):=by decide +kernel
theorem Qw0{a b:QV}{elts:List QV}{x1}{tpos:Pos}{ta:TA}{p pos:Pos}(hg:Gl X "zip")(hm:X.mg "zip" = none)(ha:PA X [a,b] ta)(hs:starEach [a,b] X.env=[(false,eval a X.env),(false,eval b X.env)]:=by rfl)(hs2:starEach [b] X.env=[(false,eval b X.env)]:=by rfl) :
  PI X (.Tuple elts x1 tpos) (.Call (.Name "zip" p) [a,b] [] pos) (QCc ta):=by
 intro pins s σ H R I h;refine Call_ (QbJ I hg hm QnK (JD (thn (ha pos pins s σ H _ I h) λus s1 ⟨vs,H1,I1,r1,q1⟩=>?_) (by rw[hs,hs2]) (by rw[hs2];rfl)));obtain⟨t1,t2,xs,ys,e,h1,h2,q⟩:=q1;subst e;obtain⟨u,v,rfl,ru,rv⟩:=vals2 r1;cases(show u=J7 t1 from ru);cases(show v=J7 t2 from rv);obtain⟨its1,w1,p1,_⟩:=I1.tuple (SqT.of h1);obtain⟨its2,w2,p2,_⟩:=I1.tuple (SqT.of h2);have n1:t1<s1.heap.objs.size:=I1.hok.lt h1;have n2:t2<s1.heap.objs.size:=I1.hok.lt h2;refine Rz.Qrq (show s1.heap.IsTuple t1 its1.toArray from p1) (show s1.heap.IsTuple t2 its2.toArray from p2) λh' st kp=>?_
 refine Qc7 (s:={ s1 with heap:=h' }) st.zp ?_
 have D:=apart_new s1.heap.objs.size t1 t2 n1 n2;refine⟨s1.heap.objs.size+4,_,_,_,H1,rfl,I1.kept (t':=s1.toks) kp,QoC D,st,λb hb=>?_,q⟩;have hb':s1.heap.objs.size<=b:=by
  simp only[Qy,Q3,or_false] at hb;rcases hb with rfl | rfl | rfl | rfl | rfl<;>omega
 exact I1.fpOk hb' (I1.hok.fresh hb')
end
end L2
namespace Rk
open L2
def QA4:Option HO->Option (List V)
 |some (.tup xs)=>some xs
 |_=>none
def QfU(H:Hp):V->Option (List V)
 |.ref a=>QA4 (H a)
 |_=>none
theorem Qi0(H:Hp)(a:Addr):QfU H (.ref a)=QA4 (H a):=rfl
def isT(H:Hp)(x:V):Bool:=(QfU H x).isSome
def Kn(p:Addr)(H:Hp):V->Prop
 |.non=>True
 |.bl _=>True
 |.int _=>True
 |.str _=>True
 |.ref a=>a≠p/\((∃xs,H a=some (.tup xs))∨(∃xs,H a=some (.lst xs))∨∃kvs,H a=some (.dK kvs))
 |_=>False
def KnD(p:Addr):Nat->Hp->V->Prop
 |0,H,x=>Kn p H x
 |n+1,H,x=>Kn p H x/\∀xs,QfU H x=some xs->∀y∈xs,KnD p n H y
def KX(p:Addr)(H H':Hp):Prop:=∀b o,b≠p->H b=some o->H' b=some o
theorem KX.of{p:Addr}{H H':Hp}(h:Same H H'):KX p H H':=λb o _ e=>h b o e
theorem KX.new{p q:Addr}{H:Hp}{o:HO}(h:H q=none):KX p H (L2.upd H q o):=KX.of (JI h)
theorem KnD.low{p:Addr}{H:Hp}:∀{n:Nat}{x:V},KnD p (n+1) H x->KnD p n H x
 |0,x,h=>h.1
 |n+1,x,h=>⟨h.1,λxs e y hy=>KnD.low (h.2 xs e y hy)⟩
theorem KnD.tup{p:Addr}{H:Hp}{n:Nat}{a:Addr}{xs:List V}(hp:a≠p)(e:H a=some (.tup xs))(h:∀y∈xs,KnD p n H y):KnD p (n+1) H (.ref a):=
 ⟨⟨hp,.inl ⟨xs,e⟩⟩,λys z y hy=>h y (by
  have z':some xs=some ys:=by rw[<- z,Qi0,e];rfl
  cases z';exact hy)⟩
theorem KnD.int{p:Addr}{H:Hp}(i:Int):∀(n:Nat),KnD p n H (.int i)
 |0=>trivial
 |n+1=>⟨trivial,λ_ e=>nomatch e⟩
theorem Qg1{H:Hp}{a:Addr}{xs:List V}(e:H a=some (.tup xs)):QfU H (.ref a)=some xs:=by rw[Qi0,e];rfl
def Qsp(H:Hp)(x:V):List Int:=((QfU H x).getD []).map λy=>match y with
 |.int i=>i
 |_=>0
def IntsT(H:Hp)(x:V)(ns:List Int):Prop:=∃a,x=.ref a/\H a=some (.tup (ns.map V.int))
theorem IntsT.eq{H:Hp}{x:V}{ns:List Int}(h:IntsT H x ns):Qsp H x=ns:=by
 obtain⟨a,rfl,e⟩:=h;unfold Qsp;rw[Qg1 e];show(ns.map V.int).map _=ns;rw[QL];exact QgM _
theorem QgA:bootBuiltins "isinstance" = some (.builtin "isinstance"):=by decide +kernel
theorem QsI:bootBuiltins "int" = some (.type "int"):=by decide +kernel
theorem Qvw:bootBuiltins "bool" = some (.type "bool"):=by decide +kernel
theorem ZS:bootBuiltins "tuple" = some (.type "tuple"):=by decide +kernel
theorem QnI:bootBuiltins "list" = some (.type "list"):=by decide +kernel
theorem QfI:bootBuiltins "all" = some (.builtin "all"):=by decide +kernel
theorem Qac:bootBuiltins "len" = some (.builtin "len"):=by decide +kernel
theorem QsH:bootBuiltins "max" = some (.builtin "max"):=by decide +kernel
theorem QsG:bootBuiltins "min" = some (.builtin "min"):=by decide +kernel
end Rk
namespace L2
theorem QeE{J:It}{body:V->Hp->(Hp->Prop)->Prop}{Qn:Hp->Prop}{H:Hp}(n:Nat)(Pv:Nat->Hp->Prop)(h0:Pv 0 H)
  (hs:∀i H2,i<n->Pv i H2->J.go i H2/\∀x H3,J.yld i H2 x H3->∀k:Hp->Prop,(∀H6,Pv (i+1) H6->k H6)->body x H3 k)(hd:∀H2,Pv n H2->J.stop n H2/\Qn H2):Qib J body Qn H:=by
 refine⟨λi m H=>m=n - i/\i<=n/\Pv i H,⟨n,by simp,Jc _,h0⟩,?_⟩;rintro i m H2 ⟨rfl,hi,p⟩;by_cases hlt:i<n
 ·obtain⟨go,st⟩:=hs i H2 hlt p;exact .inr ⟨go,λx H3 y=>st x H3 y _ λH6 p6=>⟨n - (i+1),by omega,rfl,hlt,p6⟩⟩
 ·have e:i=n:=by omega
  subst e;exact .inl (hd H2 p)
end L2
namespace Rk
open L2
def QcW(K:PySem.W.Frag):Sp:=λvs H Q _=>∃a ns k,vs=[.ref a,.int k]/\SqL K H a ((ns:List Int).map V.int)/\ns.length<2^20/\0<=k/\∀c,Q (.int c) H
def Qwt:Sp:=λvs H Q _=>∃c,vs=[.int c]/\∀p n,H p=none->Q (.ref p) (upd H p (.lst [.int n]))
def Cs(p:Addr)(H:Hp):List V->List (Int×Int)->Prop:=Qbf λx ij=>∃d,d≠p/\x=.ref d/\H d=some (.tup [.int ij.1,.int ij.2])
def QyH(a b:Int×Int):Prop:=a.1<b.1∨(a.1=b.1/\a.2<b.2)
structure Good (h w:Int) (L:List (Int×Int)):Prop where
 asc:L.Pairwise QyH
 ins:∀x∈L,0<=x.1/\x.1<h/\0<=x.2/\x.2<w
 len:L.length<=36
theorem QjP(x:Int){m:Int}(h:0<m):0<=x % m/\x % m<m:=⟨Int.emod_nonneg _ (by omega),Int.emod_lt_of_pos _ h⟩
def notStar:QV->Bool
 |.Starred _ _=>false
 |_=>true
theorem ZD{e:QV}{es:List QV}{env:Env}(h:notStar e=true):starEach (e::es) env=(false,eval e env)::starEach es env:=by
 cases e<;>first | rfl | cases h
section
variable{X:Cx}
theorem QcM{e:QV}{es:List QV}{te:TE}{t:TA}(ha:PE X e te)(hr:PA X es t)(hs:notStar e=true:=by rfl):PA X (e::es) (Qe5 te t):=QbG ha hr (ZD hs)
inductive PEs (X:Cx):List QV->List TE->Prop
 |nil:PEs X [] []
 |cons {e es te ts}:PE X e te->notStar e=true->PEs X es ts->PEs X (e::es) (te::ts)
def QA7:List TE->TA
 |[]=>Qtd
 |t::ts=>Qe5 t (QA7 ts)
theorem PEs.pa{es:List QV}{ts:List TE}(h:PEs X es ts):PA X es (QA7 ts):=by
 induction h with
 |nil=>exact ZN
 |cons a s _ ih=>exact QcM a ih s
end
def Sm(H:Hp)(x:V):Prop:=∀ps,QfU H x=some ps->ps.length<sizeLine
def Part(p:Addr)(H:Hp)(x:V):Prop:=KnD p 2 H x/\Sm H x
def QyC(p:Addr)(H:Hp)(x:V):Prop:=KnD p 3 H x/\Sm H x/\∀xs,QfU H x=some xs->∀y∈xs,Sm H y
theorem Qwb{H:Hp}{a:Addr}{xs ys:List V}(e:H a=some (.tup xs))(z:QfU H (.ref a)=some ys):ys=xs:=by
 rw[Qg1 e] at z;cases z;rfl
theorem Part.tup{p:Addr}{H:Hp}{a:Addr}{xs:List V}(hp:a≠p)(e:H a=some (.tup xs))(hl:xs.length<sizeLine)(h:∀y∈xs,KnD p 1 H y):Part p H (.ref a):=
 ⟨KnD.tup hp e h,λps z=>by rw[Qwb e z];exact hl⟩
theorem QBs{P:V->Prop}:∀y∈([]:List V),P y:=λ_ h=>nomatch h
theorem QAM{P:V->Prop}{a:V}{l:List V}(h:P a)(k:∀y∈l,P y):∀y∈a::l,P y:=λy hy=>by
 rcases Qy.mp hy with e | e
 ·subst e;exact h
 ·exact k y e
theorem Qa1{n:Nat}(h:n<=1000):n<sizeLine:=Qbl h (by decide)
def Fine(p:Addr):Nat->Hp->V->Prop
 |0,H,x=>Kn p H x/\Sm H x
 |n+1,H,x=>Kn p H x/\Sm H x/\∀xs,QfU H x=some xs->∀y∈xs,Fine p n H y
theorem Fine.sm{p:Addr}{H:Hp}{x:V}:∀{n:Nat},Fine p n H x->Sm H x
 |0,h=>h.2
 |_+1,h=>h.2.1
theorem Fine.knd{p:Addr}{H:Hp}:∀{n:Nat}{x:V},Fine p n H x->KnD p n H x
 |0,_,h=>h.1
 |_+1,_,h=>⟨h.1,λxs e y hy=>(h.2.2 xs e y hy).knd⟩
theorem Fine.thing{p:Addr}{H:Hp}{x:V}(h:∀n,Fine p n H x):QyC p H x:=⟨(h 3).knd,(h 0).2,λxs e y hy=>((h 1).2.2 xs e y hy).2⟩
section
variable{X:Cx}
end
def QzE(t:TA):TE:=λσ H Q=>t σ H λxs H1=>xs.length<=1000/\∀a H2,Same H1 H2->H1 a=none->H2 a=some (.tup xs)->Q (.ref a) H2
def QzJ(t:TA):TE:=λσ H Q=>t σ H λxs H1=>xs.length<=1000/\∀a H2,Same H1 H2->H1 a=none->H2 a=some (.lst xs)->Q (.ref a) H2
section
variable{X:Cx}
theorem Qmk{es:List QV}{t:TA}{x1}{pos:Pos}(h:PA X es t):PE X (.Tuple es x1 pos) (QzE t):=by
 intro pins s σ H Q I hq;refine wpAny_Tuple_spliced (thn (h pos pins s σ H _ I hq) λus s1 ⟨xs,H1,I1,r,z,q⟩=>⟨by rw[<- r.length];exact Zq (Qa1 z),?_⟩);have hf:H1 s1.heap.objs.size=none:=I1.hok.fresh (Qg _);refine⟨.ref s1.heap.objs.size,upd H1 s1.heap.objs.size (.tup xs),I1.laid (t':=s1.toks) (λb u e=>Qe _ e) (Qg _) ?_,rfl,q _ _ (JI hf) hf Jy⟩;exact⟨Zq (Qa1 z),us,r,⟨_,Qr _ rfl,rfl,rfl,_,rfl⟩⟩
theorem QtS{es:List QV}{t:TA}{pos:Pos}(h:PA X es t):PE X (.List es pos) (QzJ t):=by
 intro pins s σ H Q I hq;refine QyI (thn (h pos pins s σ H _ I hq) λus s1 ⟨xs,H1,I1,r,z,q⟩=>⟨by rw[<- r.length];exact Zq (Qa1 z),?_⟩);have hf:H1 s1.heap.objs.size=none:=I1.hok.fresh (Qg _);refine⟨.ref s1.heap.objs.size,upd H1 s1.heap.objs.size (.lst xs),I1.laid (t':=s1.toks) (λb u e=>Qe _ e) (Qg _) ?_,rfl,q _ _ (JI hf) hf Jy⟩;exact⟨Zq (Qa1 z),us,0,r,Qr _ rfl⟩
end
def FineA(p:Addr)(H:Hp)(x:V):Prop:=∀n,Fine p n H x
theorem FineA.thing{p:Addr}{H:Hp}{x:V}(h:FineA p H x):QyC p H x:=Fine.thing h
end Rk
namespace Rx
open PySem.Calls L2 PySem.W Builtin Builtin.ObjectAttr Builtin.Getset_descriptor
def ExAt(a C:Addr)(h:Heap):Prop:=∃o vs,h.get? a=some o/\o.cls=.ref C/\o.data=.fields vs
theorem ExAt.ty{M:Model}{h:Heap}{a C:Addr}(x:ExAt a C h):Looks M h (typeOf (.ref a)) (.ref C):=by
 obtain⟨o,vs,e,c,_⟩:=x;exact c ▸ (Looks.ld e).andThen .now
section
variable{prog:QF}{w:Jk}{A:Q9}{E:Value->Shared->Prop}{s:Shared}{K:PySem.W.Frag}{a C:Addr}
end
end Rx
namespace Rx
open PySem.Calls L2
section
variable{X:Cx}{E:XK}{C:Addr}{x:Str}{e0:QV}{te:TE}{np cpos pos:Pos}
end
section
variable{X:Cx}{pins:List (Addr×Obj)}{σ:L2.St}{H:Hp}{s:Shared}
end
def XP(X:Cx)(pins:List (Addr×Obj))(Ex:L2.St->Addr->Hp->Prop)(e:Value)(s1:Shared):Prop:=
 ∃(σ:L2.St)(C:Addr)(H':Hp)(a t:Addr)(B:Heap),e=.ref a/\Heap.FlyingW B X.stack a (.ref C) (.ref t) s1.heap/\H' a=none/\X.s₀.heap.get? a=none/\(∀p∈X.pn++pins,p.1≠a) /\
  (∀(h2:Heap)(tk:Nat),B.StaysIn h2->s1.heap.UpToSlots h2->Inv X pins σ H' { s1 with heap:=h2,toks:=tk })/\Ex σ C H'
section
variable{X:Cx}{k:Nat}{f:Addr}{fd:QM}{ps:List Str}{sp:Sp}{x:Str}{p pos:Pos}{e:QV}{es:List QV}{t:TA}
end
section
variable{X:Cx}{R:Addr}{i:Nat}{n r:Str}{call hx:QV}{tc:TX}{th:TE}{rp np hp hpos pos:Pos}
end
section
variable{P:QF}{w:Jk}{K:PySem.W.Frag}{mg:Str->Option Value}{base:Heap}
end
section
variable{X:Cx}{k:Nat}{f:Addr}{fd:QM}{ps:List Str}{sp:Sp}{x:Str}{p pos:Pos}{e:QV}{es:List QV}{t:TA}
end
section
variable{X:Cx}
theorem bools_eq{bs:List Bool}{us:List Value}(r:Vals (bs.map V.bl) us):us=bs.map Qbq:=by
 induction bs generalizing us with
 |nil=>cases r;rfl
 |cons b bs ih=>
  cases r with
  |cons r t=>
   cases(show _=Qbq b from r);rw[ih t];rfl
end
end Rx
namespace Rd
open L2
mutual
inductive Dat (H:Hp):V->Qa->Prop
 |non:Dat H .non .none
 |bl (b:Bool):Dat H (.bl b) (.bool b)
 |int (i:Int):Dat H (.int i) (.int i)
 |str (x:Str):QgJ (.str x)=true->Dat H (.str x) (.str x)
 |tup {a:Addr} {xs:List V} {ds:List Qa}:H a=some (.tup xs)->Dats H xs ds->Dat H (.ref a) (.tuple ds)
 |lst {a:Addr} {xs:List V} {ds:List Qa}:H a=some (.lst xs)->Dats H xs ds->Dat H (.ref a) (.list ds)
inductive Dats (H:Hp):List V->List Qa->Prop
 |nil:Dats H [] []
 |cons {x:V} {xs:List V} {d:Qa} {ds:List Qa}:Dat H x d->Dats H xs ds->Dats H (x::xs) (d::ds)
end
mutual
theorem Yk{P:QF}{w:Jk}{H:Hp}{h:Heap}(ok:HOk P w H h):∀(d:Qa)(x:V)(v:Value),Dat H x d->RelV x v->(∃as,Qle h v d as)/\d.canLay0=true
 |.none,_,v,.non,r=>by cases r;exact⟨⟨_,.none⟩,rfl⟩
 |.bool b,_,v,.bl _,r=>by cases r;exact⟨⟨_,.bool b⟩,rfl⟩
 |.int i,_,v,.int _,r=>by obtain⟨t,rfl⟩:=r;exact⟨⟨_,.int i t⟩,rfl⟩
 |.str z,_,v,.str _ c,r=>by obtain⟨t,rfl⟩:=r;exact⟨⟨_,.str z t⟩,c⟩
 |.tuple ds,_,v,.tup (a:=a) (xs:=xs) e q,r=>by
  cases r;obtain⟨_,its,rv,o,ho,hc,_,n,hd⟩:=ok a _ e;obtain⟨⟨as,ra⟩,cl⟩:=Qae ok ds xs its q rv;exact⟨⟨as,.tuple ho hc hd ra⟩,cl⟩
 |.list ds,_,v,.lst (a:=a) (xs:=xs) e q,r=>by
  cases r;obtain⟨_,its,n,rv,ho⟩:=ok a _ e;obtain⟨⟨as,ra⟩,cl⟩:=Qae ok ds xs its q rv;exact⟨⟨a::as,.list ho rfl rfl ra⟩,cl⟩
 |.dict _,_,_,q,_=>nomatch q
theorem Qae{P:QF}{w:Jk}{H:Hp}{h:Heap}(ok:HOk P w H h):∀(ds:List Qa)(xs:List V)(vs:List Value),Dats H xs ds->Vals xs vs->(∃as,QdZ h vs ds as)/\JX ds=true
 |[],_,vs,.nil,r=>by cases r;exact⟨⟨_,.nil⟩,rfl⟩
 |d::ds,_,vs,.cons (x:=x) (xs:=xs) q qs,r=>by
  cases r with
  |cons r rs=>
   obtain⟨⟨a1,r1⟩,c1⟩:=Yk ok d x _ q r;obtain⟨⟨a2,r2⟩,c2⟩:=Qae ok ds xs _ qs rs;exact⟨⟨_,.cons r1 r2⟩,by simp[JX,c1,c2]⟩
end
mutual
theorem QjT{H H':Hp}(s:Same H H'):∀(d:Qa)(x:V),Dat H x d->Dat H' x d
 |.none,_,.non=>.non
 |.bool _,_,.bl _=>.bl _
 |.int _,_,.int _=>.int _
 |.str _,_,.str _ c=>.str _ c
 |.tuple ds,_,.tup (xs:=xs) e q=>.tup (s _ _ e) (QeO s ds xs q)
 |.list ds,_,.lst (xs:=xs) e q=>.lst (s _ _ e) (QeO s ds xs q)
 |.dict _,_,q=>nomatch q
theorem QeO{H H':Hp}(s:Same H H'):∀(ds:List Qa)(xs:List V),Dats H xs ds->Dats H' xs ds
 |[],_,.nil=>.nil
 |d::ds,_,.cons (x:=x) (xs:=xs) q qs=>.cons (QjT s d x q) (QeO s ds xs qs)
end
theorem Dat.same{H H':Hp}{x:V}{d:Qa}(q:Dat H x d)(s:Same H H'):Dat H' x d:=QjT s d x q
theorem Dats.length{H:Hp}:∀{xs:List V}{ds:List Qa},Dats H xs ds->xs.length=ds.length
 |_,_,.nil=>rfl
 |_,_,.cons _ q=>by rw[QQ,QQ,q.length]
section
variable{X:Cx}
def QB2(X:Cx):R2:=λx y H Q=>∃dx dy,Dat H x dx/\Dat H y dy/\X.A.units+min dx.depth dy.depth<cLine/\Q (.bl (QX dx dy)) H
theorem Qxu:OpR X (compareOp .Eq) (QB2 X):=by
 intro pins s σ H x y v u Q I rx ry h;obtain⟨dx,dy,qx,qy,hu,q⟩:=h;obtain⟨⟨as,ra⟩,ca⟩:=Yk I.hok dx x v qx rx;obtain⟨⟨bs,rb⟩,cb⟩:=Yk I.hok dy y u qy ry;exact SeqAt.compareEq_reads ra rb ca cb hu ⟨.bl _,H,I,rfl,q⟩
open Classical in
noncomputable def eqH (h:Heap) (d:Qa) (y:Value):Bool:=decide (∃e as,Qle h y e as/\e.canLay0=true/\QX e d=true)
open Classical in
theorem QAN{h:Heap}{d:Qa}{y:Value}(q:∃e as,Qle h y e as/\e.canLay0=true/\QX e d=true):eqH h d y=true:=by
 unfold eqH;exact decide_eq_true q
open Classical in
theorem QAO{h:Heap}{d:Qa}{y:Value}(q:¬ ∃e as,Qle h y e as/\e.canLay0=true/\QX e d=true):eqH h d y=false:=by
 unfold eqH;exact decide_eq_false q
theorem Qsu{h:Heap}{d e:Qa}{y:Value}{as:List Addr}(r:Qle h y e as)(c:e.canLay0=true):eqH h d y=QX e d:=by
 cases q:QX e d with
 |true=>exact QAN ⟨e,as,r,c,q⟩
 |false=>
  refine QAO λ⟨e',as',r',c',q'⟩=>?_
  rw[<- SeqAt.Reads.unique e e' y as as' c r r',q] at q';cases q'
theorem QeU{h:Heap}{d:Qa}:∀{vs:List Value}{ds:List Qa}{as:List Addr},QdZ h vs ds as->JX ds=true->vs.any (eqH h d)=ds.any λe=>QX e d
 |_,_,_,.nil,_=>rfl
 |_,_,_,.cons r rs,c=>by
  simp only[JX,JB] at c;rw[Qd1,Qd1,Qsu r c.1,QeU rs c.2]
theorem QeB{A:Q9}{s:Shared}{d:Qa}{v:Value}{bs:List Addr}(rv:Qle s.heap v d bs)(cv:d.canLay0=true):∀{vs:List Value}{ds:List Qa}{as:List Addr},QdZ s.heap vs ds as->JX ds=true->A.units+d.depth<cLine ->
  ∀u∈vs,Qop A s u v (eqH s.heap d u)
 |_,_,_,.nil,_,_=>λu hu=>nomatch hu
 |_,_,_,.cons (d:=e) r rs,c,hu=>λu hm=>by
  simp only[JX,JB] at c;rcases Qy.mp hm with z | z
  ·subst z;rw[Qsu r c.1];exact QrD e d A s _ v _ bs r rv c.1 cv (Qbl (Nat.add_le_add_left (QfQ _ _) _) hu)
  ·exact QeB rv cv rs c.2 hu u z
def QBi(X:Cx)(neg:Bool):R2:=λx y H Q=>∃c ps ds d,y=.ref c/\H c=some (.tup ps)/\Dats H ps ds/\Dat H x d/\X.A.in1.units+d.depth<cLine/\Q (.bl (if neg then !(ds.any λe=>QX e d) else ds.any λe=>QX e d)) H
theorem Qxs:OpR X (compareOp .In) (QBi X false):=by
 intro pins s σ H x y v u Q I rx ry h;obtain⟨c,ps,ds,d,rfl,hc,qs,qx,hu,q⟩:=h;cases ry;obtain⟨⟨as,ra⟩,ca⟩:=Yk I.hok d x v qx rx;obtain⟨_,its,rv,tp⟩:=I.hok c _ hc;have tp:=TupN.tup tp;obtain⟨⟨bs,rb⟩,cb⟩:=Qae I.hok ds ps its qs rv;refine SeqAt.in_tupleAt (eqH s.heap d) tp (λw hw=>QeB ra ca rb cb hu w (Qca.mp hw)) ⟨.bl _,H,I,rfl,?_⟩;rw[show its.toArray.any (eqH s.heap d)=its.any (eqH s.heap d) by simp,QeU rb cb];exact q
theorem Qmz:OpR X (compareOp .NotIn) (QBi X true):=by
 intro pins s σ H x y v u Q I rx ry h;obtain⟨c,ps,ds,d,rfl,hc,qs,qx,hu,q⟩:=h;cases ry;obtain⟨⟨as,ra⟩,ca⟩:=Yk I.hok d x v qx rx;obtain⟨_,its,rv,tp⟩:=I.hok c _ hc;have tp:=TupN.tup tp;obtain⟨⟨bs,rb⟩,cb⟩:=Qae I.hok ds ps its qs rv;refine Qld (eqH s.heap d) tp (λw hw=>QeB ra ca rb cb hu w (Qca.mp hw)) ⟨.bl _,H,I,rfl,?_⟩;rw[show its.toArray.any (eqH s.heap d)=its.any (eqH s.heap d) by simp,QeU rb cb];exact q
end
section
variable{X:Cx}
end
end Rd
namespace L2
def Ite(l:Addr):It:=
 ⟨λi H=>∃xs x,H l=some (.lst xs)/\xs[i]? = some x,
  λi H v H'=>∃p x,H p=none/\(∀xs,H l=some (.lst xs)->xs[i]? = some x)/\v=.ref p/\H'=upd H p (.tup [.int (i:Nat),x]),
  λi H=>∃xs,H l=some (.lst xs)/\xs.length<=i⟩
theorem Qly{P:QF}{w:Jk}{K:PySem.W.Frag}{elts:List QV}{x1}{tpos:Pos}{e it l:Addr}(hne:e≠it) :
  Turn P w K (.Tuple elts x1 tpos) (Ite l) [e,it] e (λi h=>(∃old,IsEnum h e it (i:Nat) old)/\h.IsListIter it l i) where
 mem:=by simp
 obj:=λi h st b hb=>by
  obtain⟨⟨old,a1⟩,⟨o2,a2,_,d2⟩⟩:=st;simp only[Qy,Q3,or_false] at hb;rcases hb with rfl | rfl
  ·exact⟨_,a1,λv q=>nomatch q⟩
  ·exact⟨_,a2,λv q=>by rw[d2] at q;cases q⟩
 keep:=λi h h' st k=>by
  obtain⟨⟨old,a1⟩,⟨o2,a2,c2⟩⟩:=st;exact⟨⟨old,k e (by simp) _ a1⟩,o2,k it (by simp) _ a2,c2⟩
 item:=by
  intro X hP hw hK hc i pins s σ H E I hf st hg;subst hP hw hK;obtain⟨xs,x,h1,hx⟩:=hg;obtain⟨⟨old,a1⟩,a2⟩:=st;obtain⟨its,r1,p1,_⟩:=I.list (SqL.of h1);obtain⟨u,hu,ru⟩:=r1.get hx;refine wpAny_pyNext_enum_item a1 a2 p1.isList (x:=u) (by simpa using hu) hne λh' o' l' tp sz kp=>?_
  have fr:H s.heap.objs.size=none:=I.hok.fresh (Qg _);have n1:e≠s.heap.objs.size:=QD (Qk a1);have n2:it≠s.heap.objs.size:=by
   obtain⟨o2,a2,_⟩:=a2;exact QD (Qk a2)
  refine⟨_,rfl,Qk0 o' λh2 e2 s2=>?_⟩;have I1:Inv X pins σ (upd H s.heap.objs.size (.tup [.int (i:Nat),x])) { s with heap:=h2,toks:=s.toks+1 }:=by
   refine I.turnedNew (ch:=[e,it]) hf (λb v hb q=>?_) (Qg _) ⟨by show 2<=sizeLine;decide,[.int (i:Nat) s.toks,u],.cons ⟨_,rfl⟩ (.cons ru .nil),?_⟩
   ·simp only[Qy,Q3,or_false,not_or] at hb;exact s2.extBut _ _ hb.1 (kp b v hb.1 hb.2 q)
   ·exact⟨_,s2.extBut _ _ n1.symm tp,rfl,rfl,0,rfl⟩
  refine⟨.ref s.heap.objs.size,_,I1,rfl,⟨_,x,fr,λxs' q=>?_,rfl,rfl⟩,⟨⟨u,e2⟩,?_⟩,λb hb=>?_⟩
  ·rw[h1] at q;cases q;exact hx
  ·exact l'.extBut s2.extBut hne.symm
  ·simp only[Qy,Q3,or_false] at hb;rcases hb with rfl | rfl
   ·rw[JM n1];exact(hf _ (by simp)).1
   ·rw[JM n2];exact(hf _ (by simp)).1
 done:=by
  intro X hP hw hK hc i pins s σ H E I hf st hg;subst hP hw hK;obtain⟨xs,h1,he⟩:=hg;obtain⟨⟨old,a1⟩,a2⟩:=st;obtain⟨its,r1,p1,_⟩:=I.list (SqL.of h1);have l1:=r1.length;refine wpAny_pyNext_enum_end (I.ok.hd hc) a1 a2 p1.isList (by simp;omega) λh' kp=>⟨rfl,I.turnedAll (t':=s.toks) (ch:=[e,it]) hf λb v hb q=>?_⟩
  simp only[Qy,Q3,or_false,not_or] at hb;exact kp b v hb.2 q
 self:=λ_ _ _ _ _ st h=>by
  obtain⟨⟨old,a1⟩,_⟩:=st;exact Qcm a1 h
def QAD(ta:TA):TI:=λσ H R=>ta σ H λvs H1=>∃l xs,vs=[.ref l]/\H1 l=some (.lst xs)/\R (Ite l) H1
theorem QhL:bootBuiltins "enumerate" = some (.type "enumerate"):=by decide +kernel
section
variable{X:Cx}
theorem QtP{a:QV}{elts:List QV}{x1}{tpos:Pos}{ta:TA}{p pos:Pos}(hg:Gl X "enumerate")(hm:X.mg "enumerate" = none)(ha:PA X [a] ta)(hs:starEach [a] X.env=[(false,eval a X.env)]:=by rfl) :
  PI X (.Tuple elts x1 tpos) (.Call (.Name "enumerate" p) [a] [] pos) (QAD ta):=by
 intro pins s σ H R I h;refine Call_ (QbJ I hg hm QhL (JD (thn (ha pos pins s σ H _ I h) λus s1 ⟨vs,H1,I1,r1,q1⟩=>?_) hs rfl));obtain⟨l,xs,e,h1,q⟩:=q1;subst e;obtain⟨u,rfl,ru⟩:=vals1 r1;cases(show u=J7 l from ru);obtain⟨its,w1,p1,_⟩:=I1.list (SqL.of h1);refine call_enumerate_list p1.isList λh' e1 i1 sz kp=>?_
 refine Qcm (s:={ s1 with heap:=h' }) e1 ?_
 refine⟨s1.heap.objs.size+1,_,_,_,H1,rfl,I1.kept (t':=s1.toks) kp,Qly (by show ¬(s1.heap.objs.size+1=s1.heap.objs.size);omega),⟨⟨_,e1⟩,i1⟩,λb hb=>?_,q⟩;have hb':s1.heap.objs.size<=b:=by
  simp only[Qy,Q3,or_false] at hb;rcases hb with rfl | rfl<;>omega
 exact I1.fpOk hb' (I1.hok.fresh hb')
end
section
variable{prog:QF}{w:Jk}{A:Q9}{R:Qj5->Shared->Prop}{s:Shared}
theorem Qg5{elt tg iter:QV}{ifs:List QV}{g0:QcU}{scope:Y0}{pos:Pos}{it acc:Value}{env:Env}
  (h0:codeAny (model prog w) A (.compLoop (.ListComp elt [g0,⟨tg,iter,ifs,0⟩] scope pos) 1 it acc env) R s)
  (h:wpAny (model prog w) A (pyIter it) (λit' s'=>codeAny (model prog w) A (.compLoop (.ListComp elt [g0,⟨tg,iter,ifs,0⟩] scope pos) 1 it' acc env) R s') (notedBy (model prog w) A env λx s'=>R (.error x) s') s) :
  codeAny (model prog w) A (.compStart (.ListComp elt [g0,⟨tg,iter,ifs,0⟩] scope pos) 1 it acc env) R s:=by
 refine Qj4 ?_
 show wpAny _ _ ((compStart (.ListComp elt [g0,⟨tg,iter,ifs,0⟩] scope pos) 1 it acc env).onRaise (λx=>do noteFrame x env;standAt theWindowsPlace)) _ _ s;refine wpAny_notedAt ?_
 unfold compStart;show wpAny _ _ (ask >>= _) _ _ s;refine wpAny_bind (Z0 (wpAny_ite ?_));split
 ·first
   |exact wpAny_bind (wpAny_pure (wpAny_pure ⟨rfl,h0⟩))
   |exact wpAny_pure ⟨rfl,h0⟩
 ·first
   |exact wpAny_bind (wpAny_rule (wpAny_bind (wpAny_standAt (wpAny_bind (wpAny_mono h (λit' s' h'=>wpAny_pure ⟨rfl,h'⟩) λ_ _ x=>x)))))
   |exact wpAny_bind (wpAny_rule (wpAny_bind (wpAny_standAt (wpAny_bind (wpAny_mono h (λit' s' h'=>wpAny_pure (wpAny_pure ⟨rfl,h'⟩)) λ_ _ x=>x)))))
end
theorem Qlw{Y:Cx}{elt tg iter:QV}{ifs:List QV}{g0:QcU}{scope:Y0}{cpos:Pos}{it D:Addr}(Q:PySem.Fin->Shared->Prop)(E:Value->Shared->Prop)(s:Shared)
  (h:wpAny (model Y.prog Y.w) Y.A (pyNext (.ref it)) (λr s1=>match r with
   |none=>Q (.done .next) s1
   |some v=>wpAny (model Y.prog Y.w) Y.A (letOwnedTupleGo tg (.ref it) v) (λ_ s2=>QnY Y tg ifs (Qn1 Y elt D) v (λs3=>Q (.again (.compLoop (.ListComp elt [g0,⟨tg,iter,ifs,0⟩] scope cpos) 1 (.ref it) (.ref D) Y.env)) s3) s2) E s1) E s) :
  wpAny (model Y.prog Y.w) Y.A (compTurn (.ListComp elt [g0,⟨tg,iter,ifs,0⟩] scope cpos) 1 (.ref it) (.ref D) Y.env) Q E s:=by
 have e:compTurn (.ListComp elt [g0,⟨tg,iter,ifs,0⟩] scope cpos) 1 (.ref it) (.ref D) Y.env=(do
   standAt iter.pos
   match <- pyNext (.ref it) with
   |none=>pure (.done .next)
   |some v=>
    letOwnedTupleGo tg (.ref it) v
    assign tg Y.env v
    let mut ok:=true
    for c in ifs do
     if ok then ok <- isTrue c Y.env (eval c Y.env)
    if ok then
     (do let _ <- call (.builtin "list.append") [.ref D,<- eval elt Y.env])
    again (.compLoop (.ListComp elt [g0,⟨tg,iter,ifs,0⟩] scope cpos) 1 (.ref it) (.ref D) Y.env)):=by rfl
 rw[e];refine wpAny_bind (wpAny_standAt (wpAny_bind (thn h λr s1 h1=>?_)));cases r with
 |none=>exact wpAny_pure h1
 |some v=>
  refine wpAny_bind (thn h1 λ_ s2 h2=>?_);refine wpAny_bind (wpAny_mono h2 (λ_ s4 h4=>wpAny_bind (wpAny_mono h4 (λok s5 h5=>?_) λ_ _ f=>f.elim)) λ_ _ f=>f.elim);cases ok with
  |false=>exact wpAny_pure h5
  |true=>exact wpAny_bind (wpAny_bind (wpAny_mono h5 (λx s6 h6=>wpAny_bind (wpAny_mono h6 (λ_ s7 h7=>wpAny_pure (wpAny_pure h7)) λ_ _ f=>f.elim)) λ_ _ f=>f.elim))
def QnZ(Y:Cx)(e:QV)(iter:QV)(D:Addr):Act:=λQ s=>wpAny (model Y.prog Y.w) Y.A (eval iter Y.env) (λx s1=>wpAny (model Y.prog Y.w) Y.A (pyIter x)
 (λitv s2=>codeAny (model Y.prog Y.w) Y.A (.compStart e 1 itv (.ref D) Y.env) (λr s3=>match r with | .ok _=>Q s3 | .error _=>False) s2) (λ_ _=>False) s1) (λ_ _=>False) s
def Qyu(wi:TI)(g:TG)(tc:TT)(p:Addr)(te:TE):St->Hp->(Hp->Prop)->Prop:=λσ H k=>wi σ H λJ H1=>Qib J (bOf σ g tc (Qyw p te)) k H1
theorem QnM{Y:Cx}{σ:St}{elt tg iter:QV}{ifs:List QV}{g0:QcU}{scope:Y0}{cpos:Pos}{D:Addr}{wi:TI}{g:TG}{tc:TT}{te:TE}(hx:Y.xe=λ_ _=>False)(hc:Y.calm=true)
  (hi:PI Y tg iter wi)(hg:PG Y tg g)(ht:PTs Y ifs tc)(he:PE Y elt te):BodyOk Y σ (QnZ Y (.ListComp elt [g0,⟨tg,iter,ifs,0⟩] scope cpos) iter D) (Qyu wi g tc D te σ):=by
 intro pins s H k Q I h hQ;have hx':∀(v:Value)(s':Shared),Y.xe v s'->False:=λv s' z=>by rw[hx] at z;exact z
 refine wpAny_mono (hi pins s σ H _ I h) (λv s1 h1=>wpAny_mono h1 (λitv s2 h2=>?_) hx') hx';obtain⟨it,fp,tn,J,H2,e,I2,T,st2,f2,hW⟩:=h2;subst e;have loop:codeAny (model Y.prog Y.w) Y.A (.compLoop (.ListComp elt [g0,⟨tg,iter,ifs,0⟩] scope cpos) 1 (.ref it) (.ref D) Y.env) (λr s3=>match r with | .ok _=>Q s3 | .error _=>False) s2:=
  Qc4 (Y:=Y) (gens:=[g0,⟨tg,iter,ifs,0⟩]) (d:=1) hc T st2 f2 (λQ E s h=>Qlw Q E s h) (λx u r=>QeS hx hg ht (λσ4=>QgB hx he) x u r) I2 hW λs' H' I' q=>hQ s' H' I' q
 exact Qg5 loop (T.self _ 0 _ _ _ st2 loop)
theorem Qkc{Y:Cx}{elt tg iter tg2 iter2:QV}{ifs ifs2:List QV}{scope:Y0}{cpos:Pos}{it D:Addr}(hs:∀x,foldedSetIterable iter2 Y.env x=pure x)(Q:PySem.Fin->Shared->Prop)(E:Value->Shared->Prop)(s:Shared)
  (h:wpAny (model Y.prog Y.w) Y.A (pyNext (.ref it)) (λr s1=>match r with
   |none=>Q (.done .next) s1
   |some v=>wpAny (model Y.prog Y.w) Y.A (letOwnedTupleGo tg (.ref it) v) (λ_ s2=>QnY Y tg ifs (QnZ Y (.ListComp elt [⟨tg,iter,ifs,0⟩,⟨tg2,iter2,ifs2,0⟩] scope cpos) iter2 D) v (λs3=>Q (.again (.compLoop (.ListComp elt [⟨tg,iter,ifs,0⟩,⟨tg2,iter2,ifs2,0⟩] scope cpos) 0 (.ref it) (.ref D) Y.env)) s3) s2) E s1) E s) :
  wpAny (model Y.prog Y.w) Y.A (compTurn (.ListComp elt [⟨tg,iter,ifs,0⟩,⟨tg2,iter2,ifs2,0⟩] scope cpos) 0 (.ref it) (.ref D) Y.env) Q E s:=by
 have e:compTurn (.ListComp elt [⟨tg,iter,ifs,0⟩,⟨tg2,iter2,ifs2,0⟩] scope cpos) 0 (.ref it) (.ref D) Y.env=(do
   standAt iter.pos
   match <- pyNext (.ref it) with
   |none=>pure (.done .next)
   |some v=>
    letOwnedTupleGo tg (.ref it) v
    assign tg Y.env v
    let mut ok:=true
    for c in ifs do
     if ok then ok <- isTrue c Y.env (eval c Y.env)
    if ok then
     let x <- eval iter2 Y.env
     standAt iter2.pos
     let x <- foldedSetIterable iter2 Y.env x
     let _ <- runOwn (.compStart (.ListComp elt [⟨tg,iter,ifs,0⟩,⟨tg2,iter2,ifs2,0⟩] scope cpos) 1 (<- holding [x] (pyIter x)) (.ref D) Y.env) Y.env
    again (.compLoop (.ListComp elt [⟨tg,iter,ifs,0⟩,⟨tg2,iter2,ifs2,0⟩] scope cpos) 0 (.ref it) (.ref D) Y.env)):=by rfl
 rw[e];refine wpAny_bind (wpAny_standAt (wpAny_bind (thn h λr s1 h1=>?_)));cases r with
 |none=>exact wpAny_pure h1
 |some v=>
  refine wpAny_bind (thn h1 λ_ s2 h2=>?_);refine wpAny_bind (wpAny_mono h2 (λ_ s4 h4=>wpAny_bind (wpAny_mono h4 (λok s5 h5=>?_) λ_ _ f=>f.elim)) λ_ _ f=>f.elim);cases ok with
  |false=>exact wpAny_pure h5
  |true=>
   refine wpAny_bind (wpAny_mono h5 (λx s6 h6=>wpAny_bind (wpAny_standAt ?_)) λ_ _ f=>f.elim);rw[hs x];refine wpAny_bind (wpAny_pure (wpAny_bind (JT (wpAny_mono h6 (λitv s7 h7=>?_) λ_ _ f=>f.elim))));refine wpAny_bind (wpAny_runOwn (h:=none) (QdT h7 λr s8 h8=>?_));cases r with
   |error z=>exact h8.elim
   |ok fl=>exact wpAny_pure h8
def QrP(cap:List (Option Nat))(wi:TI)(g:TG)(tc:TT)(wi2:TI)(g2:TG)(tc2:TT)(te:TE):TE:=λσ H Q=>wi σ H λJ H1=>∀p,H1 p=none->Qib J (bOf (Qc8 cap σ) g tc (Qyu wi2 g2 tc2 p te)) (Q (.ref p)) (upd H1 p (.lst []))
end L2
namespace Rk
open L2 Rd
def pairD(ij:Int×Int):Qa:=.tuple [.int ij.1,.int ij.2]
theorem Qb5(b:Int×Int):ZP (pairD b)=1:=by
 unfold pairD;simp[ZP,JS]
end Rk
namespace Rr
section
variable{prog:QF}{w:Jk}{A:Q9}{E:Value->Shared->Prop}{s:Shared}
end
end Rr
namespace L2
def Qwl(ta:TA):TE:=λσ H Q=>ta σ H λvs H1=>∃j,vs=[.int j]/\∀r H2,Same H1 H2->H1 r=none->H2 r=some (.rng 0 j)->Q (.ref r) H2
section
variable{X:Cx}
theorem Qjp{a:QV}{ta:TA}{p pos:Pos}(hg:Gl X "range")(hm:X.mg "range" = none)(ha:PA X [a] ta)(hs:starEach [a] X.env=[(false,eval a X.env)]:=by rfl):PE X (.Call (.Name "range" p) [a] [] pos) (Qwl ta):=by
 intro pins s σ H Q I h;refine Qau (QbJ I hg hm boot_range ?_);refine JD (thn (ha pos pins s σ H _ I h) λus s1 ⟨vs,H1,I1,r1,q1⟩=>?_) hs rfl;obtain⟨j,e,q⟩:=q1;subst e;obtain⟨u,rfl,ru⟩:=vals1 r1;obtain⟨t,rfl⟩:=ru;refine call_range_1 ?_
 have hf:H1 s1.heap.objs.size=none:=I1.hok.fresh (Qg _);refine⟨.ref s1.heap.objs.size,upd H1 s1.heap.objs.size (.rng 0 j),I1.laid (t':=s1.toks+1+1) (λb u e=>Qe _ e) (Qg _) ⟨_,_,_,Qr _ rfl⟩,rfl,q _ _ (JI hf) hf Jy⟩
theorem QkD{acc:Array Value}{n:Nat}(h:ItemsOf (λi v=>∃t,v=Yw ((0:Int)+i*1) t) acc n):Vals ((Qt n).map λi=>V.int (i:Nat)) acc.toList:=by
 obtain⟨hs,hi⟩:=h;have key:∀(m:Nat)(l:List Value)(o:Nat),l.length=m->(∀i v,l[i]? = some v->∃t,v=Yw ((0:Int)+((o+i:Nat):Int)*1) t)->Vals ((List.range' o m).map λi=>V.int (i:Nat)) l:=by
  intro m;induction m with
  |zero=>intro l o hl _;cases l with
   |nil=>exact .nil
   |cons a b=>cases hl
  |succ m ih=>
   intro l o hl hv;cases l with
   |nil=>cases hl
   |cons a b=>
    rw[List.range'_succ,Js];refine .cons ?_ (ih b (o+1) (by simpa using hl) λi v e=>?_)
    ·obtain⟨t,rfl⟩:=hv 0 a rfl;exact⟨t,by simp⟩
    ·obtain⟨t,rfl⟩:=hv (i+1) v (by simpa using e);exact⟨t,by congr 3;omega⟩
 rw[List.range_eq_range'];refine key n acc.toList 0 (by simpa using hs) λi v e=>?_
 have:=hi i v (by simpa using e)
 simpa using this
end
end L2
namespace Rs
open PySem.W
def sp{α:Type}(n:Nat)(c:Nat->Nat->Bool):KasT α->(α->Prop)->Prop
 |.ret a,Q=>Q a
 |.ask i j f,Q=>i<n/\j<n/\sp n c (f (c i j)) Q
theorem QaG{α:Type}{n:Nat}{c:Nat->Nat->Bool}{Q Q':α->Prop}(h:∀a,Q a->Q' a):∀{t:KasT α},sp n c t Q->sp n c t Q'
 |.ret a,q=>h a q
 |.ask i j f,q=>⟨q.1,q.2.1,QaG h (t:=f (c i j)) q.2.2⟩
theorem Qdf{α β:Type}{n:Nat}{c:Nat->Nat->Bool}{f:α->KasT β}{Q:β->Prop}:∀{t:KasT α},sp n c t (λa=>sp n c (f a) Q)->sp n c (t.bind f) Q
 |.ret a,q=>q
 |.ask i j g,q=>⟨q.1,q.2.1,Qdf (t:=g (c i j)) q.2.2⟩
theorem QiW{α:Type}{n:Nat}{c:Nat->Nat->Bool}{cmp:Nat->Nat->(Bool->Shared->Prop)->Shared->Prop}{s:Shared}{Q:α->Shared->Prop}(hc:∀i j (C:Bool->Shared->Prop),i<n->j<n->C (c i j) s->cmp i j C s) :
  ∀{t:KasT α},sp n c t (λa=>Q a s)->t.kasWp cmp Q s
 |.ret a,q=>q
 |.ask i j f,q=>hc i j _ q.1 q.2.1 (QiW hc (t:=f (c i j)) q.2.2)
section
variable{n:Nat}{K:Nat->Int}
abbrev cK (K:Nat->Int) (i j:Nat):Bool:=decide (K i<K j)
structure Good (n:Nat) (p:Array Nat):Prop where
 perm:p.toList.Perm (Qt n)
theorem Good.size{p:Array Nat}(g:Good n p):p.size=n:=by
 have:=g.perm.length_eq;rw[Q1,Q4] at this;exact this
def at_(p:Array Nat)(i:Nat):Nat:=p.getD i 0
theorem QhQ{p:Array Nat}{i:Nat}(h:i<p.size):p[i]? = some (at_ p i):=by
 unfold at_;rw[Yx,ZU h];rfl
theorem Qrt{p q:Array Nat}{i j:Nat}(h:p[i]? = q[j]?):at_ p i=at_ q j:=by
 unfold at_;rw[Yx,Yx,h]
theorem Good.lt{p:Array Nat}(g:Good n p)(h0:0<n)(i:Nat):at_ p i<n:=by
 by_cases h:i<p.size
 ·have e:=QhQ h;have m:at_ p i∈p.toList:=by
   have:=Array.mem_of_getElem? e;exact Qk8.mpr this
  exact Q0.mp (g.perm.mem_iff.mp m)
 ·unfold at_;rw[Yx,ZL (by omega)];exact h0
theorem Good.inj{p:Array Nat}(g:Good n p){i j:Nat}(hi:i<n)(hj:j<n)(e:at_ p i=at_ p j):i=j:=by
 have nd:p.toList.Nodup:=g.perm.nodup_iff.mpr JN;have hs:=g.size;have hi':i<p.toList.length:=by rw[Q4];omega
 have hj':j<p.toList.length:=by rw[Q4];omega
 have ei:p.toList[i]=at_ p i:=by
  have:=QhQ (p:=p) (i:=i) (by omega);rw[ZU (by omega)] at this;rw[QaM];exact QJ this
 have ej:p.toList[j]=at_ p j:=by
  have:=QhQ (p:=p) (i:=j) (by omega);rw[ZU (by omega)] at this;rw[QaM];exact QJ this
 have pw:=YW.mp nd;rcases Qe1 i j with h | h | h
 ·exact absurd (ei.trans (e.trans ej.symm)) (pw i j hi' hj' h)
 ·exact h
 ·exact absurd (ej.trans (e.symm.trans ei.symm)) (pw j i hj' hi' h)
def kk(K:Nat->Int)(p:Array Nat)(i:Nat):Int:=K (at_ p i)
def Adj(K:Nat->Int)(p:Array Nat)(m:Nat):Prop:=∀i,i+1<m->kk K p i<=kk K p (i+1)
def Dsc(K:Nat->Int)(p:Array Nat)(m:Nat):Prop:=∀i,i+1<m->kk K p (i+1)<kk K p i
theorem Adj.le{p:Array Nat}{m:Nat}(h:Adj K p m){i:Nat}:∀{j:Nat},i<=j->j<m->kk K p i<=kk K p j
 |0,hij,_=>by cases Nat.le_zero.mp hij;exact Qow _
 |j+1,hij,hj=>by
  by_cases e:i=j+1
  ·rw[e];exact Qow _
  ·exact Int.le_trans (h.le (i:=i) (j:=j) (by omega) (by omega)) (h j hj)
theorem Qo1{p:Array Nat}(g:Good n p)(i j:Nat):Good n (kas_rev p i j):=⟨(QgS.mp (mirror_perm p i j _)).trans g.perm⟩
theorem Qr0{p:Array Nat}{m k:Nat}(hm:m<=p.size)(hk:k<m):at_ (kas_rev p 0 m) k=at_ p (m - 1 - k):=by
 refine Qrt ?_
 have:=getElem?_mirror_all (xs:=p) (i:=0) (j:=m) hm k
 rw[if_pos ⟨Jc _,hk⟩,Qlh] at this;exact this
theorem Qtu{p:Array Nat}{m:Nat}(hm:m<=p.size)(d:Dsc K p m):Adj K (kas_rev p 0 m) m:=by
 intro i hi;unfold kk;rw[Qr0 hm (by omega),Qr0 hm hi];have:=d (m - 1 - (i+1)) (by omega);have e:m - 1 - (i+1)+1=m - 1 - i:=by omega
 rw[e] at this;exact Int.le_of_lt this
theorem QlN{p:Array Nat}(g:Good n p)(h0:0<n):∀(f a:Nat),1<=a->Adj K p a ->
  sp n (cK K) (kas_asc p f a) (λm=>a<=m/\m<=a+f/\Adj K p m/\(m=a+f∨kk K p m<kk K p (m - 1)))
 |0,a,_,h=>⟨Qg _,Qg _,h,.inl rfl⟩
 |f+1,a,ha,h=>by
  refine⟨g.lt h0 a,g.lt h0 (a - 1),?_⟩;show sp n (cK K) (if decide (kk K p a<kk K p (a - 1))=true then .ret a else kas_asc p f (a+1)) _;by_cases e:kk K p a<kk K p (a - 1)
  ·rw[decide_eq_true e,if_pos rfl];exact⟨Qg _,QvH _ _,h,.inr e⟩
  ·rw[decide_eq_false e,if_neg (by simp)];refine QaG ?_ (QlN g h0 f (a+1) (by omega) ?_)
   ·rintro m ⟨h1,h2,h3,h4⟩;exact⟨by omega,by omega,h3,h4.imp (λq=>by omega) id⟩
   ·intro i hi;by_cases q:i+1<a
    ·exact h i q
    ·have e1:i=a - 1:=by omega
     have e2:i+1=a:=by omega
     rw[e2,e1];exact Int.not_lt.mp e
theorem QuY(inj:∀i j,i<n->j<n->K i=K j->i=j){p:Array Nat}(g:Good n p){i j:Nat}(hi:i<n)(hj:j<n)(h:i≠j):kk K p i≠kk K p j:=
 λe=>h (g.inj hi hj (inj _ _ (g.lt (by omega) i) (g.lt (by omega) j) e))
theorem QlM(inj:∀i j,i<n->j<n->K i=K j->i=j){p:Array Nat}(g:Good n p)(h0:0<n):∀(f a:Nat),1<=a->a+f<=n->Dsc K p a ->
  sp n (cK K) (kas_desc f p a 0) (λr=>r.1=p/\r.2.2=0/\a<=r.2.1/\r.2.1<=a+f/\Dsc K p r.2.1)
 |0,a,_,_,h=>⟨rfl,rfl,Qg _,Qg _,h⟩
 |f+1,a,ha,haf,h=>by
  refine⟨g.lt h0 a,g.lt h0 (a - 1),?_⟩;show sp n (cK K) (if decide (kk K p a<kk K p (a - 1))=true then(if 0 > 0 then kas_desc f (kas_rev p (a - (0+1)) a) (a+1) 0 else kas_desc f p (a+1) 0) else _) _;by_cases e:kk K p a<kk K p (a - 1)
  ·rw[decide_eq_true e,if_pos rfl,if_neg (by omega)];refine QaG ?_ (QlM inj g h0 f (a+1) (by omega) (by omega) ?_)
   ·rintro r ⟨h1,h2,h3,h4,h5⟩;exact⟨h1,h2,by omega,by omega,h5⟩
   ·intro i hi;by_cases q:i+1<a
    ·exact h i q
    ·have e1:i=a - 1:=by omega
     have e2:i+1=a:=by omega
     rw[e2,e1];exact e
  ·rw[decide_eq_false e,if_neg (by simp)];refine⟨g.lt h0 (a - 1),g.lt h0 a,?_⟩;show sp n (cK K) (if decide (kk K p (a - 1)<kk K p a)=true then .ret (p,a,0) else _) _;have ne:=QuY (K:=K) inj g (i:=a - 1) (j:=a) (by omega) (by omega) (by omega);rw[decide_eq_true (by omega),if_pos rfl];exact⟨rfl,rfl,Qg _,QvH _ _,h⟩
def Run(K:Nat->Int)(n:Nat)(r:Nat×Array Nat):Prop:=Good n r.2/\1<=r.1/\r.1<=n/\Adj K r.2 r.1
theorem QoK{p:Array Nat}(g:Good n p){m:Nat}(h1:1<=m)(hm:m<=n)(d:Dsc K p m):sp n (cK K) (kas_tail3 m n p) (Run K n):=by
 refine Qdf ?_
 have hs:=g.size;have g':=Qo1 g 0 m;refine QaG ?_ (QlN g' (by omega) (n - m) m h1 (Qtu (by omega) d))
 rintro k ⟨a,b,c,_⟩;exact⟨g',by omega,by omega,c⟩
theorem Qid(inj:∀i j,i<n->j<n->K i=K j->i=j){p:Array Nat}(g:Good n p){m:Nat}(hm:m+1<=n)(d:Dsc K p (m+1)):sp n (cK K) (kas_descPart m n p) (Run K n):=by
 refine Qdf ?_
 refine QaG ?_ (QlM inj g (by omega) (n - (m+1)) (m+1) (by omega) (by omega) d)
 rintro⟨p',k,q⟩ ⟨e1,e2,h3,h4,h5⟩;have e1:p'=p:=e1;have e2:q=0:=e2;subst e1 e2;show sp n (cK K) (if 0 > 0 then _ else kas_tail3 k n p') _;rw[if_neg (by omega)];have h3:m+1<=k:=h3;have h4:k<=m+1+(n - (m+1)):=h4;exact QoK g (by omega) (by omega) h5
theorem QoL(inj:∀i j,i<n->j<n->K i=K j->i=j){p:Array Nat}(g:Good n p)(h0:0<n):sp n (cK K) (kas_count n p) (Run K n):=by
 refine Qdf ?_
 refine QaG ?_ (QlN g h0 (n - 1) 1 (Qg _) (λi hi=>by omega))
 rintro m ⟨h1,h2,h3,h4⟩;show sp n (cK K) (if(m == n)=true then .ret (m,p) else if m > 1 then _ else kas_descPart m n p) _;by_cases e:m=n
 ·rw[if_pos (beq_iff_eq.mpr e)];exact⟨g,h1,by omega,h3⟩
 ·rw[if_neg (λq=>e (beq_iff_eq.mp q))];by_cases e2:m > 1
  ·rw[if_pos e2];refine⟨g.lt h0 0,g.lt h0 (m - 1),?_⟩;show sp n (cK K) (if decide (kk K p 0<kk K p (m - 1))=true then .ret (m,p) else _) _;have le:=h3.le (i:=0) (j:=m - 1) (by omega) (by omega);have ne:=QuY (K:=K) inj g (i:=0) (j:=m - 1) (by omega) (by omega) (by omega);rw[decide_eq_true (by omega),if_pos rfl];exact⟨g,h1,by omega,h3⟩
  ·rw[if_neg e2];have em:m=1:=by omega
   subst em;refine Qid inj g (by omega) λi hi=>?_
   have ei:i=0:=by omega
   subst ei;rcases h4 with q | q
   ·omega
   ·exact q
theorem QfY{p:Array Nat}(g:Good n p)(h0:0<n){k:Nat}(A:Adj K p k):∀(f l r:Nat),l<=r->r<=k->r - l<=f->(∀i,i<l->kk K p i<=kk K p k)->(∀i,r<=i->i<k->kk K p k<kk K p i) ->
  sp n (cK K) (kas_place p k f l r) (λm=>m<=k/\(∀i,i<m->kk K p i<=kk K p k)/\∀i,m<=i->i<k->kk K p k<kk K p i)
 |0,l,r,h1,h2,h3,a,b=>⟨by omega,a,λi hi hk=>b i (by omega) hk⟩
 |f+1,l,r,h1,h2,h3,a,b=>by
  show sp n (cK K) (if l≥r then .ret l else _) _;by_cases e:l≥r
  ·rw[if_pos e];exact⟨by omega,a,λi hi hk=>b i (by omega) hk⟩
  ·rw[if_neg e];refine⟨g.lt h0 k,g.lt h0 ((l+r) / 2),?_⟩;show sp n (cK K) (if decide (kk K p k<kk K p ((l+r) / 2))=true then kas_place p k f l ((l+r) / 2) else kas_place p k f ((l+r) / 2+1) r) _;by_cases q:kk K p k<kk K p ((l+r) / 2)
   ·rw[decide_eq_true q,if_pos rfl];refine QfY g h0 A f l ((l+r) / 2) (by omega) (by omega) (by omega) a λi hi hk=>?_
    exact Int.lt_of_lt_of_le q (A.le hi hk)
   ·rw[decide_eq_false q,if_neg (by simp)];refine QfY g h0 A f ((l+r) / 2+1) r (by omega) h2 (by omega) (λi hi=>?_) b;exact Int.le_trans (A.le (i:=i) (j:=(l+r) / 2) (by omega) (by omega)) (Int.not_lt.mp q)
theorem QrT(h0:0<n):∀(f k:Nat){p:Array Nat},Good n p->k+f<=n->Adj K p k->sp n (cK K) (kas_bin f p k) (λp'=>Good n p'/\Adj K p' (k+f))
 |0,k,p,g,_,A=>⟨g,A⟩
 |f+1,k,p,g,hk,A=>by
  refine Qdf ?_
  refine QaG ?_ (QfY g h0 A k 0 k (Jc _) (Qg _) (by omega) (λi hi=>by omega) (λi hi hk=>by omega))
  rintro l ⟨hl,lo,hi⟩;have hs:=g.size;have bb:∀j,at_ (bubble p k (k - l)) j=if j=l then at_ p k else if l<j/\j<=k then at_ p (j - 1) else at_ p j:=by
   intro j;have:=getElem?_bubble (xs:=p) (src:=k) (by omega) (k - l) (by omega) j
   have e:k - (k - l)=l:=by omega
   rw[e] at this;split
   ·rename_i q;rw[if_pos q] at this;exact Qrt this
   ·rename_i q
    rw[if_neg q] at this;split
    ·rename_i q2;rw[if_pos q2] at this;exact Qrt this
    ·rename_i q2;rw[if_neg q2] at this;exact Qrt this
  refine QaG ?_ (QrT h0 f (k+1) (p:=bubble p k (k - l)) ⟨(QgS.mp (bubble_perm p k (k - l))).trans g.perm⟩ (by omega) ?_)
  ·rintro p' ⟨a,b⟩;exact⟨a,by rw[show k+(f+1)=k+1+f by omega];exact b⟩
  ·intro i hik;unfold kk;rw[bb,bb];by_cases c1:i+1<l
   ·rw[if_neg (by omega),if_neg (by omega),if_neg (by omega),if_neg (by omega)];exact A i (by omega)
   ·by_cases c2:i+1=l
    ·rw[if_neg (by omega),if_neg (by omega),if_pos c2];exact lo i (by omega)
    ·by_cases c3:i=l
     ·rw[if_pos c3,if_neg (by omega),if_pos ⟨by omega,by omega⟩];exact Int.le_of_lt (hi (i+1 - 1) (by omega) (by omega))
     ·rw[if_neg c3,if_pos ⟨by omega,by omega⟩,if_neg (by omega),if_pos ⟨by omega,by omega⟩];have:=A (i - 1) (by omega);rw[show i - 1+1=i+1 - 1 by omega] at this;exact this
theorem Qti(inj:∀i j,i<n->j<n->K i=K j->i=j)(h0:0<n):sp n (cK K) (kas_sort n) (λp=>Good n p/\Adj K p n):=by
 have g:Good n (Yf (Qt n)):=⟨Qcf _⟩;refine Qdf ?_
 refine QaG ?_ (QoL inj g h0)
 rintro⟨m,p⟩ ⟨g',h1,h2,A⟩;show sp n (cK K) (if m<n then kas_bin (n - max m 1) p (max m 1) else .ret p) _;have e:max m 1=m:=by have:1<=m:=h1;omega
 rw[e];by_cases q:m<n
 ·rw[if_pos q];refine QaG ?_ (QrT h0 (n - m) m g' (by omega) A)
  rintro p' ⟨a,b⟩;exact⟨a,by rw[show m+(n - m)=n by omega] at b;exact b⟩
 ·rw[if_neg q];have h2:m<=n:=h2;have e2:m=n:=by omega
  subst e2;exact⟨g',A⟩
end
end Rs
namespace Rs
open PySem.W PySem.Calls
section
variable{prog:QF}{w:Jk}{A:Q9}{E:Value->Shared->Prop}{s:Shared}
def Kept(a:Addr)(h h':Heap):Prop:=∀b x,b≠a->h.get? b=some x->h'.get? b=some x
theorem QfT{h:Heap}{a:Addr}(f:Obj->Obj):Kept a h (h.update a f):=λb x hb e=>(Heap.get?_update_ne _ _ _ _ hb).trans e
theorem Qha{h:Heap}{a:Addr}(o:Obj):Kept a h (h.push o):=λb x _ e=>Qe _ e
theorem Kept.trans{a:Addr}{h h1 h2:Heap}(k:Kept a h h1)(k':Kept a h1 h2):Kept a h h2:=λb x hb e=>k' b x hb (k b x hb e)
theorem Ql4(vs:List Value):(Qt vs.length).map (λi=>vs.getD i Jz)=vs:=by
 apply Z9
 intro i;rw[Qv];by_cases h:i<vs.length
 ·rw[Jo h,Qf h];show some (vs.getD i Jz)=_;rw[Qo,Qf h];rfl
 ·rw[Q6 (by simpa using h),Q6 (by omega)];rfl
theorem Qfa{a:Addr}{vs:List Value}{n:Nat}{P:PySem.Fin->Shared->Prop}(ho:s.heap.get? a=some (seqObj "list" vs.toArray n))(h64:vs.length<64)(K:Nat->Int)(κ:QbR)
  (inj:∀i j,i<vs.length->j<vs.length->K i=K j->i=j)
  (hkind:2<=vs.length->∀h':Heap,Kept a s.heap h'->∀(Q':QbR->Shared->Prop)(E':Value->Shared->Prop),Q' κ { s with heap:=h' }->wpAny (model prog w) A (keyKind' vs.toArray) Q' E' { s with heap:=h' })
  (hcmp:∀h':Heap,Kept a s.heap h'->∀(i j:Nat)(C:Bool->Shared->Prop),i<vs.length->j<vs.length->C (decide (K i<K j)) { s with heap:=h' }->wpAny (model prog w) A (keyLt' κ (vs.getD i Jz) (vs.getD j Jz)) C (λ_ _=>False) { s with heap:=h' })
  (h:∀p:Array Nat,Good vs.length p->Adj K p vs.length->∀(h':Heap)(e:Nat),Kept a s.heap h'->h'.get? a=some (seqObj "list" (Yf (p.toList.map λi=>vs.getD i Jz)) e)->P (.done (.ret .none)) { s with heap:=h' }) :
  wpAny (model prog w) A (YV.«list.sort» ⟨[.ref a],[]⟩) P E s:=by
 have ha:a<s.heap.objs.size:=Qk ho;obtain⟨e1,ho1⟩:∃e1,(s.heap.update a (Zv λ_=>(#[]:Array Value))).get? a=some (seqObj "list" #[] e1):=⟨_,get?_update_seq ho λ_=>#[]⟩
 have K3:Kept a s.heap (((s.heap.update a (Zv λ_=>(#[]:Array Value))).push (seqObj "tuple" vs.toArray 0)).push (seqObj "list" #[] 0)):=(QfT _).trans ((Qha _).trans (Qha _));have ho6:(((s.heap.update a (Zv λ_=>(#[]:Array Value))).push (seqObj "tuple" vs.toArray 0)).push (seqObj "list" #[] 0)).get? a=some (seqObj "list" #[] e1):=Qe _ (Qe _ ho1);rw[list_sort_plain];refine wpAny_bind (listItems_at ho rfl ?_);refine wpAny_bind (Qoo ho rfl ?_ (by rw[Ql,YT];omega) (Jc _));refine wpAny_bind (QvR ho1 rfl ?_);refine wpAny_bind (wpAny_newTuple ?_ (by show vs.length<=_;rw[YT];omega));refine wpAny_bind (Qol ?_ (Jc _));refine JT ?_
 show wpAny (model prog w) A _ P E { s with heap:=((s.heap.update a (Zv λ_=>(#[]:Array Value))).push (seqObj "tuple" vs.toArray 0)).push (seqObj "list" #[] 0) }
 dsimp only
 generalize (((s.heap.update a (Zv λ_=>(#[]:Array Value))).push (seqObj "tuple" vs.toArray 0)).push (seqObj "list" #[] 0))=h3 at K3 ho6 ⊢;have fin:∀p:Array Nat,Good vs.length p->Adj K p vs.length->∀st':SortSt,(arrOf st').map (·.2)=Yf (p.toList.map λi=>vs.getD i Jz)->failedOf st'=none ->
   ∃e2,(h3.update a (Zv λ_=>Yf (p.toList.map λi=>vs.getD i Jz))).get? a=some (seqObj "list" (Yf (p.toList.map λi=>vs.getD i Jz)) e2):=λp _ _ _ _ _=>⟨_,get?_update_seq ho6 λ_=>_⟩
 by_cases h2:vs.toArray.size<2
 ·rw[if_pos h2,if_pos h2];refine wpAny_bind (wpAny_pure ?_);rw[StateT.run_pure];refine wpAny_bind (wpAny_pure ?_)
  dsimp only
  have gg:Good vs.length (Yf (Qt vs.length)):=⟨Qcf _⟩;have aa:Adj K (Yf (Qt vs.length)) vs.length:=λi hi=>by rw[Ql] at h2;omega
  have out:(arrOf (SortSt.mk' general' (vs.toArray.zip vs.toArray) #[] 7 none)).map (·.2)=Yf ((Yf (Qt vs.length)).toList.map λi=>vs.getD i Jz):=by
   show(vs.toArray.zip vs.toArray).map (·.2)=_;rw[Qa3,Ql4];apply Qe3.mp
   rw[Qe2,Array.toList_zip];show(vs.zip vs).map (·.2)=vs;exact List.map_snd_zip (Qg _)
  obtain⟨e2,he2⟩:=fin _ gg aa _ out rfl;rw[out];refine wpAny_bind (QvR ho6 rfl ?_);refine wpAny_bind (Qoo ho6 rfl ?_ (Jc _) (by rw[Ql,Qd,Qa3,Q1,YT];omega));simp only[bne_self_eq_false,Zu,if_false];exact wpAny_pure (h _ gg aa _ e2 (K3.trans (QfT _)) he2)
 ·rw[if_neg h2,if_neg h2];have h2':2<=vs.length:=by rw[Ql] at h2;omega
  refine wpAny_bind (hkind h2' h3 K3 _ _ ?_);refine wpAny_bind (wpAny_mono (kat_run (Q:=λst' s'=>∃p:Array Nat,Good vs.length p/\Adj K p vs.length/\arrOf st'=p.map (kas_item (vs.toArray.zip vs.toArray))/\failedOf st'=none/\s'={ s with heap:=h3 })
   (G:=λp s'=>Good vs.length p/\Adj K p vs.length/\s'={ s with heap:=h3 }) rfl h2' h64 (λp' st' s' a1 a2 a3 a4=>⟨p',a4.1,a4.2.1,a2,a3,a4.2.2⟩)
   (QiW (c:=cK K) (λi j C hi hj hC=>hcmp h3 K3 i j C hi hj hC) (QaG (λp q=>⟨q.1,q.2,rfl⟩) (Qti inj (by omega))))) ?_ λ_ _ e=>e)
  rintro⟨⟨⟩,st'⟩ s' ⟨p,gg,aa,har,hf,rfl⟩
  dsimp only
  have out:=kat_snds (ks:=vs) rfl har;obtain⟨e2,he2⟩:=fin p gg aa st' out hf;rw[out];refine wpAny_bind (QvR ho6 rfl ?_);refine wpAny_bind (Qoo ho6 rfl ?_ (Jc _) (by rw[Ql,Qd,Q4,gg.size,YT];omega));rw[hf];simp only[bne_self_eq_false,Zu,if_false];exact wpAny_pure (h p gg aa _ e2 (K3.trans (QfT _)) he2)
theorem Qby{Q:Value->Shared->Prop}{l:Addr}{T:String}{o:Obj}{vs:List Value}{n:Nat}(hT:T = "list" ∨ T = "tuple")(ho:s.heap.get? l=some o)(hc:o.cls=.type T)(hd:o.data=.seq vs.toArray n)(h64:vs.length<64)
  (h:∀h':Heap,(∀b x,s.heap.get? b=some x->h'.get? b=some x)->∀(P:PySem.Fin->Shared->Prop)(E':Value->Shared->Prop),(∀s2,Q (.ref h'.objs.size) s2->P (.done (.ret .none)) s2) ->
   wpAny (model prog w) A.in1.in1 (YV.«list.sort» ⟨[.ref h'.objs.size],[]⟩) P E' { s with heap:=h'.push (seqObj "list" vs.toArray 0) }) :
  wpAny (model prog w) A (call (.builtin "sorted") [.ref l]) Q E s:=by
 refine QgX kind_sorted plain_sorted entry_sorted (args_sorted1 _) ?_
 unfold YV.«sorted»;refine wpAny_bind (m:=checkCount "sorted" 1 1 _) (wpAny_pure ?_);refine wpAny_bind (wpAny_collect_seq (items:=vs.toArray) l hT ho hc hd (λh' kp=>?_) (by rw[Ql,YT];omega));refine wpAny_bind (Qol ?_ (by rw[Qa3,YT];omega));have hoL:(h'.push (seqObj "list" vs.toArray 0)).get? h'.objs.size=some (seqObj "list" vs.toArray 0):=Qr _ rfl;show wpAny _ _ _ _ _ { s with heap:=h'.push (seqObj "list" vs.toArray 0) };refine wpAny_bind (JT (JJ slot_list_sort ⟨_,hoL,rfl⟩ entry_list_sort ?body (args_list_sort _)));exact h h' kp _ _ λs2 hq=>⟨_,rfl,wpAny_pure ⟨_,rfl,hq⟩⟩
end
structure PairV (h:Heap) (v:Value) (ij:Int×Int):Prop where
 it:∃(a:Addr)(o:Obj)(n:Nat)(t u:Tok),v=.ref a/\h.get? a=some o/\o.cls=.type "tuple" /\ o.data=.seq #[.int ij.1 t,.int ij.2 u] n
theorem PairV.keep{h h':Heap}{v:Value}{ij:Int×Int}(q:PairV h v ij)(k:∀b x,h.get? b=some x->h'.get? b=some x):PairV h' v ij:=by
 obtain⟨a,o,n,t,u,e,g,c,d⟩:=q.it;exact⟨a,o,n,t,u,e,k _ _ g,c,d⟩
inductive PairsV (h:Heap):List Value->List (Int×Int)->Prop
 |nil:PairsV h [] []
 |cons {v:Value} {vs:List Value} {ij:Int×Int} {L:List (Int×Int)}:PairV h v ij->PairsV h vs L->PairsV h (v::vs) (ij::L)
theorem PairsV.keep{h h':Heap}(k:∀b x,h.get? b=some x->h'.get? b=some x):∀{vs:List Value}{L:List (Int×Int)},PairsV h vs L->PairsV h' vs L
 |_,_,.nil=>.nil
 |_,_,.cons q r=>.cons (q.keep k) (r.keep k)
theorem PairsV.len{h:Heap}:∀{vs:List Value}{L:List (Int×Int)},PairsV h vs L->vs.length=L.length
 |_,_,.nil=>rfl
 |_,_,.cons _ r=>by rw[QQ,QQ,r.len]
theorem PairsV.at_{h:Heap}:∀{vs:List Value}{L:List (Int×Int)},PairsV h vs L->∀i,i<vs.length->PairV h (vs.getD i Jz) (L.getD i (0,0))
 |_,_,.nil,i,hi=>by simp at hi
 |_,_,.cons q r,0,hi=>q
 |_,_,.cons q r,i+1,hi=>by
  have:=r.at_ i (by simpa using hi)
  simpa using this
theorem PairsV.firsts{h:Heap}:∀{vs:List Value}{L:List (Int×Int)},PairsV h vs L->∃fs,KatTups h vs fs/\fs.length=vs.length/\∀v∈fs,∃i t,v=Yw i t
 |_,_,.nil=>⟨[],.nil,rfl,λv hv=>nomatch hv⟩
 |_,_,.cons q r=>by
  obtain⟨fs,k,l,f⟩:=r.firsts;obtain⟨a,o,n,t,u,e,g,c,d⟩:=q.it;subst e;refine⟨_::fs,KatTups.cons g c d rfl k,by rw[QQ,QQ,l],λv hv=>?_⟩;rcases Qy.mp hv with z | z
  ·exact⟨_,_,z⟩
  ·exact f v z
def code(ij:Int×Int):Int:=64*ij.1+ij.2
section
variable{prog:QF}{w:Jk}{A:Q9}{E:Value->Shared->Prop}{s:Shared}
theorem Qvm{a b:Int×Int}(ha:0<=a.2/\a.2<64)(hb:0<=b.2/\b.2<64):decide (code a<code b)=if a.1=b.1 then(if a.2=b.2 then false else decide (a.2<b.2)) else decide (a.1<b.1):=by
 unfold code;split
 ·split
  ·exact decide_eq_false (by omega)
  ·by_cases q:a.2<b.2
   ·rw[decide_eq_true q];exact decide_eq_true (by omega)
   ·rw[decide_eq_false q];exact decide_eq_false (by omega)
 ·by_cases q:a.1<b.1
  ·rw[decide_eq_true q];exact decide_eq_true (by omega)
  ·rw[decide_eq_false q];exact decide_eq_false (by omega)
theorem Quj{v v':Value}{a b:Int×Int}{C:Bool->Shared->Prop}(pa:PairV s.heap v a)(pb:PairV s.heap v' b)(ha:0<=a.2/\a.2<64)(hb:0<=b.2/\b.2<64)(h:C (decide (code a<code b)) s) :
  wpAny (model prog w) A (keyLt' (tuples' true) v v') C E s:=by
 obtain⟨x,ox,n,t,u,rfl,gx,cx,dx⟩:=pa.it;obtain⟨y,oy,m,t',u',rfl,gy,cy,dy⟩:=pb.it;rw[Qvm ha hb] at h;refine kat_lt gx dx gy dy ?_
 show KatLex prog w A true false C [(.int a.1 t,.int b.1 t'),(.int a.2 u,.int b.2 u')] 0 s;refine kat_cons (Qh1 ?_);by_cases e:a.1=b.1
 ·rw[if_pos e] at h;rw[show(a.1 == b.1)=true from beq_iff_eq.mpr e];refine kat_yes (kat_cons (Qh1 ?_));by_cases e2:a.2=b.2
  ·rw[if_pos e2] at h;rw[show(a.2 == b.2)=true from beq_iff_eq.mpr e2];exact kat_yes (kat_nil h)
  ·rw[if_neg e2] at h;rw[show(a.2 == b.2)=false from beq_eq_false_iff_ne.mpr e2];exact kat_no (kat_one _ _ (lt_int h))
 ·rw[if_neg e] at h;rw[show(a.1 == b.1)=false from beq_eq_false_iff_ne.mpr e];exact kat_no (oneLt_int h)
theorem Qmw{vs:List Value}{L:List (Int×Int)}{Q:QbR->Shared->Prop}(r:PairsV s.heap vs L)(h2:2<=vs.length)(h:Q (tuples' true) s):wpAny (model prog w) A (keyKind' vs.toArray) Q E s:=by
 obtain⟨fs,k,l,f⟩:=r.firsts;refine kat_kind (T:=.type "int") k (by omega) (λv hv=>?_) (by decide +kernel) ?_
 ·obtain⟨i,t,rfl⟩:=f v hv;exact Looks.of_pure rfl
 ·rw[show(Qam "int" != Qam "tuple")=true by decide +kernel];exact h
theorem QeF{a:Addr}{vs:List Value}{L:List (Int×Int)}{n:Nat}{P:PySem.Fin->Shared->Prop}(ho:s.heap.get? a=some (seqObj "list" vs.toArray n))(h64:vs.length<64)(r:∀h',Kept a s.heap h'->PairsV h' vs L)(nd:L.Nodup)(hb:∀ij∈L,0<=ij.2/\ij.2<64)
  (h:∀p:Array Nat,Good vs.length p->Adj (λi=>code (L.getD i (0,0))) p vs.length->∀(h':Heap)(e:Nat),Kept a s.heap h'->h'.get? a=some (seqObj "list" (Yf (p.toList.map λi=>vs.getD i Jz)) e)->P (.done (.ret .none)) { s with heap:=h' }) :
  wpAny (model prog w) A (YV.«list.sort» ⟨[.ref a],[]⟩) P E s:=by
 have hl:vs.length=L.length:=(r s.heap (λb x _ e=>e)).len;have hb':∀i,i<vs.length->0<=(L.getD i (0,0)).2/\(L.getD i (0,0)).2<64:=λi hi=>by
  rw[Qo,Qf (by omega)];exact hb _ (Zw _)
 refine Qfa ho h64 (λi=>code (L.getD i (0,0))) (tuples' true) (λi j hi hj e=>?_) (λh2 h' k Q' E' q=>Qmw (s:={ s with heap:=h' }) (r h' k) h2 q) (λh' k i j C hi hj q=>Quj (s:={ s with heap:=h' }) ((r h' k).at_ i hi) ((r h' k).at_ j hj) (hb' i hi) (hb' j hj) q) h;have bi:=hb' i hi;have bj:=hb' j hj;have e:code (L.getD i (0,0))=code (L.getD j (0,0)):=e;unfold code at e;have e':L.getD i (0,0)=L.getD j (0,0):=QfO (by omega) (by omega);rw[Qo,Qo,Qf (by omega),Qf (by omega)] at e';have pw:=YW.mp nd;rcases Qe1 i j with q | q | q
 ·exact absurd e' (pw i j (by omega) (by omega) q)
 ·exact q
 ·exact absurd e'.symm (pw j i (by omega) (by omega) q)
end
theorem Qnb{α:Type}{L:List α}{d:α}{p:Array Nat}(g:Good L.length p):(p.toList.map λi=>L.getD i d).Perm L:=by
 have e:(Qt L.length).map (λi=>L.getD i d)=L:=by
  apply Z9
  intro i;rw[Qv];by_cases h:i<L.length
  ·rw[Jo h,Qf h];show some (L.getD i d)=_;rw[Qo,Qf h];rfl
  ·rw[Q6 (by simpa using h),Q6 (by omega)];rfl
 have:=g.perm.map λi=>L.getD i d
 rwa [e] at this
theorem Qna{L:List (Int×Int)}{p:Array Nat}(g:Good L.length p)(ad:Adj (λi=>code (L.getD i (0,0))) p L.length)(inj:∀i j,i<L.length->j<L.length->code (L.getD i (0,0))=code (L.getD j (0,0))->i=j) :
  (p.toList.map λi=>L.getD i (0,0)).Pairwise λa b=>code a<code b:=by
 rw[YW];intro i j hi hj hij;rw[Qd,Q4] at hi hj;have hs:=g.size;rw[QsU,QsU,QaM,QaM];have ei:p[i]=at_ p i:=by have:=QhQ (p:=p) (i:=i) (by omega);rw[ZU (by omega)] at this;exact QJ this
 have ej:p[j]=at_ p j:=by have:=QhQ (p:=p) (i:=j) (by omega);rw[ZU (by omega)] at this;exact QJ this
 rw[ei,ej];have le:=ad.le (i:=i) (j:=j) (by omega) (by omega);have ne:=QuY (K:=λi=>code (L.getD i (0,0))) inj g (i:=i) (j:=j) (by omega) (by omega) (by omega);have le:code (L.getD (at_ p i) (0,0))<=code (L.getD (at_ p j) (0,0)):=le;have ne:code (L.getD (at_ p i) (0,0))≠code (L.getD (at_ p j) (0,0)):=ne;omega
end Rs
namespace L2
open _root_.Rd _root_.Rk _root_.Rs
theorem boot_sorted:bootBuiltins "sorted" = some (.builtin "sorted"):=by decide +kernel
section
variable{X:Cx}
theorem Qhf{P:QF}{w:Jk}{H:Hp}{h:Heap}(ok:HOk P w H h):∀{xs:List V}{L:List (Int×Int)}{vs:List Value},Dats H xs (L.map Rk.pairD)->Vals xs vs->PairsV h vs L
 |_,[],vs,.nil,r=>by cases r;exact .nil
 |_,ij::L,vs,.cons (x:=x) (xs:=xs) q qs,r=>by
  cases r with
  |cons r rs=>
   refine .cons ?_ (Qhf ok qs rs)
   cases q with
   |@tup a ys ds e q2=>
    cases r;obtain⟨_,its,rv,o,ho,hc,_,n,hd⟩:=ok a _ e;cases q2 with
    |cons q3 q4=>
     cases q4 with
     |cons q5 q6=>
      cases q6;cases q3;cases q5;cases rv with
      |cons r1 r2=>
       cases r2 with
       |cons r3 r4=>
        cases r4;obtain⟨t,rfl⟩:=r1;obtain⟨u,rfl⟩:=r3;exact⟨_,o,n,t,u,rfl,ho,hc,hd⟩
theorem Qnp{H:Hp}:∀{xs:List V}{L:List (Int×Int)},Dats H xs (L.map Rk.pairD)->∀i,i<xs.length->Dat H (xs.getD i .non) (Rk.pairD (L.getD i (0,0)))
 |_,[],.nil,i,hi=>by simp at hi
 |_,ij::L,.cons q qs,0,hi=>q
 |_,ij::L,.cons q qs,i+1,hi=>by
  have:=Qnp (L:=L) qs i (by simpa using hi)
  simpa using this
theorem Qlt:∀{xs:List V}{vs:List Value},Vals xs vs->∀i,i<xs.length->RelV (xs.getD i .non) (vs.getD i Jz)
 |_,_,.nil,i,hi=>by simp at hi
 |_,_,.cons q qs,0,hi=>q
 |_,_,.cons q qs,i+1,hi=>by
  have:=Qlt qs i (by simpa using hi)
  simpa using this
theorem QjS{H:Hp}{f:Nat->V}{g:Nat->Int×Int}:∀{is:List Nat},(∀i∈is,Dat H (f i) (Rk.pairD (g i)))->Dats H (is.map f) ((is.map g).map Rk.pairD)
 |[],_=>.nil
 |i::is,h=>.cons (h i (.head _)) (QjS λj hj=>h j (.tail _ hj))
theorem QiY{f:Nat->V}{g:Nat->Value}:∀{is:List Nat},(∀i∈is,RelV (f i) (g i))->Vals (is.map f) (is.map g)
 |[],_=>.nil
 |i::is,h=>.cons (h i (.head _)) (QiY λj hj=>h j (.tail _ hj))
def Ql6:List V->Hp->VK->Prop:=λxs H Q=>∃(l:Addr)(vs:List V)(L:List (Int×Int)),xs=[.ref l]/\H l=some (.lst vs)/\Dats H vs (L.map Rk.pairD)/\L.Nodup/\L.length<64/\(∀ij∈L,0<=ij.2/\ij.2<64) /\
 ∀(t:Addr)(ys:List V)(M:List (Int×Int))(H2:Hp),Same H H2->H t=none->H2 t=some (.lst ys)->Dats H2 ys (M.map Rk.pairD)->M.Perm L->M.Pairwise (λa b=>Rs.code a<Rs.code b)->Q (.ref t) H2
theorem QfH:CallR X (.builtin "sorted") Ql6:=by
 intro pins s σ H xs us Q I r h;obtain⟨l,vs,L,rfl,hl,ds,nd,h64,hb,q⟩:=h;obtain⟨u,rfl,ru⟩:=vals1 r;cases ru;obtain⟨hz,its,n,rv,ho⟩:=I.hok l _ hl;have pv:=Qhf I.hok ds rv;have lv:=ds.length;rw[Qd] at lv;have li:=rv.length;have lp:=pv.len;refine Qby (.inl rfl) ho rfl rfl (by omega) λh' kp P E' hP=>?_
 refine QeF (s:={ s with heap:=h'.push (seqObj "list" its.toArray 0) }) (vs:=its) (L:=L) (Qr _ rfl) (by omega) (λh2 k2=>?_) nd hb λp g ad h2 e k2 e2=>hP _ ?_
 ·exact(pv.keep kp).keep λb x e=>k2 b x (QD (Qk e)) (Qe _ e)
 ·have I1:Inv X pins σ H { s with heap:=h' }:=I.kept (t':=s.toks) kp;have hf:H h'.objs.size=none:=I1.hok.fresh (Qg _);have hp:∀i∈p.toList,i<vs.length:=λi hi=>by have:=Q0.mp (g.perm.mem_iff.mp hi);omega
  have I2:Inv X pins σ (upd H h'.objs.size (.lst (p.toList.map λi=>vs.getD i .non))) { s with heap:=h2 }:=
   I1.laid (t':=s.toks) (λb x e'=>k2 b x (QD (Qk e')) (Qe _ e')) (Qg _) (show ObjOk X.prog X.w _ _ _ (.lst _) from⟨by rw[Qd,Q4,g.size];exact Zq (Rk.Qa1 (by omega)),_,e,QiY λi hi=>Qlt rv i (hp i hi),e2⟩)
  have g':Good L.length p:=by rw[<- lp];exact g
  have ad':Adj (λi=>Rs.code (L.getD i (0,0))) p L.length:=by rw[<- lp];exact ad
  refine⟨.ref h'.objs.size,_,I2,rfl,q _ _ (p.toList.map λi=>L.getD i (0,0)) _ (JI hf) hf Jy (QjS λi hi=>(Qnp ds i (hp i hi)).same (JI hf)) (Qnb g') (Qna g' ad' λi j hi hj e=>?_)⟩;have bi:0<=(L.getD i (0,0)).2/\(L.getD i (0,0)).2<64:=by rw[Qo,Qf hi];exact hb _ (Zw _)
  have bj:0<=(L.getD j (0,0)).2/\(L.getD j (0,0)).2<64:=by rw[Qo,Qf hj];exact hb _ (Zw _)
  unfold Rs.code at e;have e':L.getD i (0,0)=L.getD j (0,0):=QfO (by omega) (by omega);rw[Qo,Qo,Qf hi,Qf hj] at e';have pw:=YW.mp nd;rcases Qe1 i j with z | z | z
  ·exact absurd e' (pw i j hi hj z)
  ·exact z
  ·exact absurd e'.symm (pw j i hj hi z)
theorem Qgm:∀{ns:List Int}{vs:List Value},Vals (ns.map V.int) vs->Qa9 vs ns
 |[],_,.nil=>.nil
 |i::ns,_,.cons ⟨t,e⟩ r=>by subst e;exact .cons _ _ (Qgm r)
theorem Qeh:∀{ns:List Int}{vs:List Value},Qa9 vs ns->Vals (ns.map V.int) vs
 |_,_,.nil=>.nil
 |_,_,.cons n t r=>.cons ⟨t,rfl⟩ (Qeh r)
def Qr1(K:PySem.W.Frag):List V->Hp->VK->Prop:=λxs H Q=>∃l ns,xs=[.ref l]/\SqT K H l ((ns:List Int).map V.int)/\ns.length<64 /\
 ∀t ms H2,Same H H2->H t=none->H2 t=some (.lst ((ms:List Int).map V.int))->ms.Perm ns->ms.Pairwise (·<=·)->Q (.ref t) H2
theorem QkS:CallR X (.builtin "sorted") (Qr1 X.K):=by
 intro pins s σ H xs us Q I r h;obtain⟨l,ns,rfl,hl,h64,q⟩:=h;obtain⟨u,rfl,ru⟩:=vals1 r;cases ru;obtain⟨its,rv,tp,hz⟩:=I.tuple hl;obtain⟨o,ho,hc,n,hd⟩:=tp;have li:=rv.length;rw[Qd] at li;refine Qby (.inr rfl) ho hc hd (by omega) λh' kp P E' hP=>?_
 have hn:(h'.push (seqObj "list" its.toArray 0)).get? h'.objs.size=some (seqObj "list" its.toArray 0):=Qr _ rfl;refine Qlc (s:={ s with heap:=h'.push (seqObj "list" its.toArray 0) }) hn (Qgm rv) (by omega) λout ns' ia pm pw=>hP _ ?_
 have I1:Inv X pins σ H { s with heap:=h' }:=I.kept (t':=s.toks) kp;have hf:H h'.objs.size=none:=I1.hok.fresh (Qg _);obtain⟨e,he⟩:∃e,(sortedHeap (h'.push (seqObj "list" its.toArray 0)) h'.objs.size its out).get? h'.objs.size=some (seqObj "list" out e):=Qom hn
 have rv':=Qeh ia;have lp:=pm.length_eq;have I2:Inv X pins σ (upd H h'.objs.size (.lst (ns'.map V.int))) { s with heap:=sortedHeap (h'.push (seqObj "list" its.toArray 0)) h'.objs.size its out }:=
  I1.laid (t':=s.toks) (λb x e'=>(Qlb (QD (Qk e')) (QP (Qk e') (by rw[Qzb];exact QdW _))).trans (Qe _ e')) (Qg _) (show ObjOk X.prog X.w _ _ _ (.lst _) from⟨by rw[Qd];exact Zq (Rk.Qa1 (by omega)),out.toList,e,rv',by rw[he]⟩)
 exact⟨.ref h'.objs.size,_,I2,rfl,q _ ns' _ (JI hf) hf Jy pm pw⟩
end
end L2
namespace Re
open AutoSeq1 (wpAny_loadPart')
theorem Qsw{prog:QF}{w:Jk}{A:Q9}{it t:Addr}{items:Array Value}(hh:A.handled=none)(hti:t≠it) :
  Draws prog w A it [it,t] items.size (λi x=>items[i]? = some x) (λi h=>h.IsTupleIter it t i/\h.IsTuple t items) where
 live:=λi h st=>by
  obtain⟨⟨o,ho,_⟩,_⟩:=st;exact⟨o,ho⟩
 frame:=λi h h' st k=>by
  obtain⟨⟨o,ho,c⟩,⟨o2,h2,c2⟩⟩:=st;exact⟨⟨o,k it (by simp) _ ho,c⟩,⟨o2,k t (by simp) _ h2,c2⟩⟩
 item:=λi s Q E hi st hQ=>by
  refine Rz.Qeb st.1 st.2 (x:=items[i]) (by simp[hi]) λh' hit' hs'=>?_
  refine hQ _ h' s.toks (by simp[hi]) ⟨hit',?_⟩ hs';obtain⟨o2,h2,c2⟩:=st.2;exact⟨o2,(hs'.2 t hti).trans h2,c2⟩
 done:=λs Q E st hE=>Rz.Qip hh st.1 st.2 (by simp) hE
theorem Qkz(l:Addr)(items:Array Value)(n:Nat)(dct:Option Addr)(sl:Array (Option Value)) :
  Meets (YV.«enumerate.__new__» ⟨[.type "enumerate",.ref l],[]⟩) (λ_ R s=>s.heap.get? l=some { cls:=.type "tuple",dict:=dct,data:=.seq items n,slots:=sl } /\
   R (.ok (.ret (.ref (s.heap.push { cls:=.type "tuple_iterator",data:=.fields #[.ref l,.int 0 0] }).objs.size)))
    { s with heap:=(s.heap.push { cls:=.type "tuple_iterator",data:=.fields #[.ref l,.int 0 0] }).push { cls:=.type "enumerate",data:=.fields #[.none,.bool false,.ref s.heap.objs.size,rawInt 0,.none,.none] } }):=
 .of_wp λprog w A R s h=>by
  obtain⟨hp,g,d,tk,os⟩:=s;obtain⟨hl,h⟩:=h;have hsub:=sub_enumerate;have hL:Qk7 (Qk1 ⟨hp,g,d,tk,os⟩) l items:=⟨_,hl,rfl,n,rfl⟩
  wp_walk using Qat hl
  refine wpAny_stack_any λst=>wpAny_pure ?_
  split
  ·rename_i c _ _ _ _ _
   cases(c == Qam "enumerate")
   ·wp_walk using Qat hl,YE hL
    exact⟨_,rfl,h⟩
   ·wp_walk using Qat hl,YE hL
    exact⟨_,rfl,h⟩
  ·wp_walk using Qat hl,YE hL
   exact⟨_,rfl,h⟩
theorem QkU{prog:QF}{w:Jk}{A:Q9}{E:Value->Shared->Prop}{s:Shared}{l:Addr}{items:Array Value}{Q:Value->Shared->Prop}(hL:s.heap.IsTuple l items)
  (h:∀h',IsEnum h' (s.heap.objs.size+1) s.heap.objs.size 0 .none->h'.IsTupleIter s.heap.objs.size l 0->(∀b o,s.heap.get? b=some o->h'.get? b=some o)->Q (.ref (s.heap.objs.size+1)) { s with heap:=h' }) :
  wpAny (model prog w) A (call (.type "enumerate") [.ref l]) Q E s:=by
 obtain⟨⟨c,dct,dt,sl⟩,hl,hc,n,hd⟩:=hL
 replace hc:c=.type "tuple" := hc
 replace hd:dt=.seq items n:=hd
 subst hc hd;refine callType_new F.called_enumerate (by decide) (F.typeCall_enumerate_1 _) (F.newCall_enumerate_1 _) (λobj=>F.args_object_init_2 obj _) F.entry_enumerate_new (Qkz l items n dct sl) ⟨hl,?_⟩;have hz:(s.heap.push { cls:=.type "tuple_iterator",data:=.fields #[.ref l,.int 0 0] }).objs.size=s.heap.objs.size+1:=Zm ..;show _/\_;rw[hz];have he:=Qr (s.heap.push { cls:=.type "tuple_iterator",data:=.fields #[.ref l,.int 0 0] }) (o:={ cls:=.type "enumerate",data:=.fields #[.none,.bool false,.ref s.heap.objs.size,rawInt 0,.none,.none] }) rfl;rw[hz] at he;exact⟨⟨_,he,rfl⟩,h _ he ⟨_,Qe _ (Qr _ rfl),rfl,rfl⟩ λb o x=>Qe _ (Qe _ x)⟩
end Re
namespace L2
def Iet(l:Addr):It:=
 ⟨λi H=>∃xs x,H l=some (.tup xs)/\xs[i]? = some x,
  λi H v H'=>∃p x,H p=none/\(∀xs,H l=some (.tup xs)->xs[i]? = some x)/\v=.ref p/\H'=upd H p (.tup [.int (i:Nat),x]),
  λi H=>∃xs,H l=some (.tup xs)/\xs.length=i⟩
theorem Qkd{P:QF}{w:Jk}{K:PySem.W.Frag}{elts:List QV}{x1}{tpos:Pos}{e it l:Addr}(hne:e≠it) :
  Turn P w K (.Tuple elts x1 tpos) (Iet l) [e,it] e (λi h=>(∃old,IsEnum h e it (i:Nat) old)/\h.IsTupleIter it l i) where
 mem:=by simp
 obj:=λi h st b hb=>by
  obtain⟨⟨old,a1⟩,⟨o2,a2,_,d2⟩⟩:=st;simp only[Qy,Q3,or_false] at hb;rcases hb with rfl | rfl
  ·exact⟨_,a1,λv q=>nomatch q⟩
  ·exact⟨_,a2,λv q=>by rw[d2] at q;cases q⟩
 keep:=λi h h' st k=>by
  obtain⟨⟨old,a1⟩,⟨o2,a2,c2⟩⟩:=st;exact⟨⟨old,k e (by simp) _ a1⟩,o2,k it (by simp) _ a2,c2⟩
 item:=by
  intro X hP hw hK hc i pins s σ H E I hf st hg;subst hP hw hK;obtain⟨xs,x,h1,hx⟩:=hg;obtain⟨⟨old,a1⟩,a2⟩:=st;obtain⟨its,r1,p1,_⟩:=I.tuple (SqT.of h1);obtain⟨u,hu,ru⟩:=r1.get hx;have nel:e≠l:=λz=>by have q:=(hf e (by simp)).1;rw[z,h1] at q;cases q
  have nil:l≠it:=λz=>by have q:=(hf it (by simp)).1;rw[<- z,h1] at q;cases q
  have hi:i<its.toArray.size:=by
   have:=(Jd.mp hu).1
   simpa using this
  refine wpAny_pyNext_enum_itemD (Re.Qsw (A:=X.A.in1) (t:=l) (I.ok.hd hc) nil) a1 ⟨a2,p1⟩ hi hne (by simp[hne,nel]) λy h' tk hy o' l' tp sz kp=>?_
  have ey:y=u:=by
   have e1:its.toArray[i]? = some u:=by simpa using hu
   rw[e1] at hy;exact(QJ hy).symm
  subst ey;obtain⟨l',tq⟩:=l';have fr:H s.heap.objs.size=none:=I.hok.fresh (Qg _);have n1:e≠s.heap.objs.size:=QD (Qk a1);have n2:it≠s.heap.objs.size:=by
   obtain⟨o2,a2,_⟩:=a2;exact QD (Qk a2)
  refine⟨_,rfl,Qk0 o' λh2 e2 s2=>?_⟩;have I1:Inv X pins σ (upd H s.heap.objs.size (.tup [.int (i:Nat),x])) { s with heap:=h2,toks:=tk+1 }:=by
   refine I.turnedNew (ch:=[e,it]) hf (λb v hb q=>?_) (Qg _) ⟨by show 2<=sizeLine;decide,[.int (i:Nat) tk,y],.cons ⟨_,rfl⟩ (.cons ru .nil),?_⟩
   ·simp only[Qy,Q3,or_false,not_or] at hb;exact s2.extBut _ _ hb.1 (kp b v hb.1 hb.2 q)
   ·exact⟨_,s2.extBut _ _ n1.symm tp,rfl,rfl,0,rfl⟩
  refine⟨.ref s.heap.objs.size,_,I1,rfl,⟨_,x,fr,λxs' q=>?_,rfl,rfl⟩,⟨⟨y,e2⟩,?_⟩,λb hb=>?_⟩
  ·rw[h1] at q;cases q;exact hx
  ·exact l'.extBut s2.extBut hne.symm
  ·simp only[Qy,Q3,or_false] at hb;rcases hb with rfl | rfl
   ·rw[JM n1];exact(hf _ (by simp)).1
   ·rw[JM n2];exact(hf _ (by simp)).1
 done:=by
  intro X hP hw hK hc i pins s σ H E I hf st hg;subst hP hw hK;obtain⟨xs,h1,he⟩:=hg;obtain⟨⟨old,a1⟩,a2⟩:=st;obtain⟨its,r1,p1,_⟩:=I.tuple (SqT.of h1);have l1:=r1.length;have nel:e≠l:=λz=>by have q:=(hf e (by simp)).1;rw[z,h1] at q;cases q
  have nil:l≠it:=λz=>by have q:=(hf it (by simp)).1;rw[<- z,h1] at q;cases q
  have e0:its.toArray.size=i:=by rw[Ql];omega
  have D:=Re.Qsw (prog:=X.prog) (w:=X.w) (A:=X.A.in1) (t:=l) (items:=its.toArray) (I.ok.hd hc) nil;rw[e0] at D;refine wpAny_pyNext_enum_endD D a1 ⟨a2,p1⟩ λh' kp=>⟨rfl,I.turnedAll (t':=s.toks) (ch:=[e,it]) hf λb v hb q=>?_⟩
  simp only[Qy,Q3,or_false,not_or] at hb;exact kp b v hb.2 q
 self:=λ_ _ _ _ _ st h=>by
  obtain⟨⟨old,a1⟩,_⟩:=st;exact Qcm a1 h
def Qx1(ta:TA):TI:=λσ H R=>ta σ H λvs H1=>∃l xs,vs=[.ref l]/\H1 l=some (.tup xs)/\R (Iet l) H1
section
variable{X:Cx}
theorem Qo8{a:QV}{elts:List QV}{x1}{tpos:Pos}{ta:TA}{p pos:Pos}(hg:Gl X "enumerate")(hm:X.mg "enumerate" = none)(ha:PA X [a] ta)(hs:starEach [a] X.env=[(false,eval a X.env)]:=by rfl) :
  PI X (.Tuple elts x1 tpos) (.Call (.Name "enumerate" p) [a] [] pos) (Qx1 ta):=by
 intro pins s σ H R I h;refine Call_ (QbJ I hg hm QhL (JD (thn (ha pos pins s σ H _ I h) λus s1 ⟨vs,H1,I1,r1,q1⟩=>?_) hs rfl));obtain⟨l,xs,e,h1,q⟩:=q1;subst e;obtain⟨u,rfl,ru⟩:=vals1 r1;cases(show u=J7 l from ru);obtain⟨its,w1,p1,_⟩:=I1.tuple (SqT.of h1);refine Re.QkU p1 λh' e1 i1 kp=>?_
 refine Qcm (s:={ s1 with heap:=h' }) e1 ?_
 refine⟨s1.heap.objs.size+1,_,_,_,H1,rfl,I1.kept (t':=s1.toks) kp,Qkd (by show ¬(s1.heap.objs.size+1=s1.heap.objs.size);omega),⟨⟨_,e1⟩,i1⟩,λb hb=>?_,q⟩;have hb':s1.heap.objs.size<=b:=by
  simp only[Qy,Q3,or_false] at hb;rcases hb with rfl | rfl<;>omega
 exact I1.fpOk hb' (I1.hok.fresh hb')
def Qty:List V->Hp->VK->Prop:=λxs H Q=>∃r j,xs=[.ref r]/\H r=some (.rng 0 j) /\ -1000<=j/\j<=1000/\∀t H2,Same H H2->H t=none->H2 t=some (.lst ((Qt j.toNat).map λi=>V.int (i:Nat)))->Q (.ref t) H2
theorem QiH(hc:X.calm=true):CallR X (.type "list") Qty:=by
 intro pins s σ H xs us Q I r h;obtain⟨a,j,rfl,ha,h1,h2,q⟩:=h;obtain⟨u,rfl,ru⟩:=vals1 r;cases(show u=J7 a from ru);obtain⟨t1,t2,t3,e⟩:=I.hok a _ ha;have hn:Za 0 j 1=((j.toNat:Nat):Int):=by rw[QfL];split<;>omega
 refine call_list_range (n:=j.toNat) (I.ok.hd hc) (show QvZ s.heap a 0 j 1 t1 t2 t3 from e) (small_one (by omega) (by omega) (by omega) (by omega)) hn (QU (show j.toNat<=1000 by omega) (by decide)) λh' tk acc c' kp hS hacc=>?_
 have hz:acc.size=j.toNat:=hacc.1;have rv:=QkD hacc;have hf:H s.heap.objs.size=none:=I.hok.fresh (Qg _);refine⟨.ref s.heap.objs.size,upd H s.heap.objs.size (.lst ((Qt j.toNat).map λi=>V.int (i:Nat))),I.laid (t':=tk) kp (Qg _) ⟨?_,acc.toList,c',rv,by rw[hS]⟩,rfl,q _ _ (JI hf) hf Jy⟩;rw[Qd,Q1];exact Zq (Rk.Qa1 (by omega))
end
end L2
namespace Rk
open L2
end Rk
namespace L2
section
variable{X:Cx}{pins:List (Addr×Obj)}{σ:St}{H:Hp}
theorem QaZ{M:List Str}{scope:Y0}{fp:List Addr}{σ':St}{H3:Hp}{s3 s':Shared}{D:Addr}{i:Nat}{y:Str}{py:Pos}{Mo:Model}{A:Q9}{E:Value->Shared->Prop}{Q:Value->Shared->Prop}
  (I3:Inv X pins σ H3 s3)(f3:∀b∈fp,FpOk X pins H3 b)(J:Inv (blk X M scope (Qbn X.env scope.names []) fp s3 H3 s3.heap.objs.size) [] σ' H s')
  (hN:X.N.Nodup)(hi:X.N[i]? = some y)(hl:X.env.scope.names.lookup y=some .local)(hq:∀s2,Inv X pins (σ.set i (some (.ref D))) H s2->Q .none s2) :
  wpAny Mo A (assign (.Name y py) X.env (.ref D)) (λ_ s2=>∃m,s2.heap.Ns s3.heap.objs.size m/\∀h',QaC s3.heap.objs.size s2.heap h'->Q .none { s2 with heap:=h' }) E s':=by
 have J0:Inv X pins σ H s':=QnO I3 f3 J (QhX ..);obtain⟨m,hn,_⟩:=J.loc;have hC:H s3.heap.objs.size=none:=J.free;have lt:X.env.locals<s3.heap.objs.size:=I3.lt;refine Qy7 (Qg4 J0 hN hi (QN hl) (show RelV (.ref D) (.ref D) from rfl) (λs2 J2 ⟨a,sb,ha⟩=>?_) (.inr hl));have ea:a=X.env.locals∨X.env.cells.lookup y=some a:=ha;have na:s3.heap.objs.size≠a:=by
  rcases ea with z | z
  ·rw[z];exact QaD lt
  ·obtain⟨v,o,ho,_⟩:=I3.cell y a z;exact QaD (Qk ho)
 refine⟨m,hn.sameBut sb na,λh' hs=>hq _ ?_⟩;refine J2.turned (t':=s2.toks) (it:=s3.heap.objs.size) (λb o hb e=>hs.extBut b o hb e) hC (QaD lt) (.inr I3.sz) (λx c e z=>?_) λp hp z=>?_
 ·obtain⟨v,o,ho,_⟩:=I3.cell x c e;exact absurd (z ▸ Qk ho) (YJ _)
 ·have e:=(I3.pin p hp).1;exact absurd (z ▸ Qk e) (YJ _)
end
theorem Qo6{X:Cx}{M:List Str}{cap:List (Option Nat)}{elt tg iter:QV}{ifs:List QV}{scope:Y0}{pos:Pos}{wi:TI}{g:TG}{tc:TT}{te:TE}{i:Nat}{y:Str}{py spos:Pos}(hN:X.N.Nodup)(hiy:X.N[i]? = some y)(hly:X.env.scope.names.lookup y=some .local)(hc:X.calm=true)(ok:Qfc X.N X.env.scope M scope cap=true)
  (hi:PI X tg iter wi)(hb:∀cl ex s3 H3 C,PG (blk X M scope cl ex s3 H3 C) tg g/\PTs (blk X M scope cl ex s3 H3 C) ifs tc/\PE (blk X M scope cl ex s3 H3 C) elt te)
  (hs:∀x,foldedSetIterable iter X.env x=pure x:=by intro _;rfl)(hsw:swapsWith (.ListComp elt [⟨tg,iter,ifs,0⟩] scope pos) (some (.Name y py)) spos.line X.env=pure true:=by rfl):PS X (.Assign [.Name y py] (.ListComp elt [⟨tg,iter,ifs,0⟩] scope pos) spos) (QoH (tComp cap wi g tc te) (QdY i)):=by
 intro pins s σ H D I h;have c:=CapOk.of ok;rw[QdS _ _ _ _ hsw];refine wpAny_bind (wpAny_standAt (wpAny_bind ?_));show wpAny _ X.A (do let _ <- comprehension (.ListComp elt [⟨tg,iter,ifs,0⟩] scope pos) scope X.env _ (newList []) false (eval iter X.env) (some (assign (.Name y py) X.env))) _ _ s;refine wpAny_bind (wpAny_mono (Qal (use:=some (assign (.Name y py) X.env)) (Q:=λ_ s'=>SP X pins D .next s') rfl hs (Qgw (I.ok.cells c)) c.kind c.loc ?_) (λ_ s' hq=>wpAny_pure (wpAny_pure hq)) λ_ _ e=>e);refine thn (hi pins s σ H _ I h) λv s1 h1=>thn h1 λitv s2 h2=>?_
 obtain⟨it,fp,tn,J,H2,e,I2,T,st2,f2,hW⟩:=h2;subst e;refine Jx (Qbe c.cell (by intro y hy;simp at hy) (λh₁ hns₁ hsb₁=>?_) c.kind);have I3:Inv X pins σ (upd H2 s2.heap.objs.size (.lst [])) { s2 with heap:=s2.heap.push { cls:=.type "list",data:=.seq ([]:List Value).toArray } }:=I2.lnew (t':=s2.toks) (ys:=[]) .nil (Jc _);have lt2:∀b∈fp,b<s2.heap.objs.size:=λb hb=>by obtain⟨o,e,_⟩:=T.obj _ _ st2 b hb;exact Qk e
 have f3:∀b∈fp,FpOk X pins (upd H2 s2.heap.objs.size (.lst [])) b:=λb hb=>(f2 b hb).upd (QD (lt2 b hb))
 generalize hs3:({ s2 with heap:=s2.heap.push { cls:=.type "list",data:=.seq ([]:List Value).toArray } }:Shared)=s3 at I3;have e3:s3.heap=s2.heap.push { cls:=.type "list",data:=.seq ([]:List Value).toArray }:=by rw[<- hs3]
 have z3:s3.heap.objs.size=s2.heap.objs.size+1:=by rw[e3,Zm]
 have hk:∀b o,s3.heap.get? b=some o->h₁.get? b=some o:=λb o e=>hsb₁.extBut b o (by
  have:=Qk e;rw[e3] at this;exact QD this) (Qe _ (e3 ▸ e))
 have hn₁:h₁.Ns s3.heap.objs.size λ_=>none:=by rw[e3];exact hns₁
 have B:=Qc6 (t4:=s3.toks+([]:List (Str×Value)).length) (fp:=fp) I3 c f3 (λb hb=>by rw[z3];exact YI (lt2 b hb)) hn₁ hk;have st4:tn 0 h₁:=T.keep _ _ _ st2 λb hb o e=>hk b o (by rw[e3];exact Qe _ e)
 have fp4:∀b∈fp,FpOk (blk X M scope (Qbn X.env scope.names []) fp s3 (upd H2 s2.heap.objs.size (.lst [])) s3.heap.objs.size) [] (upd H2 s2.heap.objs.size (.lst [])) b:=λb hb=>by
  refine⟨(f3 b hb).1,(B.ok.exf b hb).1,B.ok.exfs b hb,.inl hb,(B.ok.exf b hb).2,λp hp=>(nomatch hp)⟩
 obtain⟨hg,ht,he⟩:=hb (Qbn X.env scope.names []) fp s3 (upd H2 s2.heap.objs.size (.lst [])) s3.heap.objs.size;have loop:codeAny (model X.prog X.w) X.A (.compLoop (.ListComp elt [⟨tg,iter,ifs,0⟩] scope pos) 0 (.ref it) (.ref s2.heap.objs.size) (compEnvC scope (Qbn X.env scope.names []) s3.heap.objs.size X.env))
   (compPost (model X.prog X.w) X.A X.xe (some (assign (.Name y py) X.env)) (λ_ s'=>SP X pins D .next s') (.ref s2.heap.objs.size) s3.heap.objs.size) { s3 with heap:=h₁,toks:=s3.toks+([]:List (Str×Value)).length }:=by
  refine Qc4 (Y:=blk X M scope (Qbn X.env scope.names []) fp s3 (upd H2 s2.heap.objs.size (.lst [])) s3.heap.objs.size) (gens:=[⟨tg,iter,ifs,0⟩]) (d:=0) hc T st4 fp4
   (λQ E s h=>QiZ Q E s h) (λx u r=>QeS rfl hg ht (λσ4=>QgB rfl he) x u r) B (hW _ (I2.hok.fresh (Qg _))) λs' H' I' q=>?_
  exact QaZ (Q:=λ_ s'=>SP X pins D .next s') I3 f3 I' hN hiy hly λs2' J2=>⟨_,H',J2,q⟩
 exact Qdb loop (T.self _ 0 _ _ _ st4 loop)
theorem Qmg{X:Cx}{M:List Str}{cap:List (Option Nat)}{elt tg iter tg2 iter2:QV}{ifs ifs2:List QV}{scope:Y0}{pos:Pos}{wi wi2:TI}{g g2:TG}{tc tc2:TT}{te:TE}{i:Nat}{y:Str}{py spos:Pos}(hN:X.N.Nodup)(hiy:X.N[i]? = some y)(hly:X.env.scope.names.lookup y=some .local)(hc:X.calm=true)(ok:Qfc X.N X.env.scope M scope cap=true)
  (hi:PI X tg iter wi)(hb:∀cl ex s3 H3 C,PG (blk X M scope cl ex s3 H3 C) tg g/\PTs (blk X M scope cl ex s3 H3 C) ifs tc/\PI (blk X M scope cl ex s3 H3 C) tg2 iter2 wi2/\PG (blk X M scope cl ex s3 H3 C) tg2 g2/\PTs (blk X M scope cl ex s3 H3 C) ifs2 tc2/\PE (blk X M scope cl ex s3 H3 C) elt te)
  (hs:∀x,foldedSetIterable iter X.env x=pure x:=by intro _;rfl)(hs2:∀env x,foldedSetIterable iter2 env x=pure x:=by intro _ _;rfl)(hsw:swapsWith (.ListComp elt [⟨tg,iter,ifs,0⟩,⟨tg2,iter2,ifs2,0⟩] scope pos) (some (.Name y py)) spos.line X.env=pure true:=by rfl):PS X (.Assign [.Name y py] (.ListComp elt [⟨tg,iter,ifs,0⟩,⟨tg2,iter2,ifs2,0⟩] scope pos) spos) (QoH (QrP cap wi g tc wi2 g2 tc2 te) (QdY i)):=by
 intro pins s σ H D I h;have c:=CapOk.of ok;rw[QdS _ _ _ _ hsw];refine wpAny_bind (wpAny_standAt (wpAny_bind ?_));show wpAny _ X.A (do let _ <- comprehension (.ListComp elt [⟨tg,iter,ifs,0⟩,⟨tg2,iter2,ifs2,0⟩] scope pos) scope X.env _ (newList []) false (eval iter X.env) (some (assign (.Name y py) X.env))) _ _ s;refine wpAny_bind (wpAny_mono (Qal (use:=some (assign (.Name y py) X.env)) (Q:=λ_ s'=>SP X pins D .next s') rfl hs (Qgw (I.ok.cells c)) c.kind c.loc ?_) (λ_ s' hq=>wpAny_pure (wpAny_pure hq)) λ_ _ e=>e);refine thn (hi pins s σ H _ I h) λv s1 h1=>thn h1 λitv s2 h2=>?_
 obtain⟨it,fp,tn,J,H2,e,I2,T,st2,f2,hW⟩:=h2;subst e;refine Jx (Qbe c.cell (by intro y hy;simp at hy) (λh₁ hns₁ hsb₁=>?_) c.kind);have I3:Inv X pins σ (upd H2 s2.heap.objs.size (.lst [])) { s2 with heap:=s2.heap.push { cls:=.type "list",data:=.seq ([]:List Value).toArray } }:=I2.lnew (t':=s2.toks) (ys:=[]) .nil (Jc _);have lt2:∀b∈fp,b<s2.heap.objs.size:=λb hb=>by obtain⟨o,e,_⟩:=T.obj _ _ st2 b hb;exact Qk e
 have f3:∀b∈fp,FpOk X pins (upd H2 s2.heap.objs.size (.lst [])) b:=λb hb=>(f2 b hb).upd (QD (lt2 b hb))
 generalize hs3:({ s2 with heap:=s2.heap.push { cls:=.type "list",data:=.seq ([]:List Value).toArray } }:Shared)=s3 at I3;have e3:s3.heap=s2.heap.push { cls:=.type "list",data:=.seq ([]:List Value).toArray }:=by rw[<- hs3]
 have z3:s3.heap.objs.size=s2.heap.objs.size+1:=by rw[e3,Zm]
 have hk:∀b o,s3.heap.get? b=some o->h₁.get? b=some o:=λb o e=>hsb₁.extBut b o (by
  have:=Qk e;rw[e3] at this;exact QD this) (Qe _ (e3 ▸ e))
 have hn₁:h₁.Ns s3.heap.objs.size λ_=>none:=by rw[e3];exact hns₁
 have B:=Qc6 (t4:=s3.toks+([]:List (Str×Value)).length) (fp:=fp) I3 c f3 (λb hb=>by rw[z3];exact YI (lt2 b hb)) hn₁ hk;have st4:tn 0 h₁:=T.keep _ _ _ st2 λb hb o e=>hk b o (by rw[e3];exact Qe _ e)
 have fp4:∀b∈fp,FpOk (blk X M scope (Qbn X.env scope.names []) fp s3 (upd H2 s2.heap.objs.size (.lst [])) s3.heap.objs.size) [] (upd H2 s2.heap.objs.size (.lst [])) b:=λb hb=>by
  refine⟨(f3 b hb).1,(B.ok.exf b hb).1,B.ok.exfs b hb,.inl hb,(B.ok.exf b hb).2,λp hp=>(nomatch hp)⟩
 obtain⟨hg,ht,hi2,hg2,ht2,he⟩:=hb (Qbn X.env scope.names []) fp s3 (upd H2 s2.heap.objs.size (.lst [])) s3.heap.objs.size;have loop:codeAny (model X.prog X.w) X.A (.compLoop (.ListComp elt [⟨tg,iter,ifs,0⟩,⟨tg2,iter2,ifs2,0⟩] scope pos) 0 (.ref it) (.ref s2.heap.objs.size) (compEnvC scope (Qbn X.env scope.names []) s3.heap.objs.size X.env))
   (compPost (model X.prog X.w) X.A X.xe (some (assign (.Name y py) X.env)) (λ_ s'=>SP X pins D .next s') (.ref s2.heap.objs.size) s3.heap.objs.size) { s3 with heap:=h₁,toks:=s3.toks+([]:List (Str×Value)).length }:=by
  refine Qc4 (Y:=blk X M scope (Qbn X.env scope.names []) fp s3 (upd H2 s2.heap.objs.size (.lst [])) s3.heap.objs.size) (gens:=[⟨tg,iter,ifs,0⟩,⟨tg2,iter2,ifs2,0⟩]) (d:=0) hc T st4 fp4
   (λQ E s h=>Qkc (hs2 _) Q E s h) (λx u r=>QeS rfl hg ht (λσ4=>QnM rfl hc hi2 hg2 ht2 he) x u r) B (hW _ (I2.hok.fresh (Qg _))) λs' H' I' q=>?_
  exact QaZ (Q:=λ_ s'=>SP X pins D .next s') I3 f3 I' hN hiy hly λs2' J2=>⟨_,H',J2,q⟩
 exact Qdb loop (T.self _ 0 _ _ _ st4 loop)
end L2
namespace Rk
open L2 _root_.Rd
section
variable{X:Cx}
def QB1(X:Cx):R2:=λx y H Q=>∃dx dy,Dat H x dx/\Dat H y dy/\X.A.units+min dx.depth dy.depth<cLine/\Q (.bl (!QX dx dy)) H
theorem Qxp:OpR X (compareOp .NotEq) (QB1 X):=by
 intro pins s σ H x y v u Q I rx ry h;obtain⟨dx,dy,qx,qy,hu,q⟩:=h;obtain⟨⟨as,ra⟩,ca⟩:=Yk I.hok dx x v qx rx;obtain⟨⟨bs,rb⟩,cb⟩:=Yk I.hok dy y u qy ry;exact SeqAt.compareNe_reads ra rb ca cb hu ⟨.bl _,H,I,rfl,q⟩
end
end Rk
namespace Rk
open L2
end Rk
namespace Rx
open PySem.Calls L2
section
variable{X:Cx}{E:XK}
end
section
variable{X:Cx}{tf:TE}{fe:QV}{pos:Pos}{e:QV}{es:List QV}{t:TA}{M:Addr->Sp->Prop}
end
end Rx
namespace Rk
open L2 _root_.Rd
structure GlbA (mg:Str->Option Value):Prop where
 isinstance:mg "isinstance" = none
 int:mg "int" = none
 bool:mg "bool" = none
 str:mg "str" = none
 tuple:mg "tuple" = none
 list:mg "list" = none
 all:mg "all" = none
 len:mg "len" = none
 zip:mg "zip" = none
 enumerate:mg "enumerate" = none
 range:mg "range" = none
 max:mg "max" = none
 min:mg "min" = none
 sorted:mg "sorted" = none
 sum:mg "sum" = none
 set:mg "set" = none
 any:mg "any" = none
 reversed:mg "reversed" = none
 divmod:mg "divmod" = none
def QzV(u:Nat)(neg:Bool):R2:=λx y H Q=>∃c ps ds d,y=.ref c/\H c=some (.tup ps)/\Dats H ps ds/\Dat H x d/\u+d.depth<cLine/\Q (.bl (if neg then !(ds.any λe=>QX e d) else ds.any λe=>QX e d)) H
theorem Qxr{X:Cx}:OpR X (compareOp .In) (QzV X.A.in1.units false):=Qxs
end Rk
namespace Rx
open PySem.Calls L2
section
variable{P:QF}{w:Jk}{K:PySem.W.Frag}{mg:Str->Option Value}{base:Heap}
end
end Rx
namespace Rk
open L2 _root_.Rd
section
variable{X:Cx}{is js:List Nat}
end
end Rk
namespace L2
theorem YR{h:Heap}{a:Addr}{its:Array Value}(p:PlainL h a its):h.IsList a its:=by
 obtain⟨o,n,h1,h2,_,h3⟩:=p;exact⟨o,h1,h2,n,h3⟩
structure QhR (h:Heap) (z TI TO i1 i2 t1 t2:Addr) (f:Value) (k:Nat):Prop where
 zp:QsX h z TI TO f
 ti:IsPair h TI (.ref i1) (.ref i2)
 to:∃a b,IsPair h TO a b
 i1:h.IsListIter i1 t1 k
 i2:h.IsListIter i2 t2 k
section
variable{prog:QF}{w:Jk}{A:Q9}{E:Value->Shared->Prop}{s:Shared}
theorem Qlm{z TI TO i1 i2 t1 t2:Addr}{k:Nat}{xs ys:Array Value}{x y:Value}{Q:Option Value->Shared->Prop}(D:QyK z TI TO i1 i2 t1 t2)(Z:QhR s.heap z TI TO i1 i2 t1 t2 .none k)
  (hl1:s.heap.IsList t1 xs)(hl2:s.heap.IsList t2 ys)(hx:xs[k]? = some x)(hy:ys[k]? = some y)
  (hQ:∀h',QhR h' z TI TO i1 i2 t1 t2 (rawInt s.heap.objs.size) (k+1)->IsPair h' s.heap.objs.size x y->(∀c o,c≠z->c≠TO->c≠i1->c≠i2->s.heap.get? c=some o->h'.get? c=some o)->Q (some (.ref s.heap.objs.size)) { s with heap:=h' }) :
  wpAny (model prog w) A (pyNext (.ref z)) Q E s:=by
 obtain⟨hz,hTI,⟨a,b,hTO⟩,h1,h2⟩:=Z;exact wpAny_pyNext_zip_item D hz hTI hTO h1 h2 hl1 hl2 hx hy λh' a1 a2 a3 a4 a5 a6 a7=>hQ h' ⟨a1,a7 _ _ D.TIz D.TITO D.TIi1 D.TIi2 hTI,⟨x,y,a2⟩,a3,a4⟩ a5 a7
theorem Qoy{z TI TO i1 i2 t1 t2:Addr}{k:Nat}{xs ys:Array Value}{Q:Option Value->Shared->Prop}(hh:A.handled=none)(D:QyK z TI TO i1 i2 t1 t2)(Z:QhR s.heap z TI TO i1 i2 t1 t2 .none k)
  (hl1:s.heap.IsList t1 xs)(hl2:s.heap.IsList t2 ys)(hend:xs[k]? = none∨ys[k]? = none)
  (hQ:∀h',(∀c o,c≠z->c≠TO->c≠i1->c≠i2->s.heap.get? c=some o->h'.get? c=some o)->Q none { s with heap:=h' }):wpAny (model prog w) A (pyNext (.ref z)) Q E s:=by
 obtain⟨hz,hTI,⟨a,b,hTO⟩,h1,h2⟩:=Z;exact wpAny_pyNext_zip_end hh D hz hTI hTO h1 h2 hl1 hl2 hend hQ
theorem Qln{t1 t2:Addr}{xs ys:Array Value}{Q:Value->Shared->Prop}(hl1:s.heap.IsList t1 xs)(hl2:s.heap.IsList t2 ys)
  (h:∀h',QhR h' (s.heap.objs.size+4) (s.heap.objs.size+2) (s.heap.objs.size+3) s.heap.objs.size (s.heap.objs.size+1) t1 t2 .none 0->(∀c o,s.heap.get? c=some o->h'.get? c=some o)->Q (.ref (s.heap.objs.size+4)) { s with heap:=h' }) :
  wpAny (model prog w) A (call (.type "zip") [.ref t1,.ref t2]) Q E s:=
 call_zip_2 hl1 hl2 λh' a1 a2 a3 a4 a5 a6 a7=>h h' ⟨a1,a2,⟨_,_,a3⟩,a4,a5⟩ a7
end
def QBO(t1 t2:Addr):It:=
 ⟨λi H=>∃xs ys x y,H t1=some (.lst xs)/\H t2=some (.lst ys)/\xs[i]? = some x/\ys[i]? = some y,
  λi H v H'=>∃p x y,H p=none/\(∀xs,H t1=some (.lst xs)->xs[i]? = some x)/\(∀ys,H t2=some (.lst ys)->ys[i]? = some y)/\v=.ref p/\H'=upd H p (.tup [x,y]),
  λi H=>∃xs ys,H t1=some (.lst xs)/\H t2=some (.lst ys)/\(xs.length<=i∨ys.length<=i)⟩
theorem Qlu{P:QF}{w:Jk}{K:PySem.W.Frag}{elts:List QV}{x1}{tpos:Pos}{z TI TO i1 i2 t1 t2:Addr}(D:QyK z TI TO i1 i2 t1 t2) :
  Turn P w K (.Tuple elts x1 tpos) (QBO t1 t2) [z,TI,TO,i1,i2] z (λi h=>QhR h z TI TO i1 i2 t1 t2 .none i) where
 mem:=by simp
 obj:=λi h st b hb=>by
  obtain⟨a1,a2,⟨_,_,a3⟩,⟨o4,a4,_,d4⟩,⟨o5,a5,_,d5⟩⟩:=st;simp only[Qy,Q3,or_false] at hb;rcases hb with rfl | rfl | rfl | rfl | rfl
  ·exact⟨_,a1,λv q=>nomatch q⟩
  ·exact⟨_,a2,λv q=>nomatch q⟩
  ·exact⟨_,a3,λv q=>nomatch q⟩
  ·exact⟨_,a4,λv q=>by rw[d4] at q;cases q⟩
  ·exact⟨_,a5,λv q=>by rw[d5] at q;cases q⟩
 keep:=λi h h' st k=>by
  obtain⟨a1,a2,⟨a,b,a3⟩,a4,a5⟩:=st;exact⟨k z (by simp) _ a1,k TI (by simp) _ a2,⟨a,b,k TO (by simp) _ a3⟩,a4.at λo e=>k i1 (by simp) o e,a5.at λo e=>k i2 (by simp) o e⟩
 item:=by
  intro X hP hw hK hc i pins s σ H E I hf st hg;subst hP hw hK;obtain⟨xs,ys,x,y,h1,h2,hx,hy⟩:=hg;obtain⟨its1,r1,p1,_⟩:=I.list (SqL.of h1);obtain⟨its2,r2,p2,_⟩:=I.list (SqL.of h2);obtain⟨u1,hu1,ru1⟩:=r1.get hx;obtain⟨u2,hu2,ru2⟩:=r2.get hy;refine Qlm D st (YR p1) (YR p2) (by simpa using hu1) (by simpa using hu2) λh' st' tp kp=>?_
  have hlt:∀b∈[z,TI,TO,i1,i2],b≠s.heap.objs.size:=λb hb=>by
   obtain⟨a1,a2,⟨_,_,a3⟩,⟨o4,a4,_,d4⟩,⟨o5,a5,_,d5⟩⟩:=st;simp only[Qy,Q3,or_false] at hb;rcases hb with rfl | rfl | rfl | rfl | rfl
   ·exact QD (Qk a1)
   ·exact QD (Qk a2)
   ·exact QD (Qk a3)
   ·exact QD (Qk a4)
   ·exact QD (Qk a5)
  have fr:H s.heap.objs.size=none:=I.hok.fresh (Qg _);refine⟨_,rfl,Qla st'.zp λh2' z2 s2=>?_⟩;have I1:Inv X pins σ (upd H s.heap.objs.size (.tup [x,y])) { s with heap:=h2',toks:=s.toks }:=by
   refine I.turnedNew (ch:=[z,TI,TO,i1,i2]) hf (λb u hb e=>?_) (Qg _) ⟨by show 2<=sizeLine;decide,[u1,u2],.cons ru1 (.cons ru2 .nil),?_⟩
   ·simp only[Qy,Q3,or_false,not_or] at hb;exact s2.extBut _ _ hb.1 (kp b u hb.1 hb.2.2.1 hb.2.2.2.1 hb.2.2.2.2 e)
   ·exact⟨_,s2.extBut _ _ (hlt z (by simp)).symm tp,rfl,rfl,0,rfl⟩
  refine⟨.ref s.heap.objs.size,_,I1,rfl,⟨_,x,y,fr,λxs' e=>?_,λys' e=>?_,rfl,rfl⟩,?_,λb hb=>?_⟩
  ·rw[h1] at e;cases e;exact hx
  ·rw[h2] at e;cases e;exact hy
  ·obtain⟨a1,a2,⟨a,b,a3⟩,a4,a5⟩:=st';exact⟨z2,s2.extBut _ _ D.TIz a2,⟨a,b,s2.extBut _ _ D.TOz a3⟩,a4.extBut s2.extBut D.i1z,a5.extBut s2.extBut D.i2z⟩
  ·rw[JM (hlt b hb)];exact(hf b hb).1
 done:=by
  intro X hP hw hK hc i pins s σ H E I hf st hg;subst hP hw hK;obtain⟨xs,ys,h1,h2,he⟩:=hg;obtain⟨its1,r1,p1,_⟩:=I.list (SqL.of h1);obtain⟨its2,r2,p2,_⟩:=I.list (SqL.of h2);have l1:=r1.length;have l2:=r2.length;refine Qoy (I.ok.hd hc) D st (YR p1) (YR p2) ?_ λh' kp=>⟨rfl,I.turnedAll (t':=s.toks) (ch:=[z,TI,TO,i1,i2]) hf λb u hb e=>?_⟩
  ·rcases he with q | q
   ·exact .inl (by simp;omega)
   ·exact .inr (by simp;omega)
  ·simp only[Qy,Q3,or_false,not_or] at hb;exact kp b u hb.1 hb.2.2.1 hb.2.2.2.1 hb.2.2.2.2 e
 self:=λ_ _ _ _ _ st h=>Qc7 st.zp h
section
variable{X:Cx}
theorem QkX(n t1 t2:Nat)(h1:t1<n)(h2:t2<n):QyK (n+4) (n+2) (n+3) n (n+1) t1 t2 where
 TIz:=by show ¬(n+2=n+4);omega
 TOz:=by show ¬(n+3=n+4);omega
 i1z:=by show ¬(n=n+4);omega
 i2z:=by show ¬(n+1=n+4);omega
 TITO:=by show ¬(n+2=n+3);omega
 TIi1:=by show ¬(n+2=n);omega
 TIi2:=by show ¬(n+2=n+1);omega
 TOi1:=by show ¬(n+3=n);omega
 TOi2:=by show ¬(n+3=n+1);omega
 i12:=by show ¬(n=n+1);omega
 l1z:=by show ¬(t1=n+4);omega
 l1TO:=by show ¬(t1=n+3);omega
 l1i1:=by show ¬(t1=n);omega
 l1i2:=by show ¬(t1=n+1);omega
 l2z:=by show ¬(t2=n+4);omega
 l2TO:=by show ¬(t2=n+3);omega
 l2i1:=by show ¬(t2=n);omega
 l2i2:=by show ¬(t2=n+1);omega
def QAA(ta:TA):TI:=λσ H R=>ta σ H λvs H1=>∃t1 t2 xs ys,vs=[.ref t1,.ref t2]/\H1 t1=some (.lst xs)/\H1 t2=some (.lst ys)/\R (QBO t1 t2) H1
theorem QnJ:bootBuiltins "zip" = some (.type "zip"):=by decide +kernel
theorem QtN{a b:QV}{elts:List QV}{x1}{tpos:Pos}{ta:TA}{p pos:Pos}(hg:Gl X "zip")(hm:X.mg "zip" = none)(ha:PA X [a,b] ta)(hs:starEach [a,b] X.env=[(false,eval a X.env),(false,eval b X.env)]:=by rfl)(hs2:starEach [b] X.env=[(false,eval b X.env)]:=by rfl) :
  PI X (.Tuple elts x1 tpos) (.Call (.Name "zip" p) [a,b] [] pos) (QAA ta):=by
 intro pins s σ H R I h;refine Call_ (QbJ I hg hm QnJ (JD (thn (ha pos pins s σ H _ I h) λus s1 ⟨vs,H1,I1,r1,q1⟩=>?_) (by rw[hs,hs2]) (by rw[hs2];rfl)));obtain⟨t1,t2,xs,ys,e,h1,h2,q⟩:=q1;subst e;obtain⟨u,v,rfl,ru,rv⟩:=vals2 r1;cases(show u=J7 t1 from ru);cases(show v=J7 t2 from rv);obtain⟨its1,w1,p1,_⟩:=I1.list (SqL.of h1);obtain⟨its2,w2,p2,_⟩:=I1.list (SqL.of h2);have n1:t1<s1.heap.objs.size:=I1.hok.lt h1;have n2:t2<s1.heap.objs.size:=I1.hok.lt h2;refine Qln (YR p1) (YR p2) λh' st kp=>?_
 refine Qc7 (s:={ s1 with heap:=h' }) st.zp ?_
 have D:=QkX s1.heap.objs.size t1 t2 n1 n2;refine⟨s1.heap.objs.size+4,_,_,_,H1,rfl,I1.kept (t':=s1.toks) kp,Qlu D,st,λb hb=>?_,q⟩;have hb':s1.heap.objs.size<=b:=by
  simp only[Qy,Q3,or_false] at hb;rcases hb with rfl | rfl | rfl | rfl | rfl<;>omega
 exact I1.fpOk hb' (I1.hok.fresh hb')
end
def QwN(K:PySem.W.Frag):List V->Hp->VK->Prop:=λxs H Q=>∃p ys,xs=[.ref p]/\(SqL K H p ys∨SqT K H p ys)/\Q (.int ys.length) H
def QzU:List V->Hp->VK->Prop:=λxs H Q=>(∃i,xs=[.int i]/\Q (.int i) H)∨∃k,xs=[.bl k]/\Q (.int (if k then 1 else 0)) H
theorem QsF:bootBuiltins "sum" = some (.builtin "sum"):=by decide +kernel
theorem bt_set:bootBuiltins "set" = some (.type "set"):=by decide +kernel
theorem QeR:bootBuiltins "sorted" = some (.builtin "sorted"):=by decide +kernel
def QwG(K:PySem.W.Frag):List V->Hp->VK->Prop:=λxs H Q=>∃(p:Addr)(ns:List Int),xs=[.ref p]/\SqL K H p (ns.map V.int)/\Q (.int ns.sum) H
def CMulB(i j:Int):Prop:=∃k:Nat,k<=1000000/\i.natAbs<2^k/\j.natAbs<2^k
theorem QnP{i:Int}{k:Nat}(h:i.natAbs<2^k):Zd i<=k:=by
 unfold Zd;split
 ·exact Jc _
 ·rename_i z
  have hz:i.natAbs≠0:=by
   intro q;apply z
   have:i=0:=by omega
   subst this;rfl
  have:=(Nat.log2_lt hz).mpr h;omega
theorem CMulB.ok{i j:Int}(h:CMulB i j):IntMulOk i j:=by
 obtain⟨k,hk,h1,h2⟩:=h;have a:=QnP h1;have b:=QnP h2;unfold IntMulOk;have c:QfR (Zd i+Zd j:Nat)=false:=by
  unfold QfR;rw[decide_eq_false];have:bitsLine=134217728:=by decide +kernel
  rw[this];omega
 intro z;rw[JB] at z;have z2:=z.2;have e:((Zd i+Zd j:Nat):Int)=(Zd i:Int)+(Zd j:Int):=by omega
 rw[e] at c;rw[c] at z2;cases z2
section
variable{X:Cx}
theorem Qun:OpR X (binaryOp .Mult) (rI CMulB λi j=>.int (i*j)):=opI λ_ _ _ _ _ _ _ hc q=>mul_int q hc.ok
theorem Qrc:QBM X (QyS X.K):=by
 intro pins s σ H o i ov iv Q I ro ri h;obtain⟨p,xs,k,z,rfl,rfl,hq,he,q⟩:=h;cases ro;obtain⟨t,rfl⟩:=ri;obtain⟨its,r,pl,hz⟩:=I.list hq;obtain⟨j,h1,h2,h3,h4,h5⟩:=QiL he;obtain⟨w,ew,rw'⟩:=r.get h2;have hl:=r.length;have hn:=Qfx;have fin:EP X pins σ Q w s:=⟨z,H,I,rw',q⟩;by_cases h0:0<=k
 ·have hj:k.toNat=j:=by
   rw[Qj3 h0 h5] at h1;exact QJ h1
  exact wpAny_getItem_list pl.isList h0 (by omega) (by rw[hj];simpa using ew) fin
 ·have hj:(k+(its.toArray.size:Int)).toNat=j:=by
   rw[QhS (by omega) h4] at h1;rw[Ql,<- hl];exact QJ h1
  exact QrA pl.isList (by omega) (by rw[Ql]<;>omega) (by omega) (by rw[hj];simpa using ew) fin
theorem QhG(hc:X.calm=true):CallR X (.builtin "sum") (QwG X.K):=by
 intro pins s σ H xs us Q I r h;obtain⟨p,ns,rfl,hp,q⟩:=h;obtain⟨u,rfl,ru⟩:=vals1 r;cases ru;obtain⟨its,rv,pl,hz⟩:=I.list hp;have hi:Qa9 its ns:=intsAre_of rv;obtain⟨ys,hx⟩:=hi.allInts.items;have hl':s.heap.IsList p (intItems ys):=hx ▸ pl.isList;refine sum_intListG (I.ok.hd hc) hl' λh' tk t' hk=>?_
 have e1:ns=ys.toList.map (·.1):=by
  rw[<- nums_intItems,<- hx];exact(show numsOf its.toArray.toList=ns from hi.numsOf).symm
 have e2:preSum (numAt ys) ys.size=ns.sum:=by
  rw[preSum_eq,Qcd (by simp),e1]
 rw[e2];exact⟨.int _,H,I.kept hk,⟨_,rfl⟩,q⟩
end
end L2
namespace Rk
open L2 _root_.Rd
def QBd(u:Nat):R2:=λx y H Q=>∃dx dy,Dat H x dx/\Dat H y dy/\u+min dx.depth dy.depth<cLine/\Q (.bl (!QX dx dy)) H
theorem Qxo{X:Cx}:OpR X (compareOp .NotEq) (QBd X.A.units):=Qxp
def QBj(u:Nat):R2:=λx y H Q=>∃dx dy,Dat H x dx/\Dat H y dy/\u+min dx.depth dy.depth<cLine/\Q (.bl (QX dx dy)) H
theorem Qxt{X:Cx}:OpR X (compareOp .Eq) (QBj X.A.units):=Qxu
theorem Qmy{X:Cx}:OpR X (compareOp .NotIn) (QzV X.A.in1.units true):=Qmz
end Rk
namespace Rx
open PySem.Calls L2
end Rx
namespace Rk
open L2 _root_.Rd
theorem QuZ{n k:Nat}(h:k<n):ixN n (k:Nat)=some k:=by
 unfold ixN;rw[if_pos (by omega),if_pos (by omega)];simp
end Rk
namespace HT
section
open PySem.SeqAt
open PySem.AutoSeq1 (wpAny_loadPart')
open PySem.MeetsSeq PySem.MeetsSeq2 PySem.MeetsSeq3
end
section
variable{prog:QF}{w:Jk}{A:Q9}{E:Value->Shared->Prop}{s:Shared}
end
end HT
namespace L2
def QwI(K:PySem.W.Frag):V->Option Int->Option Int->Hp->VK->Prop:=λx lo hi H Q=>∃a xs,x=.ref a/\SqL K H a xs/\∀p H',Same H H'->H p=none->H' p=some (.lst (QjX xs lo hi))->Q (.ref p) H'
theorem QoM{X:Cx}:SlR X (QwI X.K):=by
 intro pins s σ H x v vl vu lo hi sl Q I rx hs pl pu h;obtain⟨a,xs,e,hx,q⟩:=h;exact Qtl pins s σ H x v vl vu lo hi sl Q I rx hs pl pu ⟨a,xs,e,hx,λp hp=>q p _ (JI hp) hp Jy⟩
theorem cut_last(xs:List V):(QjX xs (some (-1)) none).length<=1:=by
 unfold QjX;rw[QaK,Qcb];have h2:xs.length - 1<=HT.sIx xs.length 0 (some (-1)):=by
  show xs.length - 1<=(if(-1:Int)<0 then((-1:Int)+(xs.length:Int)).toNat else min (-1:Int).toNat xs.length);rw[if_pos (by decide)];omega
 omega
end L2
namespace Rk
open L2 _root_.Rd
end Rk
namespace L2
section
variable{X:Cx}
def Ql5(K:PySem.W.Frag):List V->Hp->VK->Prop:=λxs H Q=>∃p ys,xs=[.ref p]/\((SqL K H p ys/\∀l H',Same H H'->H l=none->H' l=some (.tup ys)->Q (.ref l) H')∨(SqT K H p ys/\Q (.ref p) H))
theorem Zi:CallR X (.type "tuple") (Ql5 X.K):=by
 intro pins s σ H xs us Q I r h;obtain⟨p,ys,e,h⟩:=h;refine Qc5 pins s σ H xs us Q I r ⟨p,ys,e,?_⟩;rcases h with⟨h1,h2⟩ | h
 ·exact .inl ⟨h1,λl hl=>h2 l _ (JI hl) hl Jy⟩
 ·exact .inr h
def Ql8(K:PySem.W.Frag):List V->Hp->VK->Prop:=λxs H Q=>∃p ys,xs=[.ref p]/\(SqL K H p ys∨SqT K H p ys)/\∀l H',Same H H'->H l=none->H' l=some (.lst ys)->Q (.ref l) H'
theorem Qgz:CallR X (.type "list") (Ql8 X.K):=by
 intro pins s σ H xs us Q I r h;obtain⟨p,ys,e,h1,h2⟩:=h;exact QhK pins s σ H xs us Q I r ⟨p,ys,e,h1,λl hl=>h2 l _ (JI hl) hl Jy⟩
end
end L2
namespace Rk
open L2 _root_.Rd
end Rk
namespace L2
section
variable{X:Cx}
end
section
variable{X:Cx}
end
end L2
namespace Rk
open L2 _root_.Rd
end Rk
namespace Rx
open PySem.Calls L2
section
variable{X:Cx}{e:QV}{st:ZY}{pos:Pos}{te:TX}{t u:TSX}{tc:TT}{c:QV}{a b:List ZY}
end
section
variable{X:Cx}{R:Addr}{i:Nat}{n r:Str}{body:List ZY}{hx:QV}{tb:TSX}{th:TE}{np hp hpos pos:Pos}
end
end Rx
namespace L2
section
variable{X:Cx}
end
end L2
namespace Rk
open L2 _root_.Rd
end Rk
namespace Dl
open L2 _root_.Rd Rk
def dkV(kvs:List (Int×Int)):List (Key×V):=kvs.map λp=>(QcO p.1,V.int p.2)
def dkD(kvs:List (Int×Int)):List (Qa×Qa):=kvs.map λp=>(Qi p.1,Qi p.2)
mutual
inductive DA (A:Addr->Prop) (H:Hp):V->Qa->Prop
 |non:DA A H .non .none
 |bl (b:Bool):DA A H (.bl b) (.bool b)
 |int (i:Int):DA A H (.int i) (.int i)
 |str (x:Str):QgJ (.str x)=true->DA A H (.str x) (.str x)
 |tup {a:Addr} {xs:List V} {ds:List Qa}:¬A a->H a=some (.tup xs)->DAs A H xs ds->DA A H (.ref a) (.tuple ds)
 |lst {a:Addr} {xs:List V} {ds:List Qa}:¬A a->H a=some (.lst xs)->DAs A H xs ds->DA A H (.ref a) (.list ds)
 |dct {a:Addr} {kvs:List (Int×Int)} {ds:List (Qa×Qa)}:¬A a->H a=some (.dK (dkV kvs))->ds=dkD kvs->DA A H (.ref a) (.dict ds)
inductive DAs (A:Addr->Prop) (H:Hp):List V->List Qa->Prop
 |nil:DAs A H [] []
 |cons {x:V} {xs:List V} {d:Qa} {ds:List Qa}:DA A H x d->DAs A H xs ds->DAs A H (x::xs) (d::ds)
end
mutual
theorem Qyc{A A':Addr->Prop}{H H':Hp}(k:∀a o,¬A a->H a=some o->H' a=some o)(m:∀a,A' a->A a∨H a=none):∀(d:Qa)(x:V),DA A H x d->DA A' H' x d
 |.none,_,.non=>.non
 |.bool _,_,.bl _=>.bl _
 |.int _,_,.int _=>.int _
 |.str _,_,.str _ c=>.str _ c
 |.tuple ds,_,.tup (xs:=xs) n e q=>.tup (λz=>(m _ z).elim n λz=>by rw[z] at e;cases e) (k _ _ n e) (QjU k m ds xs q)
 |.list ds,_,.lst (xs:=xs) n e q=>.lst (λz=>(m _ z).elim n λz=>by rw[z] at e;cases e) (k _ _ n e) (QjU k m ds xs q)
 |.dict _,_,.dct n e q=>.dct (λz=>(m _ z).elim n λz=>by rw[z] at e;cases e) (k _ _ n e) q
theorem QjU{A A':Addr->Prop}{H H':Hp}(k:∀a o,¬A a->H a=some o->H' a=some o)(m:∀a,A' a->A a∨H a=none):∀(ds:List Qa)(xs:List V),DAs A H xs ds->DAs A' H' xs ds
 |[],_,.nil=>.nil
 |d::ds,_,.cons (x:=x) (xs:=xs) q qs=>.cons (Qyc k m d x q) (QjU k m ds xs qs)
end
theorem DA.mv{A A':Addr->Prop}{H H':Hp}{x:V}{d:Qa}(q:DA A H x d)(k:∀a o,¬A a->H a=some o->H' a=some o)(m:∀a,A' a->A a∨H a=none):DA A' H' x d:=Qyc k m d x q
theorem DAs.mv{A A':Addr->Prop}{H H':Hp}{x:List V}{d:List Qa}(q:DAs A H x d)(k:∀a o,¬A a->H a=some o->H' a=some o)(m:∀a,A' a->A a∨H a=none):DAs A' H' x d:=QjU k m d x q
theorem DA.same{A:Addr->Prop}{H H':Hp}{x:V}{d:Qa}(q:DA A H x d)(s:Same H H'):DA A H' x d:=q.mv (λa o _ e=>s a o e) λa z=>.inl z
theorem DAs.same{A:Addr->Prop}{H H':Hp}{x:List V}{d:List Qa}(q:DAs A H x d)(s:Same H H'):DAs A H' x d:=q.mv (λa o _ e=>s a o e) λa z=>.inl z
theorem DAs.length{A:Addr->Prop}{H:Hp}:∀{xs:List V}{ds:List Qa},DAs A H xs ds->xs.length=ds.length
 |_,_,.nil=>rfl
 |_,_,.cons _ q=>by rw[QQ,QQ,q.length]
theorem DAs.get{A:Addr->Prop}{H:Hp}:∀{xs:List V}{ds:List Qa},DAs A H xs ds->∀(i:Nat)(d:Qa),ds[i]? = some d->∃x,xs[i]? = some x/\DA A H x d
 |_,_,.nil,i,x,e=>by simp at e
 |_,_,.cons q qs,0,x,e=>by simp at e;subst e;exact⟨_,rfl,q⟩
 |_,_,.cons q qs,i+1,x,e=>qs.get i x (by simpa using e)
theorem DAs.app{A:Addr->Prop}{H:Hp}:∀{xs ys:List V}{ds es:List Qa},DAs A H xs ds->DAs A H ys es->DAs A H (xs++ys) (ds++es)
 |_,_,_,_,.nil,q=>q
 |_,_,_,_,.cons a b,q=>.cons a (b.app q)
theorem DAs.take{A:Addr->Prop}{H:Hp}:∀{xs:List V}{ds:List Qa},DAs A H xs ds->∀n:Nat,DAs A H (xs.take n) (ds.take n)
 |_,_,.nil,n=>by rw[QiR,QiR];exact .nil
 |_,_,.cons a b,0=>.nil
 |_,_,.cons a b,n+1=>.cons a (b.take n)
theorem DAs.drop{A:Addr->Prop}{H:Hp}:∀{xs:List V}{ds:List Qa},DAs A H xs ds->∀n:Nat,DAs A H (xs.drop n) (ds.drop n)
 |_,_,.nil,n=>by rw[QyO,QyO];exact .nil
 |_,_,.cons a b,0=>.cons a b
 |_,_,.cons a b,n+1=>b.drop n
theorem DAs.set{A:Addr->Prop}{H:Hp}{x:V}{d:Qa}(q:DA A H x d):∀{xs:List V}{ds:List Qa},DAs A H xs ds->∀n:Nat,DAs A H (xs.set n x) (ds.set n d)
 |_,_,.nil,n=>.nil
 |_,_,.cons a b,0=>.cons q b
 |_,_,.cons a b,n+1=>.cons a (b.set q n)
mutual
def nd:Qa->Bool
 |.dict _=>false
 |.tuple ds=>nds ds
 |.list ds=>nds ds
 |_=>true
def nds:List Qa->Bool
 |[]=>true
 |d::ds=>nd d&&nds ds
end
mutual
theorem Qsy{A:Addr->Prop}{H:Hp}:∀(d:Qa)(x:V),nd d=true->DA A H x d->Dat H x d
 |.none,_,_,.non=>.non
 |.bool _,_,_,.bl _=>.bl _
 |.int _,_,_,.int _=>.int _
 |.str _,_,_,.str _ c=>.str _ c
 |.tuple ds,_,n,.tup (xs:=xs) _ e q=>.tup e (QaW ds xs n q)
 |.list ds,_,n,.lst (xs:=xs) _ e q=>.lst e (QaW ds xs n q)
theorem QaW{A:Addr->Prop}{H:Hp}:∀(ds:List Qa)(xs:List V),nds ds=true->DAs A H xs ds->Dats H xs ds
 |[],_,_,.nil=>.nil
 |d::ds,_,n,.cons (x:=x) (xs:=xs) q qs=>by
  have n':=QR.mp (show(nd d&&nds ds)=true from n);exact .cons (Qsy d x n'.1 q) (QaW ds xs n'.2 qs)
end
theorem QmQ{ds:List Qa}:nds ds=true↔∀d∈ds,nd d=true:=by
 induction ds with
 |nil=>exact⟨(λ_ _ h=>nomatch h),λ_=>rfl⟩
 |cons d ds ih=>
  rw[show nds (d::ds)=(nd d&&nds ds) from rfl,QR,ih];constructor
  ·rintro⟨a,b⟩ e he;rcases Qy.mp he with z | z
   ·rw[z];exact a
   ·exact b e z
  ·intro h;exact⟨h d (by simp),λe he=>h e (by simp[he])⟩
def DP(A P:Addr->Prop)(H:Hp)(v:V)(d:Qa):Prop:=DA A H v d∨∃l xs ds,v=.ref l/\d=.list ds/\¬P l/\H l=some (.lst xs)/\DAs A H xs ds
theorem DP.dat{A P:Addr->Prop}{H:Hp}{v:V}{d:Qa}(h:DP A P H v d)(n:nd d=true):Dat H v d:=by
 rcases h with h | ⟨l,xs,ds,rfl,rfl,_,e,q⟩
 ·exact Qsy d v n h
 ·exact .lst e (QaW ds xs n q)
theorem DP.list{A P:Addr->Prop}{H:Hp}{v:V}{ds:List Qa}(h:DP A P H v (.list ds)):∃l xs,v=.ref l/\H l=some (.lst xs)/\DAs A H xs ds:=by
 rcases h with h | ⟨l,xs,ds',rfl,e,_,h2,q⟩
 ·cases h with | lst n e q=>exact⟨_,_,rfl,e,q⟩
 ·cases e;exact⟨l,xs,rfl,h2,q⟩
theorem DP.tuple{A P:Addr->Prop}{H:Hp}{v:V}{ds:List Qa}(h:DP A P H v (.tuple ds)):∃l xs,v=.ref l/\H l=some (.tup xs)/\DAs A H xs ds:=by
 rcases h with h | ⟨l,xs,ds',rfl,e,_⟩
 ·cases h with | tup n e q=>exact⟨_,_,rfl,e,q⟩
 ·cases e
theorem DP.int{A P:Addr->Prop}{H:Hp}{v:V}{i:Int}(h:DP A P H v (.int i)):v=.int i:=by
 rcases h with h | ⟨l,xs,ds',rfl,e,_⟩
 ·cases h;rfl
 ·cases e
theorem DP.bool{A P:Addr->Prop}{H:Hp}{v:V}{i:Bool}(h:DP A P H v (.bool i)):v=.bl i:=by
 rcases h with h | ⟨l,xs,ds',rfl,e,_⟩
 ·cases h;rfl
 ·cases e
theorem DP.none{A P:Addr->Prop}{H:Hp}{v:V}(h:DP A P H v .none):v=.non:=by
 rcases h with h | ⟨l,xs,ds',rfl,e,_⟩
 ·cases h;rfl
 ·cases e
theorem DP.str{A P:Addr->Prop}{H:Hp}{v:V}{x:Str}(h:DP A P H v (.str x)):v=.str x/\QgJ (.str x)=true:=by
 rcases h with h | ⟨l,xs,ds',rfl,e,_⟩
 ·cases h with | str _ c=>exact⟨rfl,c⟩
 ·cases e
inductive Sl where
 |no | pot | scr
 |v (d:Qa)
 |own (ds:List Qa)
 |pk (ds:List Qa)
abbrev Sts:=List Sl
structure Fm where
 H0:Hp
 A0:Addr->Prop
 pt:Addr->Prop
def QBN(σ:L2.St)(δ:Sts)(i:Nat)(a:Addr):Prop:=σ[i]? = some (some (.ref a))/\(δ[i]? = some .pot∨∃ds,δ[i]? = some (.own ds))
def Av(F:Fm)(σ:L2.St)(δ:Sts)(a:Addr):Prop:=F.A0 a∨∃i,QBN σ δ i a
def Yj(σ:L2.St)(δ:Sts)(a:Addr):Prop:=∃i:Nat,σ[i]? = some (some (.ref a))/\δ[i]? = some .pot
def QBL(K:PySem.W.Frag)(F:Fm)(H:Hp)(A:Addr->Prop)(o:Option V):Sl->Prop
 |.no=>True
 |.v d=>∃v,o=some v/\DA A H v d
 |.own ds=>∃l xs,o=some (.ref l)/\H l=some (.lst xs)/\DAs A H xs ds/\F.H0 l=none
 |.pk ds=>∃l xs,o=some (.ref l)/\H l=some (.lst xs)/\DAs A H xs ds/\∃ys,F.H0 l=some (.lst ys)/\¬F.pt l
 |.pot=>∃p n,o=some (.ref p)/\H p=some (.lst [.int n])/\(F.pt p∨F.H0 p=none)
 |.scr=>∃a ns,o=some (.ref a)/\SqL K F.H0 a ((ns:List Int).map V.int)/\¬F.pt a/\ns.length<=63
structure Rel (K:PySem.W.Frag) (F:Fm) (σ:L2.St) (H:Hp) (δ:Sts):Prop where
 len:σ.length=δ.length
 dom:∀a,F.A0 a->∃xs,H a=some (.lst xs)
 dom0:∀a,F.A0 a->∃xs,F.H0 a=some (.lst xs)
 pt0:∀p,F.pt p->F.A0 p/\∃n,H p=some (.lst [.int n])
 kx:∀b o,¬F.pt b->F.H0 b=some o->H b=some o
 sl:∀(i:Nat) o x,σ[i]? = some o->δ[i]? = some x->QBL K F H (Av F σ δ) o x
 inj:∀(i j:Nat) a ds,δ[i]? = some (.own ds)->σ[i]? = some (some (.ref a))->QBN σ δ j a->i=j
def Kp(σ:L2.St)(δ:Sts)(H H':Hp):Prop:=(∀b o,¬Yj σ δ b->H b=some o->H' b=some o)/\∀b,Yj σ δ b->∃n,H' b=some (.lst [.int n])
def Stp(F:Fm)(σ:L2.St)(H:Hp)(δ:Sts)(σ':L2.St)(H':Hp)(δ':Sts):Prop:=(∀b o,¬Av F σ δ b->H b=some o->H' b=some o)/\∀b,Av F σ' δ' b->Av F σ δ b∨H b=none
def Ke(F:Fm)(H':Hp):Prop:=(∀b o,¬F.pt b->F.H0 b=some o->H' b=some o)/\∀p,F.pt p->∃n,H' p=some (.lst [.int n])
theorem Qaa{F:Fm}{σ:L2.St}{δ:Sts}{a:Addr}(h:Yj σ δ a):Av F σ δ a:=let ⟨i,h1,h2⟩:=h;.inr ⟨i,h1,.inl h2⟩
theorem Rel.ke{K:PySem.W.Frag}{F:Fm}{σ:L2.St}{H:Hp}{δ:Sts}(r:Rel K F σ H δ):Ke F H:=⟨r.kx,λp hp=>(r.pt0 p hp).2⟩
theorem Rel.isl{K:PySem.W.Frag}{F:Fm}{σ:L2.St}{H:Hp}{δ:Sts}(r:Rel K F σ H δ){a:Addr}(h:Av F σ δ a):∃xs,H a=some (.lst xs):=by
 rcases h with h | ⟨i,h1,h2⟩
 ·exact r.dom a h
 ·rcases h2 with h2 | ⟨ds,h2⟩
  ·obtain⟨p,n,e,h,_⟩:=r.sl i _ _ h1 h2;cases e;exact⟨_,h⟩
  ·obtain⟨l,xs,e,h,_⟩:=r.sl i _ _ h1 h2;cases e;exact⟨_,h⟩
theorem Kp.refl{K:PySem.W.Frag}{F:Fm}{σ:L2.St}{H:Hp}{δ:Sts}(r:Rel K F σ H δ):Kp σ δ H H:=⟨λ_ _ _ e=>e,λb ⟨i,h1,h2⟩=>by
 obtain⟨p,n,e,h,_⟩:=r.sl i _ _ h1 h2;cases e;exact⟨n,h⟩⟩
theorem Kp.trans{σ:L2.St}{δ:Sts}{H H1 H2:Hp}(a:Kp σ δ H H1)(b:Kp σ δ H1 H2):Kp σ δ H H2:=⟨λc o n e=>b.1 c o n (a.1 c o n e),b.2⟩
theorem Kp.same{K:PySem.W.Frag}{F:Fm}{σ:L2.St}{H H':Hp}{δ:Sts}(r:Rel K F σ H δ)(s:Same H H'):Kp σ δ H H':=⟨λb o _ e=>s b o e,λb hb=>let ⟨n,h⟩:=(Kp.refl r).2 b hb;⟨n,s _ _ h⟩⟩
theorem Kp.da{F:Fm}{σ:L2.St}{H H':Hp}{δ:Sts}{v:V}{d:Qa}(k:Kp σ δ H H')(h:DA (Av F σ δ) H v d):DA (Av F σ δ) H' v d:=h.mv (λa o n e=>k.1 a o (λz=>n (Qaa z)) e) λa z=>.inl z
theorem Kp.das{F:Fm}{σ:L2.St}{H H':Hp}{δ:Sts}{v:List V}{d:List Qa}(k:Kp σ δ H H')(h:DAs (Av F σ δ) H v d):DAs (Av F σ δ) H' v d:=h.mv (λa o n e=>k.1 a o (λz=>n (Qaa z)) e) λa z=>.inl z
theorem Kp.dp{F:Fm}{σ:L2.St}{H H':Hp}{δ:Sts}{v:V}{d:Qa}(k:Kp σ δ H H')(h:DP (Av F σ δ) (Yj σ δ) H v d):DP (Av F σ δ) (Yj σ δ) H' v d:=by
 rcases h with h | ⟨l,xs,ds,e1,e2,n,e,q⟩
 ·exact .inl (k.da h)
 ·exact .inr ⟨l,xs,ds,e1,e2,n,k.1 _ _ n e,k.das q⟩
theorem Rel.own_pot{K:PySem.W.Frag}{F:Fm}{σ:L2.St}{H:Hp}{δ:Sts}(r:Rel K F σ H δ){i:Nat}{ds:List Qa}{l:Addr}(h:δ[i]? = some (.own ds))(e:σ[i]? = some (some (.ref l))):¬Yj σ δ l:=by
 rintro⟨j,h1,h2⟩;have:=r.inj i j l _ h e ⟨h1,.inl h2⟩;subst this;rw[h] at h2;cases h2
theorem Rel.pt_pot{K:PySem.W.Frag}{F:Fm}{σ:L2.St}{H H':Hp}{δ:Sts}(r:Rel K F σ H δ)(k:Kp σ δ H H'){p:Addr}(hp:F.pt p):∃n,H' p=some (.lst [.int n]):=by
 by_cases z:Yj σ δ p
 ·exact k.2 p z
 ·obtain⟨n,e⟩:=(r.pt0 p hp).2;exact⟨n,k.1 _ _ z e⟩
theorem Rel.kp{K:PySem.W.Frag}{F:Fm}{σ:L2.St}{H H':Hp}{δ:Sts}(r:Rel K F σ H δ)(k:Kp σ δ H H'):Rel K F σ H' δ where
 len:=r.len
 dom:=λa ha=>by
  by_cases z:Yj σ δ a
  ·exact⟨_,(k.2 a z).choose_spec⟩
  ·obtain⟨xs,e⟩:=r.dom a ha;exact⟨xs,k.1 _ _ z e⟩
 dom0:=r.dom0
 pt0:=λp hp=>⟨(r.pt0 p hp).1,r.pt_pot k hp⟩
 kx:=λb o n e=>by
  by_cases z:Yj σ δ b
  ·obtain⟨i,h1,h2⟩:=z;obtain⟨p,m,e1,h,q⟩:=r.sl i _ _ h1 h2;cases e1;rcases q with q | q
   ·exact absurd q n
   ·rw[q] at e;cases e
  ·exact k.1 _ _ z (r.kx b o n e)
 sl:=λi o x h1 h2=>by
  have h:=r.sl i o x h1 h2;cases x with
  |no=>trivial
  |v d=>obtain⟨v,e,q⟩:=h;exact⟨v,e,k.da q⟩
  |own ds=>obtain⟨l,xs,rfl,e,q,f⟩:=h;exact⟨l,xs,rfl,k.1 _ _ (r.own_pot h2 h1) e,k.das q,f⟩
  |pk ds=>
   obtain⟨l,xs,rfl,e,q,ys,f,f2⟩:=h;refine⟨l,xs,rfl,k.1 _ _ ?_ e,k.das q,ys,f,f2⟩;rintro⟨j,j1,j2⟩;obtain⟨p,m,e1,_,w⟩:=r.sl j _ _ j1 j2;cases e1;rcases w with w | w
   ·exact f2 w
   ·rw[w] at f;cases f
  |pot=>
   obtain⟨p,n,rfl,e,q⟩:=h;obtain⟨m,e'⟩:=k.2 p ⟨i,h1,h2⟩;exact⟨p,m,rfl,e',q⟩
  |scr=>exact h
 inj:=r.inj
theorem Rel.same{K:PySem.W.Frag}{F:Fm}{σ:L2.St}{H H':Hp}{δ:Sts}(r:Rel K F σ H δ)(s:Same H H'):Rel K F σ H' δ:=r.kp (Kp.same r s)
theorem Stp.refl{F:Fm}{σ:L2.St}{H:Hp}{δ:Sts}:Stp F σ H δ σ H δ:=⟨λ_ _ _ e=>e,λ_ z=>.inl z⟩
theorem Stp.trans{F:Fm}{σ σ1 σ2:L2.St}{H H1 H2:Hp}{δ δ1 δ2:Sts}(a:Stp F σ H δ σ1 H1 δ1)(b:Stp F σ1 H1 δ1 σ2 H2 δ2):Stp F σ H δ σ2 H2 δ2:=by
 refine⟨λc o n e=>?_,λc z=>?_⟩
 ·refine b.1 c o (λz=>?_) (a.1 c o n e);rcases a.2 c z with q | q
  ·exact n q
  ·rw[q] at e;cases e
 ·rcases b.2 c z with q | q
  ·exact a.2 c q
  ·by_cases y:Av F σ δ c
   ·exact .inl y
   ·right
    cases e:H c with
    |none=>rfl
    |some o=>rw[a.1 c o y e] at q;cases q
theorem Stp.kp{F:Fm}{σ:L2.St}{H H':Hp}{δ:Sts}(k:Kp σ δ H H'):Stp F σ H δ σ H' δ:=⟨λb o n e=>k.1 b o (λz=>n (Qaa z)) e,λ_ z=>.inl z⟩
theorem Stp.da{F:Fm}{σ σ':L2.St}{H H':Hp}{δ δ':Sts}{v:V}{d:Qa}(k:Stp F σ H δ σ' H' δ')(h:DA (Av F σ δ) H v d):DA (Av F σ' δ') H' v d:=h.mv k.1 k.2
theorem Stp.das{F:Fm}{σ σ':L2.St}{H H':Hp}{δ δ':Sts}{v:List V}{d:List Qa}(k:Stp F σ H δ σ' H' δ')(h:DAs (Av F σ δ) H v d):DAs (Av F σ' δ') H' v d:=h.mv k.1 k.2
abbrev XP:=Addr->Prop
abbrev DE:=Sts->(Qa->Prop)->XP->Prop
abbrev DT:=Sts->(Bool->Prop)->XP->Prop
abbrev DAr:=Sts->(List Qa->Prop)->XP->Prop
abbrev DSl:=Sts->(List Sl->Prop)->XP->Prop
inductive Md where | D | P | F
def FrV(H H':Hp)(v:V):Prop:=∀l,v=.ref l->(∃xs,H' l=some (.lst xs))->H l=none
def Vok(m:Md)(F:Fm)(σ:L2.St)(δ:Sts)(H H':Hp)(v:V)(d:Qa):Prop:=
 match m with
 |.D=>DA (Av F σ δ) H' v d
 |.P=>DP (Av F σ δ) (Yj σ δ) H' v d
 |.F=>DA (Av F σ δ) H' v d/\FrV H H' v
def Out(F:Fm)(E:XK)(EX:XP):Prop:=∀C,EX C->∀H',Ke F H'->E (.ref C) none H'
def tX(m:Md)(K:PySem.W.Frag)(E:XK)(w:DE):TE:=λσ H Q=>∃(F:Fm)(δ:Sts)(R:Qa->Prop)(EX:XP),Rel K F σ H δ/\w δ R EX/\(∀d,R d->∀v H',Rel K F σ H' δ->Kp σ δ H H'->Vok m F σ δ H H' v d->Q v H')/\Out F E EX
def tT(K:PySem.W.Frag)(E:XK)(w:DT):TT:=λσ H Q=>∃(F:Fm)(δ:Sts)(R:Bool->Prop)(EX:XP),Rel K F σ H δ/\w δ R EX/\(∀b,R b->∀H',Rel K F σ H' δ->Kp σ δ H H'->Q b H')/\Out F E EX
def VD(m:Md)(A P:Addr->Prop)(H:Hp)(v:V)(d:Qa):Prop:=
 match m with
 |.P=>DP A P H v d
 |_=>DA A H v d
def tAr(n:Nat)(m:Md)(K:PySem.W.Frag)(E:XK)(w:DAr):TA:=λσ H Q=>∃(F:Fm)(δ:Sts)(R:List Qa->Prop)(EX:XP),Rel K F σ H δ/\w δ R EX/\(∀ds,R ds->ds.length=n->∀vs H',Rel K F σ H' δ->Kp σ δ H H'->Qbf (VD m (Av F σ δ) (Yj σ δ) H') vs ds->Q vs H')/\Out F E EX
def QkZ(A pt:Addr->Prop)(H:Hp)(v:V):Sl->Prop
 |.v d=>DA A H v d
 |.pot=>∃p,v=.ref p/\pt p
 |_=>False
def tAs(K:PySem.W.Frag)(E:XK)(w:DSl):TA:=λσ H Q=>∃(F:Fm)(δ:Sts)(R:List Sl->Prop)(EX:XP),Rel K F σ H δ/\w δ R EX/\(∀ds,R ds->∀vs H',Rel K F σ H' δ->Kp σ δ H H'->Qbf (QkZ (Av F σ δ) (Yj σ δ) H') vs ds->Q vs H')/\Out F E EX
theorem Kp.vd{m:Md}{F:Fm}{σ:L2.St}{H H':Hp}{δ:Sts}{v:V}{d:Qa}(k:Kp σ δ H H')(h:VD m (Av F σ δ) (Yj σ δ) H v d):VD m (Av F σ δ) (Yj σ δ) H' v d:=by
 cases m
 ·exact k.da h
 ·exact k.dp h
 ·exact k.da h
theorem Kp.arg{F:Fm}{σ:L2.St}{H H':Hp}{δ:Sts}{v:V}{d:Sl}(k:Kp σ δ H H')(h:QkZ (Av F σ δ) (Yj σ δ) H v d):QkZ (Av F σ δ) (Yj σ δ) H' v d:=by
 cases d with
 |v d=>exact k.da h
 |pot=>exact h
 |_=>exact h.elim
def QcE(H:Hp):Prop:=∀a xs,H a=some (.lst xs)∨H a=some (.tup xs)->xs.length<=sizeLine
section
variable{X:Cx}{E:XK}
theorem Inv.lens{pins:List (Addr×Obj)}{σ:L2.St}{H:Hp}{s:Shared}(I:Inv X pins σ H s):QcE H:=λa xs h=>by
 rcases h with h | h
 ·exact(I.hok a _ h).1
 ·exact(I.hok a _ h).1
theorem PE.imp{e:QV}{t t':TE}(h:PE X e t)(i:∀σ H Q,t' σ H Q->t σ H Q):PE X e t':=λpins s σ H Q I q=>h pins s σ H Q I (i σ H Q q)
theorem PT.imp{e:QV}{t t':TT}(h:PT X e t)(i:∀σ H Q,t' σ H Q->t σ H Q):PT X e t':=λpins s σ H Q I q=>h pins s σ H Q I (i σ H Q q)
theorem PW.imp{e:QV}{t t':TT}(h:PW X e t)(i:∀σ H Q,t' σ H Q->t σ H Q):PW X e t':=λwh pins s σ H Q I q=>h wh pins s σ H Q I (i σ H Q q)
theorem PA.imp{e:List QV}{t t':TA}(h:PA X e t)(i:∀σ H Q,t' σ H Q->t σ H Q):PA X e t':=λpos pins s σ H Q I q=>h pos pins s σ H Q I (i σ H Q q)
theorem OpR.len{f:Value->Value->Sem Value}{r:R2}(h:OpR X f r):OpR X f (λx y H Q=>QcE H->r x y H Q):=λpins s σ H x y v u Q I rx ry q=>h pins s σ H x y v u Q I rx ry (q (Inv.lens I))
theorem CallR.len{f:Value}{r:List V->Hp->VK->Prop}(h:CallR X f r):CallR X f (λxs H Q=>QcE H->r xs H Q):=λpins s σ H xs us Q I rx q=>h pins s σ H xs us Q I rx (q (Inv.lens I))
theorem IxR.len{r:R2}(h:IxR X r):IxR X (λx y H Q=>QcE H->r x y H Q):=λa b pins s σ H x y v u Q I rx ry q hs=>h a b pins s σ H x y v u Q I rx ry (q (Inv.lens I)) hs
theorem OpR.or2{f:Value->Value->Sem Value}{r r':R2}(h:OpR X f r)(h':OpR X f r'):OpR X f (λx y H Q=>r x y H Q∨r' x y H Q):=OpR.or h h'
theorem IxR.or2{r r':R2}(h:IxR X r)(h':IxR X r'):IxR X (λx y H Q=>r x y H Q∨r' x y H Q):=λa b pins s σ H x y v u Q I rx ry q hs=>q.elim (λq=>h a b pins s σ H x y v u Q I rx ry q hs) λq=>h' a b pins s σ H x y v u Q I rx ry q hs
theorem SlR.or2{r r':V->Option Int->Option Int->Hp->VK->Prop}(h:SlR X r)(h':SlR X r'):SlR X (λx a b H Q=>r x a b H Q∨r' x a b H Q):=λpins s σ H x v vl vu lo hi sl Q I rx hs pl pu q=>q.elim (h pins s σ H x v vl vu lo hi sl Q I rx hs pl pu) (h' pins s σ H x v vl vu lo hi sl Q I rx hs pl pu)
theorem toD{e:QV}{w:DE}(h:PE X e (tX .F X.K E w)):PE X e (tX .D X.K E w):=PE.imp h λσ H Q ⟨F,δ,R,EX,r,hw,k,o⟩=>⟨F,δ,R,EX,r,hw,λd hd v H' r' kp vk=>k d hd v H' r' kp vk.1,o⟩
theorem toP{e:QV}{w:DE}(h:PE X e (tX .D X.K E w)):PE X e (tX .P X.K E w):=PE.imp h λσ H Q ⟨F,δ,R,EX,r,hw,k,o⟩=>⟨F,δ,R,EX,r,hw,λd hd v H' r' kp vk=>k d hd v H' r' kp (.inl vk),o⟩
theorem QBR{e:QV}{w:DE}(h:PE X e (tX .F X.K E w)):PE X e (tX .P X.K E w):=toP (toD h)
def QAR(i:Nat):DE:=λδ Q _=>match δ[i]? with
 |some (.v d)=>Q d
 |_=>False
def dPk(i:Nat):DE:=λδ Q _=>match δ[i]? with
 |some (.v d)=>Q d
 |some (.own ds)=>Q (.list ds)
 |some (.pk ds)=>Q (.list ds)
 |_=>False
def dC(d:Qa):DE:=λ_ Q _=>Q d
theorem Rel.lt{K:PySem.W.Frag}{F:Fm}{σ:L2.St}{H:Hp}{δ:Sts}(r:Rel K F σ H δ){i:Nat}{x:Sl}(h:δ[i]? = some x):∃o,σ[i]? = some o:=by
 have:=(Jd.mp h).1;exact⟨σ[i]'(by rw[r.len];exact this),Qf _⟩
theorem Qw8{e:QV}{i:Nat}(h:PE X e (QhZ i)):PE X e (tX .D X.K E (QAR i)):=PE.imp h λσ H Q ⟨F,δ,R,EX,r,hw,k,o⟩=>by
 unfold QAR at hw;split at hw
 ·rename_i d hd
  obtain⟨x,hx⟩:=r.lt hd;obtain⟨v,rfl,q⟩:=r.sl i _ _ hx hd;exact⟨v,hx,k d hw v H r (Kp.refl r) q⟩
 ·exact hw.elim
theorem QAb{e:QV}{i:Nat}(h:PE X e (QhZ i)):PE X e (tX .P X.K E (dPk i)):=PE.imp h λσ H Q ⟨F,δ,R,EX,r,hw,k,o⟩=>by
 unfold dPk at hw;split at hw
 ·rename_i d hd
  obtain⟨x,hx⟩:=r.lt hd;obtain⟨v,rfl,q⟩:=r.sl i _ _ hx hd;exact⟨v,hx,k d hw v H r (Kp.refl r) (.inl q)⟩
 ·rename_i d hd
  obtain⟨x,hx⟩:=r.lt hd;obtain⟨l,xs,rfl,e,q,_⟩:=r.sl i _ _ hx hd;exact⟨_,hx,k _ hw _ H r (Kp.refl r) (.inr ⟨l,xs,d,rfl,rfl,r.own_pot hd hx,e,q⟩)⟩
 ·rename_i d hd
  obtain⟨x,hx⟩:=r.lt hd;obtain⟨l,xs,rfl,e,q,ys,f,f2⟩:=r.sl i _ _ hx hd;refine⟨_,hx,k _ hw _ H r (Kp.refl r) (.inr ⟨l,xs,d,rfl,rfl,?_,e,q⟩)⟩;rintro⟨j,j1,j2⟩;obtain⟨p,m,e1,_,w⟩:=r.sl j _ _ j1 j2;cases e1;rcases w with w | w
  ·exact f2 w
  ·rw[w] at f;cases f
 ·exact hw.elim
theorem QBm{e:QV}{v:V}{d:Qa}(h:PE X e (tC v))(q:∀(A:Addr->Prop)(H:Hp),DA A H v d):PE X e (tX .D X.K E (dC d)):=PE.imp h λσ H Q ⟨F,δ,R,EX,r,hw,k,o⟩=>k d hw v H r (Kp.refl r) (q _ _)
theorem Qxe{i:Int}{j pos}:PE X (.Constant (.int i) j pos) (tX .D X.K E (dC (.int i))):=QBm YC λ_ _=>.int i
theorem QAf{b:Bool}{j pos}:PE X (.Constant (.bool b) j pos) (tX .D X.K E (dC (.bool b))):=QBm Qz9 λ_ _=>.bl b
def OpD(r:R2)(rD:Qa->Qa->(Qa->Prop)->Prop):Prop:=∀(A P:Addr->Prop)(H:Hp)(x y:V)(d1 d2:Qa)(R:Qa->Prop)(Q:VK),QcE H->(∀a,A a->∃xs,H a=some (.lst xs))->DP A P H x d1->DP A P H y d2->rD d1 d2 R ->
 (∀d,R d->∀v H',Same H H'->DA A H' v d->FrV H H' v->Q v H')->r x y H Q
def Qry(r:R2)(rD:Qa->Qa->(Qa->Prop)->Prop):Prop:=∀(A P:Addr->Prop)(H:Hp)(x y:V)(d1 d2:Qa)(R:Qa->Prop)(Q:VK),QcE H->(∀a,A a->∃xs,H a=some (.lst xs))->DP A P H x d1->DP A P H y d2->rD d1 d2 R ->
 (∀d,R d->∀v H',Same H H'->DA A H' v d->Q v H')->r x y H Q
def dOp(rD:Qa->Qa->(Qa->Prop)->Prop)(wa wb:DE):DE:=λδ Q EX=>wa δ (λd1=>wb δ (λd2=>rD d1 d2 Q) EX) EX
theorem Qin{K:PySem.W.Frag}{r:R2}{rD:Qa->Qa->(Qa->Prop)->Prop}{wa wb:DE}(hd:OpD r rD)(σ:L2.St)(H:Hp)(Q:VK)(h:tX .F K E (dOp rD wa wb) σ H Q) :
  tOp (λx y H Q=>QcE H->r x y H Q) (tX .P K E wa) (tX .P K E wb) σ H Q:=by
 obtain⟨F,δ,R,EX,rel,hw,k,o⟩:=h;refine⟨F,δ,_,EX,rel,hw,λd1 h1 x H1 rel1 kp1 x1=>⟨F,δ,_,EX,rel1,h1,λd2 h2 y H2 rel2 kp2 y2=>λln=>?_,o⟩,o⟩;refine hd (Av F σ δ) (Yj σ δ) H2 x y d1 d2 R Q ln (λa ha=>rel2.isl ha) (kp2.dp x1) y2 h2 λd hR v H' s q f=>?_
 refine k d hR v H' (rel2.same s) ((kp1.trans kp2).trans (Kp.same rel2 s)) ⟨q,λl e1 e2=>?_⟩;have f2:=f l e1 e2;cases e:H l with
 |none=>rfl
 |some ob=>
  by_cases z:Yj σ δ l
  ·obtain⟨n,en⟩:=kp2.2 l z;rw[en] at f2;cases f2
  ·rw[(kp1.trans kp2).1 _ _ z e] at f2;cases f2
theorem QpA{K:PySem.W.Frag}{r:R2}{rD:Qa->Qa->(Qa->Prop)->Prop}{wa wb:DE}(hd:Qry r rD)(σ:L2.St)(H:Hp)(Q:VK)(h:tX .D K E (dOp rD wa wb) σ H Q) :
  tOp (λx y H Q=>QcE H->r x y H Q) (tX .P K E wa) (tX .P K E wb) σ H Q:=by
 obtain⟨F,δ,R,EX,rel,hw,k,o⟩:=h;refine⟨F,δ,_,EX,rel,hw,λd1 h1 x H1 rel1 kp1 x1=>⟨F,δ,_,EX,rel1,h1,λd2 h2 y H2 rel2 kp2 y2=>λln=>?_,o⟩,o⟩;refine hd (Av F σ δ) (Yj σ δ) H2 x y d1 d2 R Q ln (λa ha=>rel2.isl ha) (kp2.dp x1) y2 h2 λd hR v H' s q=>?_
 exact k d hR v H' (rel2.same s) ((kp1.trans kp2).trans (Kp.same rel2 s)) q
variable{a b:QV}{wa wb:DE}{pos:Pos}{r:R2}{rD:Qa->Qa->(Qa->Prop)->Prop}
theorem Qxh{op:QcP}(ho:OpR X (binaryOp op) r)(hd:OpD r rD)(ha:PE X a (tX .P X.K E wa))(hb:PE X b (tX .P X.K E wb)):PE X (.BinOp a op b pos) (tX .F X.K E (dOp rD wa wb)):=PE.imp (Qbj (OpR.len ho) ha hb) (Qin hd)
theorem Qxg{op:QsY}(ho:OpR X (compareOp op) r)(hd:OpD r rD)(ha:PE X a (tX .P X.K E wa))(hb:PE X b (tX .P X.K E wb))(hm:behindInMarks op b=false):PE X (.Compare a [op] [b] pos) (tX .F X.K E (dOp rD wa wb)):=PE.imp (QtT (OpR.len ho) ha hb hm) (Qin hd)
theorem QAd{r:R2}{rD:Qa->Qa->(Qa->Prop)->Prop}(ho:IxR X r)(hd:Qry r rD)(ha:PE X a (tX .P X.K E wa))(hb:PE X b (tX .P X.K E wb))(hs:QiO b):PE X (.Subscript a b pos) (tX .D X.K E (dOp rD wa wb)):=PE.imp (Qml (IxR.len ho) ha hb hs) (QpA hd)
def dTst(w:DE):DT:=λδ Q EX=>w δ (λd=>match d with
 |.bool k=>Q k
 |_=>False) EX
theorem Qt0{op:QsY}(ho:OpR X (compareOp op) r)(hd:OpD r rD)(ha:PE X a (tX .P X.K E wa))(hb:PE X b (tX .P X.K E wb))(hm:behindInMarks op b=false):PT X (.Compare a [op] [b] pos) (tT X.K E (dTst (dOp rD wa wb))):=by
 refine PT.imp (Qgc (OpR.len ho) ha hb hm) λσ H Q ⟨F,δ,R,EX,rel,hw,k,o⟩=>?_
 refine Qin hd σ H (λx H'=>∃k,x=.bl k/\Q k H') ⟨F,δ,_,EX,rel,hw,λd hd2 v H' rel' kp vk=>?_,o⟩;split at hd2
 ·rename_i b
  have:v=.bl b:=by cases vk.1;rfl
  exact⟨b,this,k b hd2 H' rel' kp⟩
 ·exact hd2.elim
def tru:Qa->Bool
 |.none=>false
 |.bool b=>b
 |.int i=>i != 0
 |.str y=>(y.length:Int) != 0
 |.list ds => !ds.isEmpty
 |.tuple ds => !ds.isEmpty
 |.dict ds => !ds.isEmpty
def strOk:Qa->Prop
 |.str y=>y.length<=sizeLine
 |_=>True
def dTru(w:DE):DT:=λδ Q EX=>w δ (λd=>strOk d/\Q (tru d)) EX
theorem Qwd{K:PySem.W.Frag}{A P:Addr->Prop}{H:Hp}{v:V}{d:Qa}(h:DP A P H v d)(hs:strOk d):QAZ K v H (tru d):=by
 have sq:∀{xs:List V}{ds:List Qa},DAs A H xs ds->(!ds.isEmpty) = !xs.isEmpty:=λq=>by cases q<;>rfl
 rcases h with h | ⟨l,xs,ds,rfl,rfl,_,e,q⟩
 ·cases h with
  |non=>rfl
  |bl b=>rfl
  |int i=>rfl
  |str x c=>exact⟨hs,rfl⟩
  |@tup a xs ds n e q=>exact .inr (.inl ⟨xs,SqT.of e,sq q⟩)
  |@lst a xs ds n e q=>exact .inl ⟨xs,SqL.of e,sq q⟩
  |@dct a kvs ds n e q=>subst q;exact .inr (.inr ⟨dkV kvs,e,by cases kvs<;>rfl⟩)
 ·exact .inl ⟨xs,SqL.of e,sq q⟩
theorem QtY{e:QV}{w:DE}(h:PE X e (tX .P X.K E w))(he:∀whole,isTrue e X.env whole=(do let v <- whole;standAt e.pos;holding [v] (truthy v))):PT X e (tT X.K E (dTru w)):=by
 refine PT.imp (Qo4 h he) λσ H Q ⟨F,δ,R,EX,rel,hw,k,o⟩=>?_
 exact⟨F,δ,_,EX,rel,hw,λd ⟨hs,hq⟩ v H' rel' kp vk=>⟨tru d,Qwd vk hs,k _ hq H' rel' kp⟩,o⟩
theorem QtX{e:QV}{w:DE}(h:PE X e (tX .P X.K E w))(he:∀whole,isTrue e X.env whole=(do let v <- whole;standAt e.pos;holding [v] (truthy v)):=by intro _;rfl):PT X e (tT X.K E (dTst w)):=by
 refine PT.imp (QwX h he) λσ H Q ⟨F,δ,R,EX,rel,hw,k,o⟩=>?_
 refine⟨F,δ,_,EX,rel,hw,λd hd v H' rel' kp vk=>?_,o⟩;split at hd
 ·exact⟨_,DP.bool vk,k _ hd H' rel' kp⟩
 ·exact hd.elim
def QBJ(wa wb:DT):DT:=λδ Q EX=>wa δ (λc=>if c=true then wb δ Q EX else Q false) EX
def dOr(wa wb:DT):DT:=λδ Q EX=>wa δ (λc=>if c=true then Q true else wb δ Q EX) EX
def QBA(wa:DT):DT:=λδ Q EX=>wa δ (λc=>Q (!c)) EX
theorem Qcl{c:Prop}[Decidable c]{p q p' q':Prop}(h:if c then p else q)(h1:p->p')(h2:q->q'):if c then p' else q':=by
 split at h
 ·rw[if_pos (by assumption)];exact h1 h
 ·rw[if_neg (by assumption)];exact h2 h
variable{rest:List QV}{ta tb:DT}
theorem Qpe(ha:PT X a (tT X.K E ta)):PW X (.BoolOp .And [a] pos) (tT X.K E ta):=QtG ha
theorem QtV(ha:PT X a (tT X.K E ta)):PW X (.BoolOp .Or [a] pos) (tT X.K E ta):=QwV ha
theorem QtW(ha:PT X a (tT X.K E ta))(hb:PW X (.BoolOp .And (b::rest) pos) (tT X.K E tb)):PW X (.BoolOp .And (a::b::rest) pos) (tT X.K E (QBJ ta tb)):=by
 refine PW.imp (QwW ha hb) λσ H Q ⟨F,δ,R,EX,rel,hw,k,o⟩=>?_
 refine⟨F,δ,_,EX,rel,hw,λc hc H' rel' kp=>?_,o⟩;exact Qcl hc (λz=>⟨F,δ,R,EX,rel',z,λc hc H2 rel2 kp2=>k c hc H2 rel2 (kp.trans kp2),o⟩) λz=>k _ z H' rel' kp
theorem Qw6(ha:PT X a (tT X.K E ta))(hb:PW X (.BoolOp .Or (b::rest) pos) (tT X.K E tb)):PW X (.BoolOp .Or (a::b::rest) pos) (tT X.K E (dOr ta tb)):=by
 refine PW.imp (Qz2 ha hb) λσ H Q ⟨F,δ,R,EX,rel,hw,k,o⟩=>?_
 refine⟨F,δ,_,EX,rel,hw,λc hc H' rel' kp=>?_,o⟩;exact Qcl hc (λz=>k _ z H' rel' kp) (λz=>⟨F,δ,R,EX,rel',z,λc hc H2 rel2 kp2=>k c hc H2 rel2 (kp.trans kp2),o⟩)
theorem QtZ(ha:PT X a (tT X.K E ta)):PT X (.UnaryOp .Not a pos) (tT X.K E (QBA ta)):=by
 refine PT.imp (QwY ha) λσ H Q ⟨F,δ,R,EX,rel,hw,k,o⟩=>?_
 exact⟨F,δ,_,EX,rel,hw,λc hc H' rel' kp=>k _ hc H' rel' kp,o⟩
def Qyn(wa wb:DE):DE:=λδ Q EX=>wa δ (λd=>match d with
 |.bool c=>if c=true then wb δ Q EX else Q (.bool false)
 |_=>False) EX
def QBz(wa wb:DE):DE:=λδ Q EX=>wa δ (λd=>match d with
 |.bool c=>if c=true then Q (.bool true) else wb δ Q EX
 |_=>False) EX
def Qyi(wa:DE):DE:=λδ Q EX=>wa δ (λd=>match d with
 |.bool c=>Q (.bool (!c))
 |_=>False) EX
theorem Qxa{op}{w:DE}(h:PE X a (tX .D X.K E w)):PE X (.BoolOp op [a] pos) (tX .D X.K E w):=Qw3 h
theorem Qxi(ha:PE X a (tX .P X.K E wa))(hb:PE X (.BoolOp .And (b::rest) pos) (tX .D X.K E wb)):PE X (.BoolOp .And (a::b::rest) pos) (tX .D X.K E (Qyn wa wb)):=by
 refine PE.imp (Qw5 ha hb) λσ H Q ⟨F,δ,R,EX,rel,hw,k,o⟩=>?_
 refine⟨F,δ,_,EX,rel,hw,λd hd v H' rel' kp vk=>?_,o⟩;split at hd
 ·exact⟨_,DP.bool vk,Qcl hd (λz=>⟨F,δ,R,EX,rel',z,λd hd v H2 rel2 kp2=>k d hd v H2 rel2 (kp.trans kp2),o⟩) λz=>k _ z _ H' rel' kp (.bl _)⟩
 ·exact hd.elim
theorem QAc(ha:PE X a (tX .P X.K E wa))(hb:PE X (.BoolOp .Or (b::rest) pos) (tX .D X.K E wb)):PE X (.BoolOp .Or (a::b::rest) pos) (tX .D X.K E (QBz wa wb)):=by
 refine PE.imp (Qz8 ha hb) λσ H Q ⟨F,δ,R,EX,rel,hw,k,o⟩=>?_
 refine⟨F,δ,_,EX,rel,hw,λd hd v H' rel' kp vk=>?_,o⟩;split at hd
 ·exact⟨_,DP.bool vk,Qcl hd (λz=>k _ z _ H' rel' kp (.bl _)) (λz=>⟨F,δ,R,EX,rel',z,λd hd v H2 rel2 kp2=>k d hd v H2 rel2 (kp.trans kp2),o⟩)⟩
 ·exact hd.elim
theorem Qxb(ha:PE X a (tX .P X.K E wa)):PE X (.UnaryOp .Not a pos) (tX .D X.K E (Qyi wa)):=by
 refine PE.imp (Qw4 ha) λσ H Q ⟨F,δ,R,EX,rel,hw,k,o⟩=>?_
 refine⟨F,δ,_,EX,rel,hw,λd hd v H' rel' kp vk=>?_,o⟩;split at hd
 ·exact⟨_,DP.bool vk,k _ hd _ H' rel' kp (.bl _)⟩
 ·exact hd.elim
def QBF(t:DT)(wa wb:DE):DE:=λδ Q EX=>t δ (λc=>if c=true then wa δ Q EX else wb δ Q EX) EX
theorem Qxf{c:QV}(hc:PT X c (tT X.K E ta))(ha:PE X a (tX .D X.K E wa))(hb:PE X b (tX .D X.K E wb)):PE X (.IfExp c a b pos) (tX .D X.K E (QBF ta wa wb)):=by
 refine PE.imp (Qpb hc ha hb) λσ H Q ⟨F,δ,R,EX,rel,hw,k,o⟩=>?_
 refine⟨F,δ,_,EX,rel,hw,λd hd H' rel' kp=>?_,o⟩;exact Qcl hd (λz=>⟨F,δ,R,EX,rel',z,λd hd v H2 rel2 kp2=>k d hd v H2 rel2 (kp.trans kp2),o⟩) (λz=>⟨F,δ,R,EX,rel',z,λd hd v H2 rel2 kp2=>k d hd v H2 rel2 (kp.trans kp2),o⟩)
end
theorem Qc1{A:Addr->Prop}{H H':Hp}{l:Addr}{xs:List V}{ds:List Qa}(dm:∀a,A a->∃xs,H a=some (.lst xs))(s:Same H H')(n:H l=none)(e:H' l=some (.lst xs))(q:DAs A H xs ds):DA A H' (.ref l) (.list ds):=
 .lst (λz=>by obtain⟨ys,e'⟩:=dm l z;rw[n] at e';cases e') e (q.same s)
theorem Qg0{A:Addr->Prop}{H H':Hp}{l:Addr}{xs:List V}{ds:List Qa}(dm:∀a,A a->∃xs,H a=some (.lst xs))(s:Same H H')(e:H' l=some (.tup xs))(q:DAs A H xs ds):DA A H' (.ref l) (.tuple ds):=
 .tup (λz=>by obtain⟨ys,e'⟩:=dm l z;rw[s _ _ e'] at e;cases e) e (q.same s)
theorem Qao{H H':Hp}{l:Addr}(n:H l=none):FrV H H' (.ref l):=λl' e _=>by cases e;exact n
theorem QeI{H H':Hp}{l:Addr}{xs:List V}(e:H' l=some (.tup xs)):FrV H H' (.ref l):=λl' e1 ⟨ys,e2⟩=>by cases e1;rw[e] at e2;cases e2
theorem Yg{H H':Hp}{i:Int}:FrV H H' (.int i):=λl' e _=>by cases e
theorem Qas{H H':Hp}{i:Bool}:FrV H H' (.bl i):=λl' e _=>by cases e
theorem Qu7{H H':Hp}:FrV H H' .non:=λl' e _=>by cases e
theorem DAs.rep{A:Addr->Prop}{H:Hp}{xs:List V}{ds:List Qa}(q:DAs A H xs ds):∀k:Nat,DAs A H (Ji k xs).flatten (Ji k ds).flatten
 |0=>.nil
 |k+1=>by rw[Zk,Zk,Z8,Z8];exact q.app (DAs.rep q k)
def QCh:Qa->Qa->(Qa->Prop)->Prop
 |.int i,.int j,Q=>Q (.int (i+j))
 |.tuple a,.tuple b,Q=>a.length+b.length<=1000000/\Q (.tuple (a++b))
 |.list a,.list b,Q=>a.length+b.length<=1000000/\Q (.list (a++b))
 |_,_,_=>False
def iiD(C:Int->Int->Prop)(f:Int->Int->Qa):Qa->Qa->(Qa->Prop)->Prop
 |.int i,.int j,Q=>C i j/\Q (f i j)
 |_,_,_=>False
def ii0(f:Int->Int->Qa):Qa->Qa->(Qa->Prop)->Prop
 |.int i,.int j,Q=>Q (f i j)
 |_,_,_=>False
def QB6:Qa->Qa->(Qa->Prop)->Prop
 |.int i,.int j,Q=>(CMul i j∨CMulB i j)/\Q (.int (i*j))
 |.list a,.int k,Q=>(k<1000000 /\ -1000000<k/\a.length*k.toNat<=1000000)/\Q (.list (Ji k.toNat a).flatten)
 |_,_,_=>False
theorem Qht:1000000<=sizeLine:=by show 1000000<=2^24;decide
section
variable{X:Cx}{E:XK}
theorem QmO{C:Int->Int->Prop}{g:Int->Int->Int}:OpD (rI C λi j=>.int (g i j)) (iiD C λi j=>.int (g i j)):=λA P H x y d1 d2 R Q ln dm hx hy h k=>by
 cases d1<;>cases d2<;>first | exact h.elim | skip
 rw[hx.int,hy.int];exact⟨_,_,rfl,rfl,h.1,k _ h.2 _ H (Same.refl H) (.int _) Yg⟩
theorem QdN{g:Int->Int->Int}:OpD (rI0 λi j=>.int (g i j)) (ii0 λi j=>.int (g i j)):=λA P H x y d1 d2 R Q ln dm hx hy h k=>by
 cases d1<;>cases d2<;>first | exact h.elim | skip
 rw[hx.int,hy.int];exact⟨_,_,rfl,rfl,k _ h _ H (Same.refl H) (.int _) Yg⟩
theorem Qc0{g:Int->Int->Bool}:OpD (rI0 λi j=>.bl (g i j)) (ii0 λi j=>.bool (g i j)):=λA P H x y d1 d2 R Q ln dm hx hy h k=>by
 cases d1<;>cases d2<;>first | exact h.elim | skip
 rw[hx.int,hy.int];exact⟨_,_,rfl,rfl,k _ h _ H (Same.refl H) (.bl _) Qas⟩
def rAdd:R2:=λx y H Q=>(rI0 (λi j=>.int (i+j)) x y H Q∨QwO x y H Q)∨QBl x y H Q
theorem Z4:OpR X (binaryOp .Add) rAdd:=OpR.or2 (OpR.or2 Qfv Qut) Qxv
theorem Y4:OpD rAdd QCh:=λA P H x y d1 d2 R Q ln dm hx hy h k=>by
 cases d1<;>cases d2<;>first | exact h.elim | skip
 ·rw[hx.int,hy.int];exact .inl (.inl ⟨_,_,rfl,rfl,k _ h _ H (Same.refl H) (.int _) Yg⟩)
 ·obtain⟨l1,xs,rfl,e1,q1⟩:=hx.list;obtain⟨l2,ys,rfl,e2,q2⟩:=hy.list;refine .inr ⟨l1,l2,xs,ys,rfl,rfl,e1,e2,QU (by rw[q1.length,q2.length];exact h.1) Qht,λp hp=>?_⟩;exact k _ h.2 _ _ (JI hp) (Qc1 dm (JI hp) hp Jy (q1.app q2)) (Qao hp)
 ·obtain⟨l1,xs,rfl,e1,q1⟩:=hx.tuple;obtain⟨l2,ys,rfl,e2,q2⟩:=hy.tuple;refine .inl (.inr ⟨l1,l2,xs,ys,rfl,rfl,e1,e2,QU (by rw[q1.length,q2.length];exact h.1) Qht,λp H' s e=>?_⟩);exact k _ h.2 _ _ s (Qg0 dm s e (q1.app q2)) (QeI e)
def QwL:R2:=λx y H Q=>(rI CMul (λi j=>.int (i*j)) x y H Q∨rI CMulB (λi j=>.int (i*j)) x y H Q)∨QBc x y H Q
theorem QmA:OpR X (binaryOp .Mult) QwL:=OpR.or2 (OpR.or2 Qfu Qun) Qxn
theorem Qse:OpD QwL QB6:=λA P H x y d1 d2 R Q ln dm hx hy h k=>by
 cases d1<;>cases d2<;>first | exact h.elim | skip
 ·rw[hx.int,hy.int];rcases h.1 with c | c
  ·exact .inl (.inl ⟨_,_,rfl,rfl,c,k _ h.2 _ H (Same.refl H) (.int _) Yg⟩)
  ·exact .inl (.inr ⟨_,_,rfl,rfl,c,k _ h.2 _ H (Same.refl H) (.int _) Yg⟩)
 ·obtain⟨l1,xs,rfl,e1,q1⟩:=hx.list;rw[hy.int];obtain⟨⟨h1,h2,h3⟩,h4⟩:=h;refine .inr ⟨l1,_,xs,rfl,rfl,e1,by omega,by omega,QU (by rw[q1.length];exact h3) Qht,λp hp=>?_⟩;exact k _ h4 _ _ (JI hp) (Qc1 dm (JI hp) hp Jy (q1.rep _)) (Qao hp)
def eqD:Qa->Qa->(Qa->Prop)->Prop
 |.int i,.int j,Q=>Q (.bool (decide (i=j)))
 |.bool i,.bool j,Q=>Q (.bool (decide (i=j)))
 |.str i,.str j,Q=>Q (.bool (decide (i=j)))
 |a,b,Q=>(nd a=true/\nd b=true/\(a.depth<=50∨b.depth<=50))/\Q (.bool (QX a b))
def neD:Qa->Qa->(Qa->Prop)->Prop
 |.int i,.int j,Q=>Q (.bool (!decide (i=j)))
 |.bool i,.bool j,Q=>Q (.bool (!decide (i=j)))
 |.str i,.str j,Q=>Q (.bool (!decide (i=j)))
 |a,b,Q=>(nd a=true/\nd b=true/\(a.depth<=50∨b.depth<=50))/\Q (.bool (!QX a b))
theorem QxH{a b:Qa}(h:a.depth<=50∨b.depth<=50):min a.depth b.depth<=50:=by rcases h with h | h<;>omega
def QBk(u:Nat):R2:=λx y H Q=>rEq x y H Q∨QBj u x y H Q
def QBe(u:Nat):R2:=λx y H Q=>rNe x y H Q∨QBd u x y H Q
theorem Qck:OpR X (compareOp .Eq) (QBk X.A.units):=OpR.or2 QAj Qxt
theorem Qcj:OpR X (compareOp .NotEq) (QBe X.A.units):=OpR.or2 QAi Qxo
theorem Qx9{i j:Int}:decide (V.int i=V.int j)=decide (i=j):=by
 by_cases h:i=j
 ·subst h;simp
 ·rw[decide_eq_false h,decide_eq_false (λz=>h (V.int.inj z))]
theorem Qya{i j:Bool}:decide (V.bl i=V.bl j)=decide (i=j):=by
 by_cases h:i=j
 ·subst h;simp
 ·rw[decide_eq_false h,decide_eq_false (λz=>h (V.bl.inj z))]
theorem Qx8{i j:Str}:decide (V.str i=V.str j)=decide (i=j):=by
 by_cases h:i=j
 ·subst h;simp
 ·rw[decide_eq_false h,decide_eq_false (λz=>h (V.str.inj z))]
theorem Qe9{u:Nat}(hu:u+60<cLine):OpD (QBk u) eqD:=λA P H x y d1 d2 R Q ln dm hx hy h k=>by
 unfold eqD at h;split at h
 ·rw[hx.int,hy.int];exact .inl ⟨rfl,k (.bool (decide (V.int _=V.int _))) (by rw[Qx9];exact h) _ H (Same.refl H) (.bl _) Qas⟩
 ·rw[hx.bool,hy.bool];exact .inl ⟨rfl,k (.bool (decide (V.bl _=V.bl _))) (by rw[Qya];exact h) _ H (Same.refl H) (.bl _) Qas⟩
 ·rw[hx.str.1,hy.str.1];exact .inl ⟨rfl,k (.bool (decide (V.str _=V.str _))) (by rw[Qx8];exact h) _ H (Same.refl H) (.bl _) Qas⟩
 ·obtain⟨⟨n1,n2,dp⟩,hR⟩:=h;have:=QxH dp;exact .inr ⟨_,_,hx.dat n1,hy.dat n2,by omega,k _ hR _ H (Same.refl H) (.bl _) Qas⟩
theorem Qe8{u:Nat}(hu:u+60<cLine):OpD (QBe u) neD:=λA P H x y d1 d2 R Q ln dm hx hy h k=>by
 unfold neD at h;split at h
 ·rw[hx.int,hy.int];exact .inl ⟨rfl,k (.bool (!decide (V.int _=V.int _))) (by rw[Qx9];exact h) _ H (Same.refl H) (.bl _) Qas⟩
 ·rw[hx.bool,hy.bool];exact .inl ⟨rfl,k (.bool (!decide (V.bl _=V.bl _))) (by rw[Qya];exact h) _ H (Same.refl H) (.bl _) Qas⟩
 ·rw[hx.str.1,hy.str.1];exact .inl ⟨rfl,k (.bool (!decide (V.str _=V.str _))) (by rw[Qx8];exact h) _ H (Same.refl H) (.bl _) Qas⟩
 ·obtain⟨⟨n1,n2,dp⟩,hR⟩:=h;have:=QxH dp;exact .inr ⟨_,_,hx.dat n1,hy.dat n2,by omega,k _ hR _ H (Same.refl H) (.bl _) Qas⟩
def QtA(u:Nat)(neg:Bool):R2:=λx y H Q=>∃c ps ds d,y=.ref c/\H c=some (.lst ps)/\Dats H ps ds/\Dat H x d/\u+d.depth<cLine/\Q (.bl (if neg then !(ds.any λe=>QX e d) else ds.any λe=>QX e d)) H
theorem Qup:OpR X (compareOp .In) (QtA X.A.in1.units false):=by
 intro pins s σ H x y v u Q I rx ry h;obtain⟨c,ps,ds,d,rfl,hc,qs,qx,hu,q⟩:=h;cases ry;obtain⟨⟨as,ra⟩,ca⟩:=Yk I.hok d x v qx rx;obtain⟨its,rv,pl,hz⟩:=I.list (SqL.of hc);obtain⟨⟨bs,rb⟩,cb⟩:=Qae I.hok ds ps its qs rv;refine SeqAt.in_listAt (eqH s.heap d) pl.isList (λw hw=>QeB ra ca rb cb hu w (Qca.mp hw)) ⟨.bl _,H,I,rfl,?_⟩;rw[show its.toArray.any (eqH s.heap d)=its.any (eqH s.heap d) by simp,QeU rb cb];exact q
theorem Qkv:OpR X (compareOp .NotIn) (QtA X.A.in1.units true):=by
 intro pins s σ H x y v u Q I rx ry h;obtain⟨c,ps,ds,d,rfl,hc,qs,qx,hu,q⟩:=h;cases ry;obtain⟨⟨as,ra⟩,ca⟩:=Yk I.hok d x v qx rx;obtain⟨its,rv,pl,hz⟩:=I.list (SqL.of hc);obtain⟨⟨bs,rb⟩,cb⟩:=Qae I.hok ds ps its qs rv;refine Qob (eqH s.heap d) pl.isList (λw hw=>QeB ra ca rb cb hu w (Qca.mp hw)) ⟨.bl _,H,I,rfl,?_⟩;rw[show its.toArray.any (eqH s.heap d)=its.any (eqH s.heap d) by simp,QeU rb cb];exact q
def inD(neg:Bool)(d:Qa):Qa->(Qa->Prop)->Prop
 |.list ds,Q=>(nds ds=true/\nd d=true/\d.depth<=50)/\Q (.bool (if neg then !(ds.any λe=>QX e d) else ds.any λe=>QX e d))
 |.tuple ds,Q=>(nds ds=true/\nd d=true/\d.depth<=50)/\Q (.bool (if neg then !(ds.any λe=>QX e d) else ds.any λe=>QX e d))
 |_,_=>False
def QzW(u:Nat)(neg:Bool):R2:=λx y H Q=>QzV u neg x y H Q∨QtA u neg x y H Q
theorem QdM:OpR X (compareOp .In) (QzW X.A.in1.units false):=OpR.or2 Qxr Qup
theorem QbH:OpR X (compareOp .NotIn) (QzW X.A.in1.units true):=OpR.or2 Qmy Qkv
theorem Qdt{u:Nat}{neg:Bool}(hu:u+60<cLine):OpD (QzW u neg) (inD neg):=λA P H x y d1 d2 R Q ln dm hx hy h k=>by
 cases d2<;>first | exact h.elim | skip
 ·obtain⟨l,xs,rfl,e,q⟩:=hy.list;obtain⟨⟨n1,n2,n3⟩,hR⟩:=h;exact .inr ⟨l,xs,_,d1,rfl,e,QaW _ _ n1 q,hx.dat n2,by omega,k _ hR _ H (Same.refl H) (.bl _) Qas⟩
 ·obtain⟨l,xs,rfl,e,q⟩:=hy.tuple;obtain⟨⟨n1,n2,n3⟩,hR⟩:=h;exact .inl ⟨l,xs,_,d1,rfl,e,QaW _ _ n1 q,hx.dat n2,by omega,k _ hR _ H (Same.refl H) (.bl _) Qas⟩
def ixD:Qa->Qa->(Qa->Prop)->Prop
 |.list ds,.int i,Q=>∃d,atI ds i=some d/\Q d
 |.tuple ds,.int i,Q=>∃d,atI ds i=some d/\Q d
 |_,_,_=>False
theorem QsK{A:Addr->Prop}{H:Hp}{xs:List V}{ds:List Qa}{i:Int}{d:Qa}(q:DAs A H xs ds)(h:atI ds i=some d):∃v,atI xs i=some v/\DA A H v d:=by
 unfold atI at h ⊢;rw[q.length];cases e:ixN ds.length i with
 |none=>rw[e] at h;cases h
 |some j=>
  rw[e] at h;exact q.get j d h
def QBh(K:PySem.W.Frag):R2:=λx y H Q=>QyS K x y H Q∨QBg K x y H Q
theorem JF:IxR X (QBh X.K):=IxR.or2 Qgl Qsm
theorem Zh{K:PySem.W.Frag}:Qry (QBh K) ixD:=λA P H x y d1 d2 R Q ln dm hx hy h k=>by
 cases d1<;>cases d2<;>first | exact h.elim | skip
 ·obtain⟨l,xs,rfl,e,q⟩:=hx.list;obtain⟨d,hd,hR⟩:=h;obtain⟨v,hv,dv⟩:=QsK q hd;rw[hy.int];exact .inl ⟨l,xs,_,v,rfl,rfl,SqL.of e,hv,k d hR v H (Same.refl H) dv⟩
 ·obtain⟨l,xs,rfl,e,q⟩:=hx.tuple;obtain⟨d,hd,hR⟩:=h;obtain⟨v,hv,dv⟩:=QsK q hd;rw[hy.int];exact .inr ⟨l,xs,_,v,rfl,rfl,SqT.of e,hv,k d hR v H (Same.refl H) dv⟩
def dUn(rD:Qa->(Qa->Prop)->Prop)(wa:DE):DE:=λδ Q EX=>wa δ (λd=>rD d Q) EX
def QBn:Qa->(Qa->Prop)->Prop
 |.int i,Q=>Q (.int (-i))
 |_,_=>False
variable{a b c:QV}{wa wb wc:DE}{pos:Pos}
theorem Qxc(ha:PE X a (tX .P X.K E wa)):PE X (.UnaryOp .USub a pos) (tX .F X.K E (dUn QBn wa)):=by
 refine PE.imp (Qz7 Qv9 ha) λσ H Q ⟨F,δ,R,EX,rel,hw,k,o⟩=>?_
 refine⟨F,δ,_,EX,rel,hw,λd hd v H' rel' kp vk=>?_,o⟩;cases d<;>first | exact(show False from hd).elim | skip
 exact⟨_,DP.int vk,k _ hd _ H' rel' kp ⟨.int _,Yg⟩⟩
def dCh(p q:Int->Int->Bool)(wa wb wc:DE):DE:=λδ Q EX=>wa δ (λx=>wb δ (λy=>match x,y with
 |.int i,.int j=>if p i j=true then wc δ (λz=>match z with
  |.int k=>Q (.bool (q j k))
  |_=>False) EX else Q (.bool false)
 |_,_=>False) EX) EX
theorem Qvp{K:PySem.W.Frag}{p q:Int->Int->Bool}(σ:L2.St)(H:Hp)(Q:VK)(h:tX .F K E (dCh p q wa wb wc) σ H Q) :
  QrQ (rI0 λi j=>.bl (p i j)) (rI0 λi j=>.bl (q i j)) (tX .P K E wa) (tX .P K E wb) (tX .P K E wc) σ H Q:=by
 obtain⟨F,δ,R,EX,rel,hw,k,o⟩:=h;refine⟨F,δ,_,EX,rel,hw,λd1 h1 x H1 rel1 kp1 x1=>⟨F,δ,_,EX,rel1,h1,λd2 h2 y H2 rel2 kp2 y2=>?_,o⟩,o⟩;cases d1<;>cases d2<;>first | exact(show False from h2).elim | skip
 rw[DP.int x1,DP.int y2];refine⟨_,_,rfl,rfl,_,rfl,Qcl h2 (λz=>⟨F,δ,_,EX,rel2,z,λd3 h3 v H3 rel3 kp3 v3=>?_,o⟩) λz=>k _ z _ H2 rel2 (kp1.trans kp2) ⟨.bl _,Qas⟩⟩;cases d3<;>first | exact(show False from h3).elim | skip
 rw[DP.int v3];exact⟨_,_,rfl,rfl,k _ h3 _ H3 rel3 ((kp1.trans kp2).trans kp3) ⟨.bl _,Qas⟩⟩
theorem QAe{op op':QsY}{p q:Int->Int->Bool}(ho:OpR X (compareOp op) (rI0 λi j=>.bl (p i j)))(ho':OpR X (compareOp op') (rI0 λi j=>.bl (q i j)))(ha:PE X a (tX .P X.K E wa))(hb:PE X b (tX .P X.K E wb))(hc:PE X c (tX .P X.K E wc))(hm:lastMarks [op,op'] [b,c]=false:=by with_unfolding_all rfl) :
  PE X (.Compare a [op,op'] [b,c] pos) (tX .F X.K E (dCh p q wa wb wc)):=PE.imp (Qpc ho ho' ha hb hc (hm:=hm)) Qvp
def QBB:DAr:=λ_ Q _=>Q []
def Qnu(we:DE)(wr:DAr):DAr:=λδ Q EX=>we δ (λd=>wr δ (λds=>Q (d::ds)) EX) EX
theorem Quc{m:Md}:PA X [] (tAr 0 m X.K E QBB):=PA.imp ZN λσ H Q ⟨F,δ,R,EX,rel,hw,k,o⟩=>k [] hw rfl [] H rel (Kp.refl rel) .nil
theorem QnQ{n:Nat}{m:Md}{K:PySem.W.Frag}{we:DE}{wr:DAr}(hm:∀{F:Fm}{σ:L2.St}{δ:Sts}{H H':Hp}{v:V}{d:Qa},Vok m F σ δ H H' v d->VD m (Av F σ δ) (Yj σ δ) H' v d)(σ:L2.St)(H:Hp)(Q:List V->Hp->Prop)(h:tAr (n+1) m K E (Qnu we wr) σ H Q):Qe5 (tX m K E we) (tAr n m K E wr) σ H Q:=by
 obtain⟨F,δ,R,EX,rel,hw,k,o⟩:=h;refine⟨F,δ,_,EX,rel,hw,λd hd v H' rel' kp vk=>⟨F,δ,_,EX,rel',hd,λds hds hl vs H2 rel2 kp2 vks=>?_,o⟩,o⟩;exact k _ hds (by rw[QQ,hl]) (v::vs) H2 rel2 (kp.trans kp2) (.cons (kp2.vd (hm vk)) vks)
theorem Qms{n:Nat}{e:QV}{es:List QV}{we:DE}{wr:DAr}(he:PE X e (tX .D X.K E we))(hr:PA X es (tAr n .D X.K E wr))(hs:notStar e=true:=by rfl):PA X (e::es) (tAr (n+1) .D X.K E (Qnu we wr)):=PA.imp (QcM he hr hs) (QnQ λh=>h)
theorem Qmr{n:Nat}{e:QV}{es:List QV}{we:DE}{wr:DAr}(he:PE X e (tX .P X.K E we))(hr:PA X es (tAr n .P X.K E wr))(hs:notStar e=true:=by rfl):PA X (e::es) (tAr (n+1) .P X.K E (Qnu we wr)):=PA.imp (QcM he hr hs) (QnQ λh=>h)
theorem Qdr{A P:Addr->Prop}{H:Hp}:∀{vs:List V}{ds:List Qa},Qbf (VD .D A P H) vs ds->DAs A H vs ds
 |_,_,.nil=>.nil
 |_,_,.cons a b=>.cons a (Qdr b)
def QBw(w:DAr):DE:=λδ Q EX=>w δ (λds=>Q (.tuple ds)) EX
def QBC(w:DAr):DE:=λδ Q EX=>w δ (λds=>Q (.list ds)) EX
theorem Qw9{n:Nat}{es:List QV}{w:DAr}{x1}(h:PA X es (tAr n .D X.K E w))(hn:n<=1000:=by decide):PE X (.Tuple es x1 pos) (tX .F X.K E (QBw w)):=by
 refine PE.imp (Qmk h) λσ H Q ⟨F,δ,R,EX,rel,hw,k,o⟩=>?_
 refine⟨F,δ,_,EX,rel,hw,λds hds hl vs H' rel' kp q=>?_,o⟩;have q':=Qdr q;refine⟨by rw[q'.length,hl];exact hn,λa H2 s n e=>k _ hds _ H2 (rel'.same s) (kp.trans (Kp.same rel' s)) ⟨Qg0 (λa ha=>rel'.isl ha) s e q',QeI e⟩⟩
theorem QbK{σ:L2.St}{δ:Sts}{H H':Hp}{l:Addr}(k:Kp σ δ H H')(n:H' l=none):H l=none:=by
 cases e:H l with
 |none=>rfl
 |some ob=>
  by_cases z:Yj σ δ l
  ·obtain⟨m,em⟩:=k.2 l z;rw[em] at n;cases n
  ·rw[k.1 _ _ z e] at n;cases n
theorem Qxd{n:Nat}{es:List QV}{w:DAr}(h:PA X es (tAr n .D X.K E w))(hn:n<=1000:=by decide):PE X (.List es pos) (tX .F X.K E (QBC w)):=by
 refine PE.imp (QtS h) λσ H Q ⟨F,δ,R,EX,rel,hw,k,o⟩=>?_
 refine⟨F,δ,_,EX,rel,hw,λds hds hl vs H' rel' kp q=>?_,o⟩;have q':=Qdr q;refine⟨by rw[q'.length,hl];exact hn,λa H2 s n e=>k _ hds _ H2 (rel'.same s) (kp.trans (Kp.same rel' s)) ⟨Qc1 (λa ha=>rel'.isl ha) s n e q',Qao (QbK kp n)⟩⟩
def Qbs(r:List V->Hp->VK->Prop)(rD:List Qa->(Qa->Prop)->Prop):Prop:=∀(A P:Addr->Prop)(H:Hp)(vs:List V)(ds:List Qa)(R:Qa->Prop)(Q:VK),QcE H->(∀a,A a->∃xs,H a=some (.lst xs))->Qbf (DP A P H) vs ds->rD ds R ->
 (∀d,R d->∀v H',Same H H'->DA A H' v d->FrV H H' v->Q v H')->r vs H Q
def dCB(rD:List Qa->(Qa->Prop)->Prop)(wa:DAr):DE:=λδ Q EX=>wa δ (λds=>rD ds Q) EX
theorem QnC{n:Nat}{K:PySem.W.Frag}{r:List V->Hp->VK->Prop}{rD:List Qa->(Qa->Prop)->Prop}{wa:DAr}(hd:Qbs r rD)(σ:L2.St)(H:Hp)(Q:VK)(h:tX .F K E (dCB rD wa) σ H Q) :
  tCB (λxs H Q=>QcE H->r xs H Q) (tAr n .P K E wa) σ H Q:=by
 obtain⟨F,δ,R,EX,rel,hw,k,o⟩:=h;refine⟨F,δ,_,EX,rel,hw,λds hds hl vs H' rel' kp q ln=>?_,o⟩;refine hd (Av F σ δ) (Yj σ δ) H' vs ds R Q ln (λa ha=>rel'.isl ha) q hds λd hR v H2 s dv fr=>?_
 exact k d hR v H2 (rel'.same s) (kp.trans (Kp.same rel' s)) ⟨dv,λl e1 e2=>QbK kp (fr l e1 e2)⟩
variable{x:Str}{bid T:String}{p:Pos}{e:QV}{es:List QV}{n:Nat}{wr:DAr}{r:List V->Hp->VK->Prop}{rD:List Qa->(Qa->Prop)->Prop}
theorem Qpy(hc:CallR X (.builtin bid) r)(hd:Qbs r rD)(hg:Gl X x)(hm:X.mg x=none)(hv:bootBuiltins x=some (.builtin bid))(ha:PA X (e::es) (tAr n .P X.K E wr))(hn:x ≠ "__name__" := by decide)(hdb:(x == ("__debug__" : Str))=false:=by decide)
  (he:starEach (e::es) X.env=(false,eval e X.env)::starEach es X.env:=by rfl)(hpl:(backTo pos (starEach es X.env)).any (·.1)=false:=by rfl):PE X (.Call (.Name x p) (e::es) [] pos) (tX .F X.K E (dCB rD wr)):=
 PE.imp (QbX (CallR.len hc) hg hm hv ha hn hdb he hpl) (QnC hd)
theorem Qmv(hc:CallR X (.type T) r)(hd:Qbs r rD)(hg:Gl X x)(hm:X.mg x=none)(hv:bootBuiltins x=some (.type T))(ha:PA X (e::es) (tAr n .P X.K E wr))(hn:x ≠ "__name__" := by decide)(hdb:(x == ("__debug__" : Str))=false:=by decide)
  (he:starEach (e::es) X.env=(false,eval e X.env)::starEach es X.env:=by rfl)(hpl:(backTo pos (starEach es X.env)).any (·.1)=false:=by rfl):PE X (.Call (.Name x p) (e::es) [] pos) (tX .F X.K E (dCB rD wr)):=
 PE.imp (QcZ (CallR.len hc) hg hm hv ha hn hdb he hpl) (QnC hd)
theorem pd1{A P:Addr->Prop}{H:Hp}{vs:List V}{d:Qa}(q:Qbf (DP A P H) vs [d]):∃v,vs=[v]/\DP A P H v d:=by
 cases q with
 |cons a b=>cases b;exact⟨_,rfl,a⟩
theorem pd2{A P:Addr->Prop}{H:Hp}{vs:List V}{d d':Qa}(q:Qbf (DP A P H) vs [d,d']):∃v v',vs=[v,v']/\DP A P H v d/\DP A P H v' d':=by
 cases q with
 |cons a b=>cases b with | cons b c=>cases c;exact⟨_,_,rfl,a,b⟩
def QBo:List Qa->(Qa->Prop)->Prop
 |[.list ds],Q=>Q (.int ds.length)
 |[.tuple ds],Q=>Q (.int ds.length)
 |_,_=>False
theorem QaJ{K:PySem.W.Frag}:Qbs (QwN K) QBo:=λA P H vs ds R Q ln dm q h k=>by
 unfold QBo at h;split at h
 ·obtain⟨v,rfl,hv⟩:=pd1 q;obtain⟨l,xs,rfl,e,qq⟩:=hv.list;exact⟨l,xs,rfl,.inl (SqL.of e),by rw[qq.length];exact k _ h _ H (Same.refl H) (.int _) Yg⟩
 ·obtain⟨v,rfl,hv⟩:=pd1 q;obtain⟨l,xs,rfl,e,qq⟩:=hv.tuple;exact⟨l,xs,rfl,.inr (SqT.of e),by rw[qq.length];exact k _ h _ H (Same.refl H) (.int _) Yg⟩
 ·exact h.elim
theorem ZG:CallR X (.builtin "len") (QwN X.K):=QbO
def QuS:List Qa->(Qa->Prop)->Prop
 |[.int i,.int j],Q=>Q (.int (if j<i then j else i))
 |_,_=>False
def QxI:List Qa->(Qa->Prop)->Prop
 |[.int i,.int j],Q=>Q (.int (if j > i then j else i))
 |_,_=>False
theorem QnB:Qbs (λxs H Q=>∃i j,xs=[.int i,.int j]/\Q (.int (if j<i then j else i)) H) QuS:=λA P H vs ds R Q ln dm q h k=>by
 unfold QuS at h;split at h
 ·obtain⟨v,v',rfl,h1,h2⟩:=pd2 q;rw[h1.int,h2.int];exact⟨_,_,rfl,k _ h _ H (Same.refl H) (.int _) Yg⟩
 ·exact h.elim
theorem Qvs:Qbs (λxs H Q=>∃i j,xs=[.int i,.int j]/\Q (.int (if j > i then j else i)) H) QxI:=λA P H vs ds R Q ln dm q h k=>by
 unfold QxI at h;split at h
 ·obtain⟨v,v',rfl,h1,h2⟩:=pd2 q;rw[h1.int,h2.int];exact⟨_,_,rfl,k _ h _ H (Same.refl H) (.int _) Yg⟩
 ·exact h.elim
def QbP:List Qa->Option (List Bool)
 |[]=>some []
 |.bool b::ds=>(QbP ds).map (b::·)
 |_::_=>none
def QaY:List Qa->Option (List Int)
 |[]=>some []
 |.int b::ds=>(QaY ds).map (b::·)
 |_::_=>none
theorem QnL(bs:List Bool):QbP (bs.map Qbu)=some bs:=by
 induction bs with
 |nil=>rfl
 |cons b bs ih=>rw[Js,QbP,ih];rfl
theorem ints_map(bs:List Int):QaY (bs.map Qi)=some bs:=by
 induction bs with
 |nil=>rfl
 |cons b bs ih=>rw[Js,QaY,ih];rfl
theorem bools_eq:∀{ds:List Qa}{bs:List Bool},QbP ds=some bs->ds=bs.map Qbu
 |[],bs,h=>by cases h;rfl
 |d::ds,bs,h=>by
  cases d<;>first | (unfold QbP at h;cases h;done) | skip
  rw[QbP] at h;obtain⟨cs,h1,rfl⟩:=Zf.mp h;rw[bools_eq h1];rfl
theorem Qdw:∀{ds:List Qa}{bs:List Int},QaY ds=some bs->ds=bs.map Qi
 |[],bs,h=>by cases h;rfl
 |d::ds,bs,h=>by
  cases d<;>first | (unfold QaY at h;cases h;done) | skip
  rw[QaY] at h;obtain⟨cs,h1,rfl⟩:=Zf.mp h;rw[Qdw h1];rfl
theorem QhB{A:Addr->Prop}{H:Hp}:∀{bs:List Bool}{xs:List V},DAs A H xs (bs.map Qbu)->xs=bs.map V.bl
 |[],_,.nil=>rfl
 |b::bs,_,.cons (.bl _) r=>by rw[QhB r];rfl
theorem Qaz{A:Addr->Prop}{H:Hp}:∀{bs:List Int}{xs:List V},DAs A H xs (bs.map Qi)->xs=bs.map V.int
 |[],_,.nil=>rfl
 |b::bs,_,.cons (.int _) r=>by rw[Qaz r];rfl
@[irreducible] def Qy1:List Qa->(Qa->Prop)->Prop
 |[.list ds],Q=>∃bs,QbP ds=some bs/\Q (.bool (bs.all id))
 |_,_=>False
theorem QfG{K:PySem.W.Frag}{cm:Bool}(hc:cm=true):Qbs (λxs H Q=>∃(p:Addr)(bs:List Bool),xs=[.ref p]/\SqL K H p (bs.map V.bl)/\cm=true/\Q (.bl (bs.all id)) H) Qy1:=λA P H vs ds R Q ln dm q h k=>by
 unfold Qy1 at h;split at h
 ·obtain⟨v,rfl,hv⟩:=pd1 q;obtain⟨bs,hb,hR⟩:=h;rw[bools_eq hb] at hv;obtain⟨l,xs,rfl,e,qq⟩:=hv.list;rw[QhB qq] at e;exact⟨l,bs,rfl,SqL.of e,hc,k _ hR _ H (Same.refl H) (.bl _) Qas⟩
 ·exact h.elim
@[irreducible] def QyR:List Qa->(Qa->Prop)->Prop
 |[.list ds],Q=>∃ns,QaY ds=some ns/\Q (.int ns.sum)
 |_,_=>False
theorem QsD{K:PySem.W.Frag}:Qbs (QwG K) QyR:=λA P H vs ds R Q ln dm q h k=>by
 unfold QyR at h;split at h
 ·obtain⟨v,rfl,hv⟩:=pd1 q;obtain⟨bs,hb,hR⟩:=h;rw[Qdw hb] at hv;obtain⟨l,xs,rfl,e,qq⟩:=hv.list;rw[Qaz qq] at e;exact⟨l,bs,rfl,SqL.of e,k _ hR _ H (Same.refl H) (.int _) Yg⟩
 ·exact h.elim
def QrN:List Qa->(Qa->Prop)->Prop
 |[.list ds],Q=>Q (.tuple ds)
 |[.tuple ds],Q=>Q (.tuple ds)
 |_,_=>False
def QxL:List Qa->(Qa->Prop)->Prop
 |[.list ds],Q=>Q (.list ds)
 |[.tuple ds],Q=>Q (.list ds)
 |_,_=>False
theorem QaA{K:PySem.W.Frag}:Qbs (Ql5 K) QrN:=λA P H vs ds R Q ln dm q h k=>by
 unfold QrN at h;split at h
 ·obtain⟨v,rfl,hv⟩:=pd1 q;obtain⟨l,xs,rfl,e,qq⟩:=hv.list;exact⟨l,xs,rfl,.inl ⟨SqL.of e,λl' H' s n e'=>k _ h _ H' s (Qg0 dm s e' qq) (QeI e')⟩⟩
 ·obtain⟨v,rfl,hv⟩:=pd1 q;obtain⟨l,xs,rfl,e,qq⟩:=hv.tuple;exact⟨l,xs,rfl,.inr ⟨SqT.of e,k _ h _ H (Same.refl H) (Qg0 dm (Same.refl H) e qq) (QeI e)⟩⟩
 ·exact h.elim
theorem Qvt{K:PySem.W.Frag}:Qbs (Ql8 K) QxL:=λA P H vs ds R Q ln dm q h k=>by
 unfold QxL at h;split at h
 ·obtain⟨v,rfl,hv⟩:=pd1 q;obtain⟨l,xs,rfl,e,qq⟩:=hv.list;exact⟨l,xs,rfl,.inl (SqL.of e),λl' H' s n e'=>k _ h _ H' s (Qc1 dm s n e' qq) (Qao n)⟩
 ·obtain⟨v,rfl,hv⟩:=pd1 q;obtain⟨l,xs,rfl,e,qq⟩:=hv.tuple;exact⟨l,xs,rfl,.inr (SqT.of e),λl' H' s n e'=>k _ h _ H' s (Qc1 dm s n e' qq) (Qao n)⟩
 ·exact h.elim
def intD:List Qa->(Qa->Prop)->Prop
 |[.int i],Q=>Q (.int i)
 |[.bool k],Q=>Q (.int (if k then 1 else 0))
 |_,_=>False
theorem Qys:Qbs QzU intD:=λA P H vs ds R Q ln dm q h k=>by
 unfold intD at h;split at h
 ·obtain⟨v,rfl,hv⟩:=pd1 q;rw[hv.int];exact .inl ⟨_,rfl,k _ h _ H (Same.refl H) (.int _) Yg⟩
 ·obtain⟨v,rfl,hv⟩:=pd1 q;rw[hv.bool];exact .inr ⟨_,rfl,k _ h _ H (Same.refl H) (.int _) Yg⟩
 ·exact h.elim
end
section
variable{X:Cx}{E:XK}
inductive Tn where | int | bool | str | tuple | list
def Tn.s:Tn->String
 |.int => "int"
 |.bool => "bool"
 |.str => "str"
 |.tuple => "tuple"
 |.list => "list"
def isT:Tn->Qa->Bool
 |.int,.int _=>true
 |.int,.bool _=>true
 |.bool,.bool _=>true
 |.str,.str _=>true
 |.tuple,.tuple _=>true
 |.list,.list _=>true
 |_,_=>false
theorem Qu1{K:PySem.W.Frag}{A P:Addr->Prop}{H:Hp}{v:V}{d:Qa}(tn:Tn)(h:DP A P H v d):∃t,TyOf K H v t/\PySem.W.kitOne K t (.type tn.s)=some (isT tn d):=by
 rcases h with h | ⟨l,xs,ds,rfl,rfl,_,e,q⟩
 ·cases h with
  |non=>exact⟨_,.non,by cases tn<;>rfl⟩
  |bl b=>exact⟨_,.bl _,by cases tn<;>rfl⟩
  |int i=>exact⟨_,.int _,by cases tn<;>rfl⟩
  |str x c=>exact⟨_,.str _,by cases tn<;>rfl⟩
  |tup n e q=>exact⟨_,.tup e,by cases tn<;>rfl⟩
  |lst n e q=>exact⟨_,.lst e,by cases tn<;>rfl⟩
  |dct n e q=>exact⟨_,.dK e,by cases tn<;>rfl⟩
 ·exact⟨_,.lst e,by cases tn<;>rfl⟩
def Qyl(tn:Tn)(we:DE):DE:=λδ Q EX=>we δ (λd=>Q (.bool (isT tn d))) EX
theorem Quf{e f:QV}{we:DE}{p pos:Pos}(tn:Tn)(hg:Gl X "isinstance")(hm:X.mg "isinstance" = none)(he:PE X e (tX .P X.K E we))(hf:PE X f (tC (.ty tn.s)))(h1:notStar e=true:=by rfl)(h2:notStar f=true:=by rfl) :
  PE X (.Call (.Name "isinstance" p) [e,f] [] pos) (tX .F X.K E (Qyl tn we)):=by
 refine PE.imp (QbX QiJ hg hm QgA (QcM he (QcM hf ZN h2) h1) (he:=ZD h1) (hpl:=by rw[ZD h2];rfl)) λσ H Q ⟨F,δ,R,EX,rel,hw,k,o⟩=>?_
 refine⟨F,δ,_,EX,rel,hw,λd hd v H' rel' kp vk=>?_,o⟩;obtain⟨t,ty,et⟩:=Qu1 (K:=X.K) tn vk;exact⟨v,t,tn.s,_,rfl,ty,et,k _ hd _ H' rel' kp ⟨.bl _,Qas⟩⟩
theorem QAg{x:Str}{pos:Pos}(tn:Tn)(hg:Gl X x)(hm:X.mg x=none)(hv:bootBuiltins x=some (.type tn.s))(hn:x ≠ "__name__" := by decide)(hd:(x == ("__debug__" : Str))=false:=by decide):PE X (.Name x pos) (tC (.ty tn.s)):=QtU (v:=.ty tn.s) hg hm hv rfl hn hd
abbrev DO:=Sts->(Option Int->Prop)->XP->Prop
def tO(K:PySem.W.Frag)(E:XK)(w:DO):TO:=λσ H Q=>∃(F:Fm)(δ:Sts)(R:Option Int->Prop)(EX:XP),Rel K F σ H δ/\w δ R EX/\(∀d,R d->∀H',Rel K F σ H' δ->Kp σ δ H H'->Q d H')/\Out F E EX
def dNo:DO:=λ_ Q _=>Q none
def dSo(we:DE):DO:=λδ Q EX=>we δ (λd=>match d with
 |.int i=>Q (some i)
 |_=>False) EX
theorem PO.imp{e:Option QV}{t t':TO}(h:PO X e t)(i:∀σ H Q,t' σ H Q->t σ H Q):PO X e t':=λpins s σ H Q I q=>h pins s σ H Q I (i σ H Q q)
theorem Qpq:PO X none (tO X.K E dNo):=PO.imp QtL λσ H Q ⟨F,δ,R,EX,rel,hw,k,o⟩=>k _ hw H rel (Kp.refl rel)
theorem Qpp{e:QV}{we:DE}(he:PE X e (tX .P X.K E we)):PO X (some e) (tO X.K E (dSo we)):=by
 refine PO.imp (QtK he) λσ H Q ⟨F,δ,R,EX,rel,hw,k,o⟩=>?_
 refine⟨F,δ,_,EX,rel,hw,λd hd v H' rel' kp vk=>?_,o⟩;cases d<;>first | exact(show False from hd).elim | skip
 exact⟨_,DP.int vk,k _ hd H' rel' kp⟩
def cutD(xs:List Qa)(lo hi:Option Int):List Qa:=(xs.drop (HT.sIx xs.length 0 lo)).take (HT.sIx xs.length xs.length hi - HT.sIx xs.length 0 lo)
theorem Qnw{A:Addr->Prop}{H:Hp}{xs:List V}{ds:List Qa}(q:DAs A H xs ds)(lo hi:Option Int):DAs A H (QjX xs lo hi) (cutD ds lo hi):=by
 unfold QjX cutD;rw[q.length];exact(q.drop _).take _
def slD(d:Qa)(lo hi:Option Int)(Q:Qa->Prop):Prop:=
 match d with
 |.list ds=>Q (.list (cutD ds lo hi))
 |.tuple ds=>Q (.tuple (cutD ds lo hi))
 |_=>False
def dSl(we:DE)(wl wh:DO):DE:=λδ Q EX=>we δ (λd=>wl δ (λlo=>wh δ (λhi=>slD d lo hi Q) EX) EX) EX
def QwJ(K:PySem.W.Frag):V->Option Int->Option Int->Hp->VK->Prop:=λx a b H Q=>QBb x a b H Q∨QwI K x a b H Q
theorem Qpw{e:QV}{lo hi:Option QV}{we:DE}{wl wh:DO}{p2 pos:Pos}(he:PE X e (tX .P X.K E we))(hl:PO X lo (tO X.K E wl))(hh:PO X hi (tO X.K E wh)):PE X (.Subscript e (.Slice lo hi none p2) pos) (tX .F X.K E (dSl we wl wh)):=by
 refine PE.imp (Qo9 (r:=QwJ X.K) (SlR.or2 Qwv QoM) he hl hh) λσ H Q ⟨F,δ,R,EX,rel,hw,k,o⟩=>?_
 refine⟨F,δ,_,EX,rel,hw,λd hd v H1 rel1 kp1 vk=>⟨F,δ,_,EX,rel1,hd,λa ha H2 rel2 kp2=>⟨F,δ,_,EX,rel2,ha,λb hb H3 rel3 kp3=>?_,o⟩,o⟩,o⟩;have v3:=kp3.dp (kp2.dp vk);have K3:=(kp1.trans kp2).trans kp3;cases d<;>first | exact(show False from hb).elim | skip
 ·obtain⟨l,xs,rfl,e,q⟩:=DP.list v3;exact .inr ⟨l,xs,rfl,SqL.of e,λp H' s n e'=>k _ hb _ H' (rel3.same s) (K3.trans (Kp.same rel3 s)) ⟨Qc1 (λa ha=>rel3.isl ha) s n e' (Qnw q _ _),Qao (QbK K3 n)⟩⟩
 ·obtain⟨l,xs,rfl,e,q⟩:=DP.tuple v3;exact .inl ⟨l,xs,rfl,e,λp H' s e'=>k _ hb _ H' (rel3.same s) (K3.trans (Kp.same rel3 s)) ⟨Qg0 (λa ha=>rel3.isl ha) s e' (Qnw q _ _),QeI e'⟩⟩
abbrev DF:=List Sl->(Qa->Prop)->XP->Prop
def Kq(pt:Addr->Prop)(H H':Hp):Prop:=(∀b o,¬pt b->H b=some o->H' b=some o)/\∀p,pt p->∃n,H' p=some (.lst [.int n])
def JH(fr:Bool)(f:DF):Sp:=λvs H Q Ex=>∃(A pt:Addr->Prop)(args:List Sl)(R:Qa->Prop)(EX:XP),(∀a,A a->∃xs,H a=some (.lst xs))/\(∀p,pt p->A p/\∃n,H p=some (.lst [.int n]))/\Qbf (QkZ A pt H) vs args/\f args R EX /\
 (∀d,R d->∀v H',Kq pt H H'->DA A H' v d->(fr=true->FrV H H' v)->Q v H')/\∀C,EX C->∀H',Kq pt H H'->Ex (.ref C) none H'
def QBa:DSl:=λ_ Q _=>Q []
def sV(we:DE)(wr:DSl):DSl:=λδ Q EX=>we δ (λd=>wr δ (λds=>Q (.v d::ds)) EX) EX
def QzP(i:Nat)(wr:DSl):DSl:=λδ Q EX=>match δ[i]? with
 |some .pot=>wr δ (λds=>Q (.pot::ds)) EX
 |_=>False
theorem Qt4:PA X [] (tAs X.K E QBa):=PA.imp ZN λσ H Q ⟨F,δ,R,EX,rel,hw,k,o⟩=>k [] hw [] H rel (Kp.refl rel) .nil
theorem QAa{e:QV}{es:List QV}{we:DE}{wr:DSl}(he:PE X e (tX .D X.K E we))(hr:PA X es (tAs X.K E wr))(hs:notStar e=true:=by rfl):PA X (e::es) (tAs X.K E (sV we wr)):=by
 refine PA.imp (QcM he hr hs) λσ H Q ⟨F,δ,R,EX,rel,hw,k,o⟩=>?_
 refine⟨F,δ,_,EX,rel,hw,λd hd v H' rel' kp vk=>⟨F,δ,_,EX,rel',hd,λds hds vs H2 rel2 kp2 vks=>?_,o⟩,o⟩;exact k _ hds (v::vs) H2 rel2 (kp.trans kp2) (.cons (kp2.da vk) vks)
theorem Qt2{e:QV}{es:List QV}{i:Nat}{wr:DSl}(he:PE X e (QhZ i))(hr:PA X es (tAs X.K E wr))(hs:notStar e=true:=by rfl):PA X (e::es) (tAs X.K E (QzP i wr)):=by
 refine PA.imp (QcM he hr hs) λσ H Q ⟨F,δ,R,EX,rel,hw,k,o⟩=>?_
 unfold QzP at hw;split at hw
 ·rename_i hd
  obtain⟨x,hx⟩:=rel.lt hd;obtain⟨p,n,rfl,e,q⟩:=rel.sl i _ _ hx hd;refine⟨.ref p,hx,F,δ,_,EX,rel,hw,λds hds vs H2 rel2 kp2 vks=>?_,o⟩;exact k _ hds (.ref p::vs) H2 rel2 kp2 (.cons ⟨p,rfl,i,hx,hd⟩ vks)
 ·exact hw.elim
def Qnv(f:DF)(wa:DSl):DE:=λδ Q EX=>wa δ (λargs=>f args Q EX) EX
theorem Kq.kp{K:PySem.W.Frag}{F:Fm}{σ:L2.St}{δ:Sts}{H H':Hp}(k:Kq (Yj σ δ) H H'):Kp σ δ H H':=k
theorem QhH{m:Md}{fr:Bool}{K:PySem.W.Frag}{f:DF}{wa:DSl}(hm:∀{F:Fm}{σ:L2.St}{δ:Sts}{H H':Hp}{v:V}{d:Qa},DA (Av F σ δ) H' v d->(fr=true->FrV H H' v)->Vok m F σ δ H H' v d)(σ:L2.St)(H:Hp)(Q:VK)(h:tX m K E (Qnv f wa) σ H Q):Qwo (JH fr f) [] E (tAs K E wa) σ H Q:=by
 obtain⟨F,δ,R,EX,rel,hw,k,o⟩:=h;refine⟨F,δ,_,EX,rel,hw,λargs ha vs H1 rel1 kp1 q=>?_,o⟩;show JH fr f (vs++[]) H1 Q E;rw[Zo];refine⟨Av F σ δ,Yj σ δ,args,R,EX,λa ha=>rel1.isl ha,λp hp=>⟨Qaa hp,(Kp.refl rel1).2 p hp⟩,q,ha,λd hd v H' kq dv fr=>?_,λC hC H' kq=>o C hC H' (rel1.kp kq).ke⟩;exact k d hd v H' (rel1.kp kq) (kp1.trans kq) (hm dv λz l e1 e2=>QbK kp1 (fr z l e1 e2))
variable{CX:CXT}{k:Nat}{f:Addr}{fd:QM}{ps:List Str}{x:Str}{p pos:Pos}{e:QV}{es:List QV}{fD:DF}{wa:DSl}
theorem Qui(G:FnOk X.prog X.w X.K X.mg X.base CX k f fd ps (JH false fD))(hr:Room k X.A)(hg:Gl X x)(hm:X.mg x=some (.ref f))(hk:PySem.W.keepIn X.K (.ref f)=true)(hb:Binds X.K fd ps [])(hx:QeW CX X E)
  (ha:PA X (e::es) (tAs X.K E wa))(hdb:(x == ("__debug__" : Str))=false:=by decide)(he:starEach (e::es) X.env=(false,eval e X.env)::starEach es X.env:=by rfl)(hpl:(backTo pos (starEach es X.env)).any (·.1)=false:=by rfl) :
  PE X (.Call (.Name x p) (e::es) [] pos) (tX .D X.K E (Qnv fD wa)):=PE.imp (Qil G hr hg hm hk hb .nil hx ha hdb he hpl) (QhH λh _=>h)
theorem Qpx(G:FnOk X.prog X.w X.K X.mg X.base CX k f fd ps (JH true fD))(hr:Room k X.A)(hg:Gl X x)(hm:X.mg x=some (.ref f))(hk:PySem.W.keepIn X.K (.ref f)=true)(hb:Binds X.K fd ps [])(hx:QeW CX X E)
  (ha:PA X (e::es) (tAs X.K E wa))(hdb:(x == ("__debug__" : Str))=false:=by decide)(he:starEach (e::es) X.env=(false,eval e X.env)::starEach es X.env:=by rfl)(hpl:(backTo pos (starEach es X.env)).any (·.1)=false:=by rfl) :
  PE X (.Call (.Name x p) (e::es) [] pos) (tX .F X.K E (Qnv fD wa)):=PE.imp (Qil G hr hg hm hk hb .nil hx ha hdb he hpl) (QhH λh z=>⟨h,z rfl⟩)
end
abbrev DG:=Qa->Sts->(Sts->Prop)->Prop
def tG(ix:List Nat)(K:PySem.W.Frag)(w:DG):TG:=λv σ H Q=>∃(F:Fm)(δ:Sts)(d:Qa)(R:Sts->Prop),Rel K F σ H δ/\DA (Av F σ δ) H v d/\w d δ R /\
 ∀δ',R δ'->∀σ',Rel K F σ' H δ'->Stp F σ H δ σ' H δ'->σ'.length=σ.length->(∀j,j∉ix->σ'[j]? = σ[j]?)->Q σ' H
theorem Qaj{α:Type}{l:List α}{i j:Nat}{x:α}(h:j≠i):(l.set i x)[j]? = l[j]? := QaP (QaQ h)
theorem set_eq{α:Type}{l:List α}{i:Nat}{x y:α}(h:(l.set i x)[i]? = some y):y=x:=by
 rw[QrG] at h;simp only[if_true] at h;split at h
 ·exact(QJ h).symm
 ·cases h
theorem QeT{F:Fm}{σ:L2.St}{δ:Sts}{i:Nat}{o:Option V}{d:Qa}{a:Addr}(h:Av F (σ.set i o) (δ.set i (.v d)) a):Av F σ δ a:=by
 rcases h with h | ⟨j,h1,h2⟩
 ·exact .inl h
 ·by_cases z:j=i
  ·subst z;rcases h2 with h2 | ⟨ds,h2⟩<;>cases set_eq h2
  ·rw[Qaj z] at h1 h2;exact .inr ⟨j,h1,h2⟩
theorem Rel.setv{K:PySem.W.Frag}{F:Fm}{σ:L2.St}{H:Hp}{δ:Sts}(r:Rel K F σ H δ){i:Nat}{v:V}{d:Qa}(q:DA (Av F σ δ) H v d):Rel K F (σ.set i (some v)) H (δ.set i (.v d)) where
 len:=by rw[Z7,Z7];exact r.len
 dom:=r.dom
 dom0:=r.dom0
 pt0:=r.pt0
 kx:=r.kx
 sl:=λj o x h1 h2=>by
  have wk:∀{v:V}{d':Qa},DA (Av F σ δ) H v d'->DA (Av F (σ.set i (some v)) (δ.set i (.v d))) H v d':=λh=>h.mv (λ_ _ _ e=>e) λa z=>.inl (QeT z)
  by_cases z:j=i
  ·subst z;cases set_eq h1;cases set_eq h2;exact⟨v,rfl,q.mv (λ_ _ _ e=>e) λa z=>.inl (QeT z)⟩
  ·rw[Qaj z] at h1 h2;have h:=r.sl j o x h1 h2;cases x with
   |no=>trivial
   |v d=>obtain⟨v',e,q'⟩:=h;exact⟨v',e,q'.mv (λ_ _ _ e=>e) λa z=>.inl (QeT z)⟩
   |own ds=>obtain⟨l,xs,e,e2,q',f⟩:=h;exact⟨l,xs,e,e2,q'.mv (λ_ _ _ e=>e) λa z=>.inl (QeT z),f⟩
   |pk ds=>obtain⟨l,xs,e,e2,q',f⟩:=h;exact⟨l,xs,e,e2,q'.mv (λ_ _ _ e=>e) λa z=>.inl (QeT z),f⟩
   |pot=>exact h
   |scr=>exact h
 inj:=λj k a ds h1 h2 ⟨h3,h4⟩=>by
  by_cases z:j=i
  ·subst z;cases set_eq h1
  ·rw[Qaj z] at h1 h2;by_cases z2:k=i
   ·subst z2;rcases h4 with h4 | ⟨ds,h4⟩<;>cases set_eq h4
   ·rw[Qaj z2] at h3 h4;exact r.inj j k a ds h1 h2 ⟨h3,h4⟩
theorem Stp.setv{F:Fm}{σ:L2.St}{H:Hp}{δ:Sts}{i:Nat}{o:Option V}{d:Qa}:Stp F σ H δ (σ.set i o) H (δ.set i (.v d)):=⟨λ_ _ _ e=>e,λa z=>.inl (QeT z)⟩
def gN(i:Nat):DG:=λd δ Q=>Q (δ.set i (.v d))
def Qep:Sts->List Nat->List Qa->Sts
 |δ,i::is,d::ds=>Qep (δ.set i (.v d)) is ds
 |δ,_,_=>δ
def gTN(is:List Nat):DG:=λd δ Q=>match d with
 |.tuple ds=>ds.length=is.length/\Q (Qep δ is ds)
 |_=>False
section
variable{X:Cx}{E:XK}
theorem PG.imp{e:QV}{t t':TG}(h:PG X e t)(i:∀v σ H Q,t' v σ H Q->t v σ H Q):PG X e t':=λpins s σ H v u Q I r q=>h pins s σ H v u Q I r (i v σ H Q q)
theorem Qpv{e:QV}{i:Nat}(h:PG X e (QdY i)):PG X e (tG [i] X.K (gN i)):=PG.imp h λv σ H Q ⟨F,δ,d,R,rel,dv,hw,k⟩=>
 k _ hw _ (rel.setv dv) Stp.setv (Z7 ..) λj hj=>Qaj λz=>hj (by rw[z];exact Qx.mpr rfl)
def gNs:List Nat->TGs
 |[]=>QAJ
 |i::is=>Qrd (QdY i) (gNs is)
theorem QjM{K:PySem.W.Frag}{F:Fm}{H:Hp}{Q:L2.St->Hp->Prop}:∀(is:List Nat)(vs:List V)(ds:List Qa)(σ:L2.St)(δ:Sts),ds.length=is.length->Rel K F σ H δ->DAs (Av F σ δ) H vs ds ->
  (∀σ',Rel K F σ' H (Qep δ is ds)->Stp F σ H δ σ' H (Qep δ is ds)->σ'.length=σ.length->(∀j,j∉is->σ'[j]? = σ[j]?)->Q σ' H)->gNs is vs σ H Q
 |[],vs,ds,σ,δ,hl,rel,q,k=>by
  cases ds with
  |nil=>cases q;exact⟨rfl,k σ rel Stp.refl rfl λ_ _=>rfl⟩
  |cons d ds=>cases hl
 |i::is,vs,ds,σ,δ,hl,rel,q,k=>by
  cases ds with
  |nil=>cases hl
  |cons d ds=>
   cases q with
   |@cons v vs _ _ q qs=>
    refine⟨v,vs,rfl,?_⟩;refine QjM is vs ds _ _ (by simpa using hl) (rel.setv q) (qs.mv (λ_ _ _ e=>e) λa z=>.inl (QeT z)) λσ' r' st hl' hj=>?_
    refine k σ' r' (Stp.setv.trans st) (by rw[hl',Z7]) λj hn=>?_
    rw[hj j (λz=>hn (J4 _ z)),Qaj (λz=>hn (by rw[z];exact ZR))]
theorem Qub{e:QV}{n:Nat}{is:List Nat}(h:PG X e (QAI X.K n (gNs is)))(hn:is.length=n:=by rfl):PG X e (tG is X.K (gTN is)):=PG.imp h λv σ H Q ⟨F,δ,d,R,rel,dv,hw,k⟩=>by
 unfold gTN at hw;split at hw
 ·obtain⟨hl,hR⟩:=hw;cases dv with
  |@tup a xs ds na e q=>
   exact⟨a,xs,rfl,SqT.of e,by rw[q.length,hl,hn],QjM is xs _ σ δ hl rel q λσ' r' st hl' hj=>k _ hR σ' r' st hl' hj⟩
 ·exact hw.elim
def ItD(A S:Addr->Prop)(J:It)(items:List Qa)(H1:Hp):Prop:=items.length<=sizeLine/\∀(H2:Hp)(A':Addr->Prop),(∀b o,S b->H1 b=some o->H2 b=some o)->(∀b,A' b->A b∨H1 b=none)->(∀a,A' a->∃xs,H2 a=some (.lst xs)) ->
 (∀(i:Nat) d,items[i]? = some d->J.go i H2/\∀x H3,J.yld i H2 x H3->Same H2 H3/\DA A' H3 x d)/\J.stop items.length H2
def Sx(m:Md)(F:Fm)(σ:L2.St)(δ:Sts)(b:Addr):Prop:=
 match m with
 |.P=>¬Yj σ δ b
 |_=>¬Av F σ δ b
abbrev DI:=Sts->(List Qa->Prop)->XP->Prop
def tI(m:Md)(K:PySem.W.Frag)(E:XK)(w:DI):TI:=λσ H R=>∃(F:Fm)(δ:Sts)(R':List Qa->Prop)(EX:XP),Rel K F σ H δ/\w δ R' EX/\(∀items,R' items->∀J H',Rel K F σ H' δ->Kp σ δ H H'->ItD (Av F σ δ) (Sx m F σ δ) J items H'->R J H')/\Out F E EX
theorem PI.imp{tg e:QV}{t t':TI}(h:PI X tg e t)(i:∀σ H R,QcE H->t' σ H R->t σ H R):PI X tg e t':=λpins s σ H R I q=>h pins s σ H R I (i σ H R (Inv.lens I) q)
theorem PI.len{tg e:QV}{t:TI}(h:PI X tg e t):PI X tg e (λσ H R=>t σ H λJ H1=>QcE H1->R J H1):=λpins s σ H R I q=>by
 refine thn (h pins s σ H _ I q) λv s1 h1=>thn h1 λitv s2 h2=>?_
 obtain⟨it,fp,tn,J,H',e,I',T,t0,fo,hR⟩:=h2;exact⟨it,fp,tn,J,H',e,I',T,t0,fo,hR (Inv.lens I')⟩
def QBE(w:DE):DI:=λδ Q EX=>w δ (λd=>match d with
 |.list ds=>Q ds
 |_=>False) EX
def QBD(w:DE):DI:=λδ Q EX=>w δ (λd=>match d with
 |.tuple ds=>Q ds
 |_=>False) EX
theorem QaU{A S:Addr->Prop}{H H2:Hp}{A':Addr->Prop}{xs:List V}{ds:List Qa}(sA:∀b,¬A b->S b)(k:∀b o,S b->H b=some o->H2 b=some o)(m:∀b,A' b->A b∨H b=none)(q:DAs A H xs ds):DAs A' H2 xs ds:=q.mv (λa o n e=>k a o (sA a n) e) m
theorem QAv{K:PySem.W.Frag}{A S:Addr->Prop}{H:Hp}{l:Addr}{xs:List V}{ds:List Qa}(sA:∀b,¬A b->S b)(sl:S l)(e:H l=some (.lst xs))(q:DAs A H xs ds)(ln:xs.length<=sizeLine):ItD A S (Itl K l) ds H:=by
 refine⟨by rw[<- q.length];exact ln,λH2 A' k m dm=>⟨λi d hd=>?_,xs,SqL.of (k _ _ sl e),by rw[q.length];exact Qg _⟩⟩;obtain⟨x,hx,dx⟩:=(QaU sA k m q).get i d hd;refine⟨⟨xs,x,SqL.of (k _ _ sl e),hx⟩,λy H3 ⟨e3,hy⟩=>?_⟩;subst e3;have:=hy xs (SqL.of (k _ _ sl e));rw[hx] at this;cases this;exact⟨Same.refl _,dx⟩
theorem QAt{K:PySem.W.Frag}{A S:Addr->Prop}{H:Hp}{l:Addr}{xs:List V}{ds:List Qa}(sA:∀b,¬A b->S b)(sl:S l)(e:H l=some (.tup xs))(q:DAs A H xs ds)(ln:xs.length<=sizeLine):ItD A S (Itt K l) ds H:=by
 refine⟨by rw[<- q.length];exact ln,λH2 A' k m dm=>⟨λi d hd=>?_,xs,SqT.of (k _ _ sl e),by rw[q.length];exact Qg _⟩⟩;obtain⟨x,hx,dx⟩:=(QaU sA k m q).get i d hd;refine⟨⟨xs,x,SqT.of (k _ _ sl e),hx⟩,λy H3 ⟨e3,hy⟩=>?_⟩;subst e3;have:=hy xs (SqT.of (k _ _ sl e));rw[hx] at this;cases this;exact⟨Same.refl _,dx⟩
theorem Qe6{m:Md}{F:Fm}{σ:L2.St}{δ:Sts}{b:Addr}(h:¬Av F σ δ b):Sx m F σ δ b:=by
 cases m
 ·exact h
 ·exact λz=>h (Qaa z)
 ·exact h
theorem stL{m:Md}{F:Fm}{σ:L2.St}{δ:Sts}{H H':Hp}{v:V}{ds:List Qa}(h:VD m (Av F σ δ) (Yj σ δ) H v (.list ds)):∃l xs,v=.ref l/\Sx m F σ δ l/\H l=some (.lst xs)/\DAs (Av F σ δ) H xs ds:=by
 cases m
 ·cases h with | @lst a xs _ n e q=>exact⟨a,xs,rfl,n,e,q⟩
 ·rcases h with h | ⟨l,xs,ds',rfl,e,n,e2,q⟩
  ·cases h with | @lst a xs _ n e q=>exact⟨a,xs,rfl,Qe6 n,e,q⟩
  ·cases e;exact⟨l,xs,rfl,n,e2,q⟩
 ·cases h with | @lst a xs _ n e q=>exact⟨a,xs,rfl,n,e,q⟩
theorem stT{m:Md}{F:Fm}{σ:L2.St}{δ:Sts}{H H':Hp}{v:V}{ds:List Qa}(h:VD m (Av F σ δ) (Yj σ δ) H v (.tuple ds)):∃l xs,v=.ref l/\Sx m F σ δ l/\H l=some (.tup xs)/\DAs (Av F σ δ) H xs ds:=by
 cases m
 ·cases h with | @tup a xs _ n e q=>exact⟨a,xs,rfl,n,e,q⟩
 ·rcases h with h | ⟨l,xs,ds',rfl,e,n,e2,q⟩
  ·cases h with | @tup a xs _ n e q=>exact⟨a,xs,rfl,Qe6 n,e,q⟩
  ·cases e
 ·cases h with | @tup a xs _ n e q=>exact⟨a,xs,rfl,n,e,q⟩
theorem QdH{m:Md}{F:Fm}{σ:L2.St}{δ:Sts}{H H':Hp}{v:V}{d:Qa}(h:Vok m F σ δ H H' v d):VD m (Av F σ δ) (Yj σ δ) H' v d:=by
 cases m
 ·exact h
 ·exact h
 ·exact h.1
variable{m:Md}{tg e e':QV}{w w':DE}{p pos tpos:Pos}
theorem Qpu(h:PE X e (tX m X.K E w)):PI X tg e (tI m X.K E (QBE w)):=by
 refine PI.imp (PI.len (QtO h)) λσ H R _ ⟨F,δ,R',EX,rel,hw,k,o⟩=>?_
 refine⟨F,δ,_,EX,rel,hw,λd hd v H' rel' kp vk=>?_,o⟩;cases d<;>first | exact(show False from hd).elim | skip
 obtain⟨l,xs,rfl,sl,e,q⟩:=stL (H':=H') (QdH vk);exact⟨l,rfl,⟨xs,SqL.of e⟩,λln=>k _ hd _ H' rel' kp (QAv (λb=>Qe6) sl e q (ln _ _ (.inl e)))⟩
theorem Qua(h:PE X e (tX m X.K E w)):PI X tg e (tI m X.K E (QBD w)):=by
 refine PI.imp (PI.len (Qr8 h)) λσ H R _ ⟨F,δ,R',EX,rel,hw,k,o⟩=>?_
 refine⟨F,δ,_,EX,rel,hw,λd hd v H' rel' kp vk=>?_,o⟩;cases d<;>first | exact(show False from hd).elim | skip
 obtain⟨l,xs,rfl,sl,e,q⟩:=stT (H':=H') (QdH vk);exact⟨l,rfl,⟨xs,SqT.of e⟩,λln=>k _ hd _ H' rel' kp (QAt (λb=>Qe6) sl e q (ln _ _ (.inr e)))⟩
def Qjb(lo:Int)(n:Nat):List Qa:=(Qt n).map λ(i:Nat)=>.int (lo+i)
theorem Qes{lo:Int}{n i:Nat}{d:Qa}(h:(Qjb lo n)[i]? = some d):i<n/\d=.int (lo+i):=by
 unfold Qjb at h;rw[Qv] at h;by_cases z:i<n
 ·rw[Jo z] at h;exact⟨z,(QJ h).symm⟩
 ·rw[Q6 (by rw[Q1];omega)] at h;cases h
theorem Qf8{lo:Int}{n:Nat}:(Qjb lo n).length=n:=by unfold Qjb;rw[Qd,Q1]
theorem QAu{A S:Addr->Prop}{H:Hp}{lo:Int}{n:Nat}(hn:n<=1000000):ItD A S (Itr lo n) (Qjb lo n) H:=by
 refine⟨by rw[Qf8];exact QU hn Qht,λH2 A' k m dm=>⟨λi d hd=>?_,by rw[Qf8];exact Qg _⟩⟩;obtain⟨hi,rfl⟩:=Qes hd;exact⟨hi,λx H3 ⟨e1,e2⟩=>by subst e1 e2;exact⟨Same.refl _,.int _⟩⟩
def Qyg(w:DE):DI:=λδ Q EX=>w δ (λd=>match d with
 |.int j=>(-1000000<=j/\j<=1000000)/\Q (Qjb 0 j.toNat)
 |_=>False) EX
theorem Qpt(hg:Gl X "range")(hm:X.mg "range" = none)(h:PE X e (tX .P X.K E w))(hs:notStar e=true:=by rfl):PI X tg (.Call (.Name "range" p) [e] [] pos) (tI m X.K E (Qyg w)):=by
 refine PI.imp (Qhc hg hm (QcM h ZN hs) (by rw[ZD hs];rfl)) λσ H R _ ⟨F,δ,R',EX,rel,hw,k,o⟩=>?_
 refine⟨F,δ,_,EX,rel,hw,λd hd v H' rel' kp vk=>?_,o⟩;cases d<;>first | exact(show False from hd).elim | skip
 obtain⟨⟨h1,h2⟩,hR⟩:=hd;rw[DP.int vk];exact⟨_,rfl,by omega,by omega,k _ hR _ H' rel' kp (QAu (by omega))⟩
theorem Qgg{A':Addr->Prop}{H2:Hp}{r:Addr}{x y:V}{d d':Qa}(dm:∀a,A' a->∃xs,H2 a=some (.lst xs))(n:H2 r=none)(q:DA A' H2 x d)(q':DA A' H2 y d'):DA A' (upd H2 r (.tup [x,y])) (.ref r) (.tuple [d,d']):=
 .tup (λz=>by obtain⟨xs,e⟩:=dm r z;rw[n] at e;cases e) Jy (.cons (q.same (JI n)) (.cons (q'.same (JI n)) .nil))
def QdA(ds:List Qa):List Qa:=(Qt ds.length).map λ(i:Nat)=>.tuple [.int i,ds.getD i .none]
theorem Qb4{ds:List Qa}{i:Nat}{d:Qa}(h:(QdA ds)[i]? = some d):∃e,ds[i]? = some e/\d=.tuple [.int i,e]:=by
 unfold QdA at h;rw[Qv] at h;by_cases z:i<ds.length
 ·rw[Jo z] at h;refine⟨ds[i],Qf z,?_⟩;rw[<- QJ h];show Yb [.int i,ds.getD i .none]=_;rw[Qo,Qf z];rfl
 ·rw[Q6 (by rw[Q1];omega)] at h;cases h
theorem Qb3{ds:List Qa}:(QdA ds).length=ds.length:=by unfold QdA;rw[Qd,Q1]
def QBH(w:DE):DI:=λδ Q EX=>w δ (λd=>match d with
 |.list ds=>Q (QdA ds)
 |_=>False) EX
def QBG(w:DE):DI:=λδ Q EX=>w δ (λd=>match d with
 |.tuple ds=>Q (QdA ds)
 |_=>False) EX
variable{elts:List QV}
theorem Qmq{x1}(hg:Gl X "enumerate")(hm:X.mg "enumerate" = none)(h:PE X e (tX m X.K E w))(hs:notStar e=true:=by rfl):PI X (.Tuple elts x1 tpos) (.Call (.Name "enumerate" p) [e] [] pos) (tI m X.K E (QBH w)):=by
 refine PI.imp (PI.len (QtP hg hm (QcM h ZN hs) (by rw[ZD hs];rfl))) λσ H R _ ⟨F,δ,R',EX,rel,hw,k,o⟩=>?_
 refine⟨F,δ,_,EX,rel,hw,λd hd v H' rel' kp vk=>?_,o⟩;cases d<;>first | exact(show False from hd).elim | skip
 obtain⟨l,xs,rfl,sl,e,q⟩:=stL (H':=H') (QdH vk);refine⟨l,xs,rfl,e,λln=>k _ hd _ H' rel' kp ⟨by rw[Qb3,<- q.length];exact ln _ _ (.inl e),λH2 A' kk mm dm=>⟨λi d hd'=>?_,xs,kk _ _ sl e,by rw[Qb3,q.length];exact Qg _⟩⟩⟩;obtain⟨d',hd2,rfl⟩:=Qb4 hd';obtain⟨x,hx,dx⟩:=(QaU (S:=Sx m F σ δ) (λb=>Qe6) kk mm q).get i d' hd2;refine⟨⟨xs,x,kk _ _ sl e,hx⟩,λy H3 ⟨r,x',nr,hx',e1,e2⟩=>?_⟩;subst e1 e2;have:=hx' xs (kk _ _ sl e);rw[hx] at this;cases this;exact⟨JI nr,Qgg dm nr (.int _) dx⟩
theorem Qmp{x1}(hg:Gl X "enumerate")(hm:X.mg "enumerate" = none)(h:PE X e (tX m X.K E w))(hs:notStar e=true:=by rfl):PI X (.Tuple elts x1 tpos) (.Call (.Name "enumerate" p) [e] [] pos) (tI m X.K E (QBG w)):=by
 refine PI.imp (PI.len (Qo8 hg hm (QcM h ZN hs) (by rw[ZD hs];rfl))) λσ H R _ ⟨F,δ,R',EX,rel,hw,k,o⟩=>?_
 refine⟨F,δ,_,EX,rel,hw,λd hd v H' rel' kp vk=>?_,o⟩;cases d<;>first | exact(show False from hd).elim | skip
 obtain⟨l,xs,rfl,sl,e,q⟩:=stT (H':=H') (QdH vk);refine⟨l,xs,rfl,e,λln=>k _ hd _ H' rel' kp ⟨by rw[Qb3,<- q.length];exact ln _ _ (.inr e),λH2 A' kk mm dm=>⟨λi d hd'=>?_,xs,kk _ _ sl e,by rw[Qb3,q.length]⟩⟩⟩;obtain⟨d',hd2,rfl⟩:=Qb4 hd';obtain⟨x,hx,dx⟩:=(QaU (S:=Sx m F σ δ) (λb=>Qe6) kk mm q).get i d' hd2;refine⟨⟨xs,x,kk _ _ sl e,hx⟩,λy H3 ⟨r,x',nr,hx',e1,e2⟩=>?_⟩;subst e1 e2;have:=hx' xs (kk _ _ sl e);rw[hx] at this;cases this;exact⟨JI nr,Qgg dm nr (.int _) dx⟩
def Qj9(ds es:List Qa):List Qa:=QcF (λd e=>.tuple [d,e]) ds es
theorem zip_get{ds es:List Qa}{i:Nat}{d:Qa}(h:(Qj9 ds es)[i]? = some d):∃a b,ds[i]? = some a/\es[i]? = some b/\d=.tuple [a,b]:=by
 unfold Qj9 at h;rw[List.getElem?_zipWith] at h;cases h1:ds[i]? with
 |none=>rw[h1] at h;cases h
 |some a=>
  cases h2:es[i]? with
  |none=>rw[h1,h2] at h;cases h
  |some b=>rw[h1,h2] at h;exact⟨a,b,rfl,rfl,(QJ h).symm⟩
theorem QfS{ds es:List Qa}:(Qj9 ds es).length=min ds.length es.length:=by unfold Qj9;rw[Qod]
def QBv(w w':DE):DI:=λδ Q EX=>w δ (λd=>w' δ (λd'=>match d,d' with
 |.list ds,.list es=>Q (Qj9 ds es)
 |_,_=>False) EX) EX
def QBu(w w':DE):DI:=λδ Q EX=>w δ (λd=>w' δ (λd'=>match d,d' with
 |.tuple ds,.tuple es=>Q (Qj9 ds es)
 |_,_=>False) EX) EX
theorem Qps{x1}(hg:Gl X "zip")(hm:X.mg "zip" = none)(h:PE X e (tX m X.K E w))(h':PE X e' (tX m X.K E w'))(hs:notStar e=true:=by rfl)(hs':notStar e'=true:=by rfl):PI X (.Tuple elts x1 tpos) (.Call (.Name "zip" p) [e,e'] [] pos) (tI m X.K E (QBv w w')):=by
 refine PI.imp (PI.len (QtN hg hm (QcM h (QcM h' ZN hs') hs) (by rw[ZD hs,ZD hs'];rfl) (hs2:=by rw[ZD hs'];rfl))) λσ H R _ ⟨F,δ,R',EX,rel,hw,k,o⟩=>?_
 refine⟨F,δ,_,EX,rel,hw,λd hd v H1 rel1 kp1 vk=>⟨F,δ,_,EX,rel1,hd,λd2 hd2 v2 H2 rel2 kp2 vk2=>?_,o⟩,o⟩;cases d<;>cases d2<;>first | exact(show False from hd2).elim | skip
 obtain⟨l,xs,rfl,sl,e,q⟩:=stL (H':=H2) (kp2.vd (QdH vk));obtain⟨l2,ys,rfl,sl2,e2,q2⟩:=stL (H':=H2) (QdH vk2);refine⟨l,l2,xs,ys,rfl,e,e2,λln=>k _ hd2 _ H2 rel2 (kp1.trans kp2) ⟨?_,λH3 A' kk mm dm=>⟨λi d hd'=>?_,xs,ys,kk _ _ sl e,kk _ _ sl2 e2,by rw[QfS,q.length,q2.length];omega⟩⟩⟩
 ·rw[QfS,<- q.length];exact QU (QvW _ _) (ln _ _ (.inl e))
 obtain⟨a,b,ha,hb,rfl⟩:=zip_get hd';obtain⟨x,hx,dx⟩:=(QaU (S:=Sx m F σ δ) (λb=>Qe6) kk mm q).get i a ha;obtain⟨y,hy,dy⟩:=(QaU (S:=Sx m F σ δ) (λb=>Qe6) kk mm q2).get i b hb;refine⟨⟨xs,ys,x,y,kk _ _ sl e,kk _ _ sl2 e2,hx,hy⟩,λz H4 ⟨r,x',y',nr,hx',hy',e1,e3⟩=>?_⟩;subst e1 e3;have h1:=hx' xs (kk _ _ sl e);have h2:=hy' ys (kk _ _ sl2 e2);rw[hx] at h1;rw[hy] at h2;cases h1;cases h2;exact⟨JI nr,Qgg dm nr dx dy⟩
theorem Qpr{x1}(hg:Gl X "zip")(hm:X.mg "zip" = none)(h:PE X e (tX m X.K E w))(h':PE X e' (tX m X.K E w'))(hs:notStar e=true:=by rfl)(hs':notStar e'=true:=by rfl):PI X (.Tuple elts x1 tpos) (.Call (.Name "zip" p) [e,e'] [] pos) (tI m X.K E (QBu w w')):=by
 refine PI.imp (PI.len (Qw0 hg hm (QcM h (QcM h' ZN hs') hs) (by rw[ZD hs,ZD hs'];rfl) (hs2:=by rw[ZD hs'];rfl))) λσ H R _ ⟨F,δ,R',EX,rel,hw,k,o⟩=>?_
 refine⟨F,δ,_,EX,rel,hw,λd hd v H1 rel1 kp1 vk=>⟨F,δ,_,EX,rel1,hd,λd2 hd2 v2 H2 rel2 kp2 vk2=>?_,o⟩,o⟩;cases d<;>cases d2<;>first | exact(show False from hd2).elim | skip
 obtain⟨l,xs,rfl,sl,e,q⟩:=stT (H':=H2) (kp2.vd (QdH vk));obtain⟨l2,ys,rfl,sl2,e2,q2⟩:=stT (H':=H2) (QdH vk2);refine⟨l,l2,xs,ys,rfl,e,e2,λln=>k _ hd2 _ H2 rel2 (kp1.trans kp2) ⟨?_,λH3 A' kk mm dm=>⟨λi d hd'=>?_,xs,ys,kk _ _ sl e,kk _ _ sl2 e2,by rw[QfS,q.length,q2.length];omega⟩⟩⟩
 ·rw[QfS,<- q.length];exact QU (QvW _ _) (ln _ _ (.inr e))
 obtain⟨a,b,ha,hb,rfl⟩:=zip_get hd';obtain⟨x,hx,dx⟩:=(QaU (S:=Sx m F σ δ) (λb=>Qe6) kk mm q).get i a ha;obtain⟨y,hy,dy⟩:=(QaU (S:=Sx m F σ δ) (λb=>Qe6) kk mm q2).get i b hb;refine⟨⟨xs,ys,x,y,kk _ _ sl e,kk _ _ sl2 e2,hx,hy⟩,λz H4 ⟨r,x',y',nr,hx',hy',e1,e3⟩=>?_⟩;subst e1 e3;have h1:=hx' xs (kk _ _ sl e);have h2:=hy' ys (kk _ _ sl2 e2);rw[hx] at h1;rw[hy] at h2;cases h1;cases h2;exact⟨JI nr,Qgg dm nr dx dy⟩
end
def Qvv:Option Sl->Sl
 |some (.v d)=>.v d
 |some (.own ds)=>.pk ds
 |some (.pk ds)=>.pk ds
 |some .pot=>.pot
 |_=>.no
def Qeg(cap:List (Option Nat))(δ:Sts):Sts:=cap.map λo=>match o with
 |none=>.no
 |some j=>Qvv δ[j]?
theorem Qgx{cap:List (Option Nat)}{σ:L2.St}{i:Nat}{o:Option V}(h:(Qc8 cap σ)[i]? = some o):(cap[i]? = some none/\o=none)∨∃j,cap[i]? = some (some j)/\o=(σ[j]?).getD none:=by
 unfold Qc8 at h;rw[Qv] at h;obtain⟨c,hc,rfl⟩:=Zf.mp h;cases c with
 |none=>exact .inl ⟨hc,rfl⟩
 |some j=>exact .inr ⟨j,hc,rfl⟩
theorem Qgy{cap:List (Option Nat)}{δ:Sts}{i:Nat}{x:Sl}(h:(Qeg cap δ)[i]? = some x):(cap[i]? = some none/\x=.no)∨∃j,cap[i]? = some (some j)/\x=Qvv δ[j]? := by
 unfold Qeg at h;rw[Qv] at h;obtain⟨c,hc,rfl⟩:=Zf.mp h;cases c with
 |none=>exact .inl ⟨hc,rfl⟩
 |some j=>exact .inr ⟨j,hc,rfl⟩
theorem QaX{cap:List (Option Nat)}{σ:L2.St}{δ:Sts}{i:Nat}{o:Option V}{x:Sl}(h1:(Qc8 cap σ)[i]? = some o)(h2:(Qeg cap δ)[i]? = some x)(hx:x≠.no):∃(j:Nat)(y:Sl),δ[j]? = some y/\x=Qvv (some y)/\o=(σ[j]?).getD none:=by
 rcases Qgy h2 with⟨_,e⟩ | ⟨j,hj,e⟩
 ·exact absurd e hx
 ·rcases Qgx h1 with⟨z,_⟩ | ⟨j',hj',e'⟩
  ·rw[hj] at z;cases z
  ·rw[hj] at hj';cases hj';cases e2:δ[j]? with
   |none=>rw[e2] at e;exact absurd e hx
   |some y=>exact⟨j,y,e2,by rw[e,e2],e'⟩
theorem QcC{cap:List (Option Nat)}{σ:L2.St}{δ:Sts}{a:Addr}(h:Yj (Qc8 cap σ) (Qeg cap δ) a):Yj σ δ a:=by
 obtain⟨i,h1,h2⟩:=h;obtain⟨j,y,hy,e,eo⟩:=QaX h1 h2 (λz=>by cases z);cases y<;>first | (cases e;done) | skip
 refine⟨j,?_,hy⟩;cases e2:σ[j]? with
 |none=>rw[e2] at eo;cases eo
 |some o'=>rw[e2] at eo;exact congrArg some eo.symm
def inF(A1:Addr->Prop)(cap:List (Option Nat))(σ:L2.St)(δ:Sts)(H:Hp):Fm:=⟨H,A1,Yj (Qc8 cap σ) (Qeg cap δ)⟩
theorem QjI{A1:Addr->Prop}{cap:List (Option Nat)}{σ:L2.St}{δ:Sts}{H:Hp}(h:∀a,Yj σ δ a->A1 a){a:Addr}:Av (inF A1 cap σ δ H) (Qc8 cap σ) (Qeg cap δ) a↔A1 a:=by
 constructor
 ·rintro(z | ⟨i,h1,h2⟩)
  ·exact z
  ·rcases h2 with h2 | ⟨ds,h2⟩
   ·exact h a (QcC ⟨i,h1,h2⟩)
   ·obtain⟨j,y,hy,e,eo⟩:=QaX h1 h2 (λz=>by cases z);cases y<;>cases e
 ·exact .inl
theorem Qm6{K:PySem.W.Frag}{F:Fm}{σ:L2.St}{δ:Sts}{H1 H3:Hp}{A1:Addr->Prop}{cap:List (Option Nat)}(rel:Rel K F σ H1 δ)(hA:∀a,Av F σ δ a->A1 a)(hN:∀a,A1 a->Av F σ δ a∨H1 a=none)
  (dm:∀a,A1 a->∃xs,H3 a=some (.lst xs))(kp:Kp σ δ H1 H3):Rel K (inF A1 cap σ δ H3) (Qc8 cap σ) H3 (Qeg cap δ) where
 len:=by unfold Qc8 Qeg;rw[Qd,Qd]
 dom:=dm
 dom0:=dm
 pt0:=λp hp=>⟨hA p (Qaa (QcC hp)),kp.2 p (QcC hp)⟩
 kx:=λb o _ e=>e
 sl:=λi o x h1 h2=>by
  have iv:∀{a:Addr},Av (inF A1 cap σ δ H3) (Qc8 cap σ) (Qeg cap δ) a->A1 a:=λ{a}=>(QjI λa z=>hA a (Qaa z)).mp
  have mv:∀{v:V}{d:Qa},DA (Av F σ δ) H1 v d->DA (Av (inF A1 cap σ δ H3) (Qc8 cap σ) (Qeg cap δ)) H3 v d:=λq=>q.mv (λa o n e=>kp.1 a o (λz=>n (Qaa z)) e) λa z=>hN a (iv z)
  have mvs:∀{v:List V}{d:List Qa},DAs (Av F σ δ) H1 v d->DAs (Av (inF A1 cap σ δ H3) (Qc8 cap σ) (Qeg cap δ)) H3 v d:=λq=>q.mv (λa o n e=>kp.1 a o (λz=>n (Qaa z)) e) λa z=>hN a (iv z)
  cases x with
  |no=>trivial
  |own ds=>
   obtain⟨j,y,hy,e,eo⟩:=QaX h1 h2 (λz=>by cases z);cases y<;>cases e
  |scr=>
   obtain⟨j,y,hy,e,eo⟩:=QaX h1 h2 (λz=>by cases z);cases y<;>cases e
  |v d=>
   obtain⟨j,y,hy,e,eo⟩:=QaX h1 h2 (λz=>by cases z);cases y<;>first | (cases e;done) | skip
   cases e;obtain⟨x,hx⟩:=rel.lt hy;obtain⟨v,rfl,q⟩:=rel.sl j _ _ hx hy;rw[hx] at eo;exact⟨v,eo,mv q⟩
  |pk ds=>
   obtain⟨j,y,hy,e,eo⟩:=QaX h1 h2 (λz=>by cases z);cases y<;>first | (cases e;done) | skip
   ·cases e;obtain⟨x,hx⟩:=rel.lt hy;obtain⟨l,xs,rfl,e,q,f⟩:=rel.sl j _ _ hx hy;rw[hx] at eo;have np:=rel.own_pot hy hx;exact⟨l,xs,eo,kp.1 _ _ np e,mvs q,xs,kp.1 _ _ np e,λz=>np (QcC z)⟩
   ·cases e;obtain⟨x,hx⟩:=rel.lt hy;obtain⟨l,xs,rfl,e,q,ys,f,f2⟩:=rel.sl j _ _ hx hy;rw[hx] at eo;have np:¬Yj σ δ l:=by
     rintro⟨j,j1,j2⟩;obtain⟨p,m,e1,_,w⟩:=rel.sl j _ _ j1 j2;cases e1;rcases w with w | w
     ·exact f2 w
     ·rw[w] at f;cases f
    exact⟨l,xs,eo,kp.1 _ _ np e,mvs q,xs,kp.1 _ _ np e,λz=>np (QcC z)⟩
  |pot=>
   obtain⟨j,y,hy,e,eo⟩:=QaX h1 h2 (λz=>by cases z);cases y<;>first | (cases e;done) | skip
   obtain⟨x,hx⟩:=rel.lt hy;obtain⟨p,n,rfl,e,q⟩:=rel.sl j _ _ hx hy;rw[hx] at eo;obtain⟨m,em⟩:=kp.2 p ⟨j,hx,hy⟩;have eo':o=some (.ref p):=eo;subst eo';exact⟨p,m,rfl,em,.inl ⟨i,h1,h2⟩⟩
 inj:=λi j a ds h1 h2 _=>by
  obtain⟨j,y,hy,e,eo⟩:=QaX h2 h1 (λz=>by cases z);cases y<;>cases e
theorem Qoz:∀{σ σ':L2.St},σ'.length=σ.length->(∀(i:Nat) v,σ[i]? = some (some v)->σ'[i]? = some (some v))->Wk σ σ'
 |[],[],_,_=>trivial
 |[],_::_,h,_=>by cases h
 |_::_,[],h,_=>by cases h
 |none::a,x::b,h,g=>Qoz (σ:=a) (σ':=b) (by simpa using h) λi v e=>by simpa using g (i+1) v (by simpa using e)
 |some u::a,x::b,h,g=>by
  have h0:=g 0 u rfl;simp only[QiU,Option.some.injEq] at h0;subst h0;exact⟨rfl,Qoz (σ:=a) (σ':=b) (by simpa using h) λi v e=>by simpa using g (i+1) v (by simpa using e)⟩
def Qcy(cap:List (Option Nat))(ix:List Nat):Bool:=ix.all λi=>match cap[i]? with
 |some none=>true
 |_=>false
theorem QsE{cap:List (Option Nat)}{ix:List Nat}(hf:Qcy cap ix=true){σ σ4:L2.St}(hl:σ4.length=(Qc8 cap σ).length)(hj:∀j,j∉ix->σ4[j]? = (Qc8 cap σ)[j]?):Wk (Qc8 cap σ) σ4:=by
 refine Qoz hl λi v e=>?_
 by_cases z:i∈ix
 ·have:=JW.mp hf i z;rcases Qgx e with⟨_,e2⟩ | ⟨j,hj2,_⟩
  ·cases e2
  ·rw[hj2] at this;cases this
 ·rw[hj i z];exact e
def XF:XP:=λ_=>False
@[irreducible] def QiQ(items:List Qa)(wg:DG)(wt:DT)(we:DE)(δ:Sts)(Q:Qa->Prop):Prop:=∃Iv:Nat->List Qa->Prop,Iv 0 [] /\
 (∀(i:Nat) acc d,items[i]? = some d->Iv i acc->wg d δ λδ4=>wt δ4 (λb=>if b=true then we δ4 (λe=>Iv (i+1) (acc++[e])) XF else Iv (i+1) acc) XF)/\∀acc,Iv items.length acc->Q (.list acc)
def dComp(cap:List (Option Nat))(wi:DI)(wg:DG)(wt:DT)(we:DE):DE:=λδ Q EX=>wi δ (λitems=>QiQ items wg wt we (Qeg cap δ) Q) EX
def Qy0:DT:=λ_ Q _=>Q true
section
variable{X:Cx}{E:XK}
theorem Qsc{F:Fm}{E:XK}:Out F E XF:=λ_ z=>z.elim
theorem PTs.imp{es:List QV}{t t':TT}(h:PTs X es t)(i:∀σ H Q,t' σ H Q->t σ H Q):PTs X es t':=λpins s σ H Q I q=>h pins s σ H Q I (i σ H Q q)
theorem Qpg:PTs X [] (tT X.K E Qy0):=PTs.imp QtH λσ H Q ⟨F,δ,R,EX,rel,hw,k,o⟩=>k _ hw H rel (Kp.refl rel)
theorem Qpf{c:QV}{t:DT}(h:PT X c (tT X.K E t)):PTs X [c] (tT X.K E t):=Qme h
theorem Qiv{K:PySem.W.Frag}{A1:Addr->Prop}{cap:List (Option Nat)}{σ σ4:L2.St}{δ δ4:Sts}{H3 H4:Hp}(r:Rel K (inF A1 cap σ δ H3) σ4 H4 δ4)(hk:∀b o,¬Yj σ δ b->H4 b=some o->H3 b=none->False){b:Addr}(h:Yj σ4 δ4 b):Yj σ δ b:=by
 obtain⟨i,h1,h2⟩:=h;obtain⟨p,n,e,hp,w⟩:=r.sl i _ _ h1 h2;cases e;rcases w with w | w
 ·exact QcC w
 ·by_cases z:Yj σ δ b
  ·exact z
  ·exact(hk b _ z hp w).elim
theorem Qlx{K:PySem.W.Frag}{F:Fm}{σ:L2.St}{δ:Sts}{H1 H3:Hp}{cap:List (Option Nat)}{ix:List Nat}{wg:DG}{wt:DT}{A1:Addr->Prop}{x:V}{d:Qa}{inner:L2.St->Hp->(Hp->Prop)->Prop}{kk:Hp->Prop}{T:Sts->Prop}{N:Prop}
  (hf:Qcy cap ix=true)(rel:Rel K F σ H1 δ)(hA:∀a,Av F σ δ a->A1 a)(hN:∀a,A1 a->Av F σ δ a∨H1 a=none)(dm:∀a,A1 a->∃xs,H3 a=some (.lst xs))(kp:Kp σ δ H1 H3)(dx:DA A1 H3 x d)
  (h:wg d (Qeg cap δ) λδ4=>wt δ4 (λb=>if b=true then T δ4 else N) XF)
  (hT:∀σ4 δ4 H5,T δ4->Rel K (inF A1 cap σ δ H3) σ4 H5 δ4->Kp σ δ H3 H5->(∀b,Yj σ4 δ4 b->Yj σ δ b)->inner σ4 H5 kk)(hF:N->∀H5,Kp σ δ H3 H5->kk H5) :
  bOf (Qc8 cap σ) (tG ix K wg) (tT K E0 wt) inner x H3 kk:=by
 have ri:=Qm6 (cap:=cap) rel hA hN dm kp;have iv:∀{a:Addr},Av (inF A1 cap σ δ H3) (Qc8 cap σ) (Qeg cap δ) a->A1 a:=λ{a}=>(QjI λa z=>hA a (Qaa z)).mp
 refine⟨inF A1 cap σ δ H3,Qeg cap δ,d,_,ri,dx.mv (λ_ _ _ e=>e) λa z=>.inl (iv z),h,λδ4 h4 σ4 r4 st4 l4 j4=>⟨QsE hf l4 j4,inF A1 cap σ δ H3,δ4,_,XF,r4,h4,λb hb H5 r5 kp5=>?_,Qsc⟩⟩;have pots:∀{b:Addr},Yj σ4 δ4 b->Yj σ δ b:=λz=>Qiv r4 (λb o _ e1 e2=>by rw[e2] at e1;cases e1) z
 have K5:Kp σ δ H3 H5:=by
  refine⟨λb o n e=>kp5.1 b o (λz=>n (pots z)) e,λb hb=>?_⟩;by_cases z:Yj σ4 δ4 b
  ·exact kp5.2 b z
  ·obtain⟨n,e⟩:=kp.2 b hb;exact⟨n,kp5.1 _ _ z e⟩
 exact Qcl hb (λz=>hT σ4 δ4 H5 z r5 K5 λb=>pots) λz=>hF z H5 K5
structure Lp (σ:L2.St) (δ:Sts) (A1:Addr->Prop) (p:Addr) (H1 H2:Hp) (acc:List Qa):Prop where
 kp:Kp σ δ H1 H2
 at_:∃ys,H2 p=some (.lst ys)/\DAs A1 H2 ys acc
theorem Lp.step{σ:L2.St}{δ:Sts}{A1:Addr->Prop}{p:Addr}{H1 H2 H3:Hp}{acc:List Qa}(hpA:∀a,Yj σ δ a->A1 a)(hpn:¬Yj σ δ p)(h:Lp σ δ A1 p H1 H2 acc)(k:Kp σ δ H2 H3):Lp σ δ A1 p H1 H3 acc:=by
 obtain⟨ys,e,q⟩:=h.at_;exact⟨h.kp.trans k,ys,k.1 _ _ hpn e,q.mv (λa o n e=>k.1 a o (λz=>n (hpA a z)) e) λa z=>.inl z⟩
theorem Qsv{K:PySem.W.Frag}{σ σ4:L2.St}{δ δ4:Sts}{H1 H3 H5:Hp}{cap:List (Option Nat)}{we:DE}{A1:Addr->Prop}{p:Addr}{acc:List Qa}{kk:Hp->Prop}{G:Qa->Prop}
  (hpA:A1 p)(hP:∀a,Yj σ δ a->A1 a)(hp1:H1 p=none)(hpn:¬Yj σ δ p)(lp:Lp σ δ A1 p H1 H5 acc)(hl:acc.length<sizeLine)(r5:Rel K (inF A1 cap σ δ H3) σ4 H5 δ4)(pots:∀b,Yj σ4 δ4 b->Yj σ δ b)
  (h:we δ4 G XF)(hk:∀e,G e->∀H',Lp σ δ A1 p H1 H' (acc++[e])->kk H'):Qyw p (tX .D K E0 we) σ4 H5 kk:=by
 refine⟨inF A1 cap σ δ H3,δ4,G,XF,r5,h,λe he v H6 r6 kp6 dv=>?_,Qsc⟩;have k56:Kp σ δ H5 H6:=by
  refine⟨λb o n e=>kp6.1 b o (λz=>n (pots b z)) e,λb hb=>?_⟩;by_cases z:Yj σ4 δ4 b
  ·exact kp6.2 b z
  ·obtain⟨n,e⟩:=lp.kp.2 b hb;exact⟨n,kp6.1 _ _ z e⟩
 obtain⟨k6,ys,e6,q6⟩:=lp.step hP hpn k56;have up:∀{b:Addr}{o:HO},¬A1 b->H6 b=some o->upd H6 p (.lst (ys++[v])) b=some o:=λ{b o} n e=>by rw[JM (λz=>n (by rw[z];exact hpA))];exact e
 refine⟨ys,e6,by rw[q6.length];exact hl,hk e he _ ⟨⟨λb o n e=>?_,λb hb=>?_⟩,ys++[v],Jy,DAs.app (q6.mv (λ_ _=>up) λa z=>.inl z) (.cons (DA.mv dv (λa o n e=>up (λz=>n (.inl z)) e) λa z=>.inl (.inl z)) .nil)⟩⟩
 ·rw[JM (λz=>by rw[z,hp1] at e;cases e)];exact k6.1 b o n e
 ·rw[JM (λz=>hpn (by rw[<- z];exact hb))];exact k6.2 b hb
theorem Qug{M:List Str}{cap:List (Option Nat)}{elt tg iter:QV}{ifs:List QV}{scope:Y0}{pos:Pos}{ix:List Nat}{wi:DI}{wg:DG}{wt:DT}{we:DE}(hc:X.calm=true)(ok:Qfc X.N X.env.scope M scope cap=true)(hf:Qcy cap ix=true)
  (hi:PI X tg iter (tI .P X.K E wi))(hb:∀cl ex s3 H3 C,PG (blk X M scope cl ex s3 H3 C) tg (tG ix X.K wg)/\PTs (blk X M scope cl ex s3 H3 C) ifs (tT X.K E0 wt)/\PE (blk X M scope cl ex s3 H3 C) elt (tX .D X.K E0 we))
  (hs:∀x,foldedSetIterable iter X.env x=pure x:=by intro _;rfl):PE X (.ListComp elt [⟨tg,iter,ifs,0⟩] scope pos) (tX .F X.K E (dComp cap wi wg wt we)):=by
 refine PE.imp (Qpa hc ok hi hb hs) λσ H Q ⟨F,δ,R,EX,rel,hw,k,o⟩=>?_
 refine⟨F,δ,_,EX,rel,hw,λitems hC J H1 rel1 kp1 ⟨ln,it⟩ p hp=>?_,o⟩;unfold QiQ at hC;obtain⟨Iv,i0,step,fin⟩:=hC;have hpn:¬Yj σ δ p:=λz=>by obtain⟨xs,e⟩:=rel1.isl (Qaa (F:=F) z);rw[hp] at e;cases e
 let A1:Addr->Prop:=λa=>Av F σ δ a∨a=p
 have hP:∀a,Yj σ δ a->A1 a:=λa z=>.inl (Qaa z)
 have hN:∀a,A1 a->Av F σ δ a∨H1 a=none:=λa z=>z.elim .inl λz=>.inr (by rw[z];exact hp)
 have dmK:∀{H2:Hp},Kp σ δ H1 H2->(∃ys,H2 p=some (.lst ys))->∀a,A1 a->∃xs,H2 a=some (.lst xs):=λ{H2} k2 e2 a z=>by
  rcases z with z | z
  ·exact(rel1.kp k2).isl z
  ·rw[z];exact e2
 refine QeE items.length (λi H2=>i<=items.length/\∃acc,Iv i acc/\acc.length<=i/\Lp σ δ A1 p H1 H2 acc) ⟨Jc _,[],i0,Qg _,Kp.same rel1 (JI hp),[],Jy,.nil⟩ (λi H2 hi ⟨_,acc,iv,hl,lp⟩=>?_) λH2 ⟨_,acc,iv,hl,lp⟩=>?_
 ·obtain⟨k2,ys,e2,q2⟩:=lp;obtain⟨go,_⟩:=it H2 A1 (λb o n e=>k2.1 b o n e) hN (dmK k2 ⟨ys,e2⟩);have hd:items[i]? = some items[i]:=Qf hi;obtain⟨g1,g2⟩:=go i _ hd;refine⟨g1,λx H3 y kk hk=>?_⟩;obtain⟨s3,dx⟩:=g2 x H3 y;have k23:=Kp.same (rel1.kp k2) s3;have lp3:Lp σ δ A1 p H1 H3 acc:=Lp.step hP hpn ⟨k2,ys,e2,q2⟩ k23;refine Qlx hf rel1 (λa z=>.inl z) hN (dmK lp3.kp ⟨ys,s3 _ _ e2⟩) lp3.kp dx (step i acc _ hd iv) (λσ4 δ4 H5 h5 r5 k5 pots=>?_) λh5 H5 k5=>hk _ ⟨hi,acc,h5,by omega,lp3.step hP hpn k5⟩
  exact Qsv (.inr rfl) hP hp hpn (lp3.step hP hpn k5) (by omega) r5 pots h5 λe he H' lp'=>hk _ ⟨hi,acc++[e],he,by rw[Qu];show _+1<=_;omega,lp'⟩
 ·obtain⟨k2,ys,e2,q2⟩:=lp;obtain⟨_,st⟩:=it H2 A1 (λb o n e=>k2.1 b o n e) hN (dmK k2 ⟨ys,e2⟩);refine⟨st,k _ (fin acc iv) (.ref p) H2 (rel1.kp k2) (kp1.trans k2) ⟨.lst (λz=>?_) e2 (q2.mv (λ_ _ _ e=>e) λa z=>.inl (.inl z)),λl e1 _=>?_⟩⟩
  ·obtain⟨xs,e⟩:=rel1.isl z;rw[hp] at e;cases e
  ·cases e1;exact QbK kp1 hp
theorem QkP{items:List Qa}{wg:DG}{wt:DT}{we:DE}{δ:Sts}{Q:Qa->Prop}(G:Qa->Option Qa)
  (h:∀d∈items,∀(k1:Prop)(k2:Qa->Prop),(G d=none->k1)->(∀e,G d=some e->k2 e)->wg d δ λδ4=>wt δ4 (λb=>if b=true then we δ4 k2 XF else k1) XF)(q:Q (.list (items.filterMap G))) :
  QiQ items wg wt we δ Q:=by
 unfold QiQ;refine⟨λi acc=>acc=(items.take i).filterMap G,by simp,λi acc d hd e=>?_,λacc e=>by rw[e,ZQ];exact q⟩;have hs:(items.take (i+1)).filterMap G=(items.take i).filterMap G++(G d).toList:=by
  rw[YF,hd,Qk5];cases e2:G d<;>simp[e2]
 have e:acc=(items.take i).filterMap G:=e;refine h d (Ja hd) _ _ (λe2=>?_) λe' e2=>?_
 ·show acc=(items.take (i+1)).filterMap G;rw[hs,e2,e];simp
 ·show acc++[e']=(items.take (i+1)).filterMap G;rw[hs,e2,e];rfl
theorem Qab{items:List Qa}{wg:DG}{we:DE}{δ:Sts}{Q:Qa->Prop}(G:Qa->Qa)
  (h:∀d∈items,∀(k2:Qa->Prop),k2 (G d)->wg d δ λδ4=>we δ4 k2 XF)(q:Q (.list (items.map G))) :
  QiQ items wg Qy0 we δ Q:=by
 unfold QiQ;refine⟨λi acc=>acc=(items.take i).map G,by simp,λi acc d hd e=>?_,λacc e=>by rw[e,ZQ];exact q⟩;have hs:(items.take (i+1)).map G=(items.take i).map G++[G d]:=by
  rw[YF,hd,Jr];simp
 have e:acc=(items.take i).map G:=e;have hh:=h d (Ja hd) (λe=>acc++[e]=(items.take (i+1)).map G) (by show acc++[G d]=_;rw[hs,e]);simp only[Qy0,if_true];exact hh
end
theorem Qnk:∀{a b:List (Int×Int)},dkV a=dkV b->a=b
 |[],[],_=>rfl
 |[],_::_,h=>by cases h
 |_::_,[],h=>by cases h
 |p::a,q::b,h=>by
  have h:=List.cons.inj (show(QcO p.1,V.int p.2)::dkV a=(QcO q.1,V.int q.2)::dkV b from h);have h1:=JZ h.1;rw[Qnk h.2,QfO (QvT h1.1) (V.int.inj h1.2)]
mutual
theorem Qnr{A B:Addr->Prop}{H:Hp}:∀(d d':Qa)(x:V),DA A H x d->DA B H x d'->d=d'
 |.none,d',_,.non,h=>by cases h;rfl
 |.bool _,d',_,.bl _,h=>by cases h;rfl
 |.int _,d',_,.int _,h=>by cases h;rfl
 |.str _,d',_,.str _ _,h=>by cases h;rfl
 |.tuple ds,d',_,.tup (xs:=xs) n e q,h=>by
  cases h with
  |@tup a ys es n' e' q'=>
   rw[e] at e';cases e';rw[Qgq ds es xs q q']
  |@lst a ys es n' e' q'=>rw[e] at e';cases e'
  |@dct a kvs' ds' n' e' q'=>rw[e] at e';cases e'
 |.list ds,d',_,.lst (xs:=xs) n e q,h=>by
  cases h with
  |@tup a ys es n' e' q'=>rw[e] at e';cases e'
  |@lst a ys es n' e' q'=>
   rw[e] at e';cases e';rw[Qgq ds es xs q q']
  |@dct a kvs' ds' n' e' q'=>rw[e] at e';cases e'
 |.dict _,d',_,.dct (kvs:=kvs) n e q,h=>by
  cases h with
  |@tup a ys es n' e' q'=>rw[e] at e';cases e'
  |@lst a ys es n' e' q'=>rw[e] at e';cases e'
  |@dct a kvs' ds' n' e' q'=>
   rw[e] at e';rw[q,q',Qnk (HO.dK.inj (QJ e'))]
theorem Qgq{A B:Addr->Prop}{H:Hp}:∀(ds es:List Qa)(xs:List V),DAs A H xs ds->DAs B H xs es->ds=es
 |[],es,_,.nil,h=>by cases h;rfl
 |d::ds,es,_,.cons q qs,h=>by
  cases h with
  |@cons x xs e es q' qs'=>rw[Qnr d e _ q q',Qgq ds es _ qs qs']
end
mutual
theorem Qyb{A:Addr->Prop}{H:Hp}{l:Addr}{rs:List Qa}(root:DA A H (.ref l) (.list rs)):∀(d:Qa)(x:V),sizeOf d<sizeOf (Ys rs)->DA A H x d->DA (λa=>A a∨a=l) H x d
 |.none,_,_,.non=>.non
 |.bool _,_,_,.bl _=>.bl _
 |.int _,_,_,.int _=>.int _
 |.str _,_,_,.str _ c=>.str _ c
 |.tuple ds,_,hs,.tup (a:=a) (xs:=xs) n e q=>.tup (λz=>z.elim n λz=>by subst z;cases root with | @lst _ ys _ n' e' q'=>(rw[e] at e';cases e')) e (Qgr root ds xs (by simp at hs ⊢;omega) q)
 |.list ds,_,hs,.lst (a:=a) (xs:=xs) n e q=>.lst (λz=>z.elim n λz=>by
   subst z;have:=Qnr _ _ _ root (.lst n e q);rw[this] at hs;omega) e (Qgr root ds xs (by simp at hs ⊢;omega) q)
 |.dict _,_,hs,.dct (a:=a) n e q=>.dct (λz=>z.elim n λz=>by subst z;cases root with | @lst _ ys _ n' e' q'=>(rw[e] at e';cases e')) e q
theorem Qgr{A:Addr->Prop}{H:Hp}{l:Addr}{rs:List Qa}(root:DA A H (.ref l) (.list rs)):∀(ds:List Qa)(xs:List V),sizeOf ds<sizeOf (Ys rs)->DAs A H xs ds->DAs (λa=>A a∨a=l) H xs ds
 |[],_,_,.nil=>.nil
 |d::ds,_,hs,.cons q qs=>.cons (Qyb root d _ (by simp at hs ⊢;omega) q) (Qgr root ds _ (by simp at hs ⊢;omega) qs)
end
theorem DA.items{A:Addr->Prop}{H:Hp}{l:Addr}{ds:List Qa}(root:DA A H (.ref l) (.list ds)):∃xs,H l=some (.lst xs)/\DAs (λa=>A a∨a=l) H xs ds:=by
 have root':=root;cases root with
 |@lst _ xs _ n e q=>exact⟨xs,e,Qgr root' ds xs (by simp) q⟩
structure QeX where
 nx:Sts->Prop
 rt:Qa->Prop
 rtF:Qa->Prop
 bk:Sts->Prop
 ct:Sts->Prop
 ex:XP
abbrev DS:=QeX->Sts->Prop
structure Nx (K:PySem.W.Frag) (F:Fm) (σ:L2.St) (H:Hp) (δ:Sts) (R:Sts->Prop) (T:L2.St->Hp->Prop):Prop where
 go:∀δ',R δ'->∀σ' H',Rel K F σ' H' δ'->Stp F σ H δ σ' H' δ'->T σ' H'
structure Ends1 (K:PySem.W.Frag) (E:XK) (F:Fm) (σ:L2.St) (H:Hp) (δ:Sts) (DD:QeX) (D:Ends):Prop where
 nx:Nx K F σ H δ DD.nx D.nx
 rt:∀d,DD.rt d->∀v H',Ke F H'->DA F.A0 H' v d->D.rt v H'
 rtF:∀d,DD.rtF d->∀v H',Ke F H'->DA F.A0 H' v d->FrV F.H0 H' v->D.rt v H'
 bk:Nx K F σ H δ DD.bk D.bk
 ct:Nx K F σ H δ DD.ct D.ct
 ex:Out F E DD.ex
def tS(K:PySem.W.Frag)(E:XK)(w:DS):TS:=λD σ H=>∃(F:Fm)(δ:Sts)(DD:QeX),Rel K F σ H δ/\w DD δ/\Ends1 K E F σ H δ DD D
theorem Nx.step{K:PySem.W.Frag}{F:Fm}{σ σ1:L2.St}{H H1:Hp}{δ δ1:Sts}{R:Sts->Prop}{T:L2.St->Hp->Prop}(h:Nx K F σ H δ R T)(s:Stp F σ H δ σ1 H1 δ1):Nx K F σ1 H1 δ1 R T:=⟨λδ' hR σ' H' r st=>h.go δ' hR σ' H' r (s.trans st)⟩
theorem Ends1.step{K:PySem.W.Frag}{E:XK}{F:Fm}{σ σ1:L2.St}{H H1:Hp}{δ δ1:Sts}{DD:QeX}{D:Ends}(h:Ends1 K E F σ H δ DD D)(s:Stp F σ H δ σ1 H1 δ1):Ends1 K E F σ1 H1 δ1 DD D:=⟨h.nx.step s,h.rt,h.rtF,h.bk.step s,h.ct.step s,h.ex⟩
section
variable{X:Cx}{E:XK}
theorem PS.imp{e:ZY}{t t':TS}(h:PS X e t)(i:∀D σ H,t' D σ H->t D σ H):PS X e t':=λpins s σ H D I q=>h pins s σ H D I (i D σ H q)
theorem PSs.imp{e:List ZY}{t t':TS}(h:PSs X e t)(i:∀D σ H,t' D σ H->t D σ H):PSs X e t':=λpins s σ H D I q=>h pins s σ H D I (i D σ H q)
def QBx(a b:DS):DS:=λD δ=>a { D with nx:=b D } δ
def Qyd:DS:=λD δ=>D.nx δ
theorem Qph:PSs X [] (tS X.K E Qyd):=PSs.imp Qik λD σ H ⟨F,δ,DD,rel,hw,en⟩=>en.nx.go δ hw σ H rel Stp.refl
theorem Qt3{st:ZY}{w:DS}(h:PS X st (tS X.K E w)):PSs X [st] (tS X.K E w):=QbF h
theorem Qpn{st:ZY}{rest:List ZY}{w w':DS}(h:PS X st (tS X.K E w))(h':PSs X rest (tS X.K E w')):PSs X (st::rest) (tS X.K E (QBx w w')):=by
 refine PSs.imp (Qai h h') λD σ H ⟨F,δ,DD,rel,hw,en⟩=>?_
 exact⟨F,δ,_,rel,hw,⟨λδ' h' σ' H' r st=>⟨F,δ',DD,r,h',en.step st⟩⟩,en.rt,en.rtF,en.bk,en.ct,en.ex⟩
def QyZ(i:Nat)(we:DE):DS:=λD δ=>we δ (λd=>D.nx (δ.set i (.v d))) D.ex
def Qyf(i:Nat)(we:DE):DS:=λD δ=>we δ (λd=>match d with
 |.list ds=>D.nx (δ.set i (.own ds))
 |_=>False) D.ex
def Qye(i:Nat)(we:DE):DS:=λD δ=>we δ (λd=>match d with
 |.list [.int _]=>D.nx (δ.set i .pot)
 |_=>False) D.ex
variable{i:Nat}{e:QV}{st:ZY}{we wi:DE}
theorem Qim(h:PS X st (QoH (tX .D X.K E we) (QdY i))):PS X st (tS X.K E (QyZ i we)):=by
 refine PS.imp h λD σ H ⟨F,δ,DD,rel,hw,en⟩=>?_
 refine⟨F,δ,_,DD.ex,rel,hw,λd hd v H' rel' kp vk=>?_,en.ex⟩;exact en.nx.go _ hd _ H' (rel'.setv vk) ((Stp.kp kp).trans Stp.setv)
theorem QsJ{F:Fm}{σ:L2.St}{δ:Sts}{i:Nat}{l:Addr}{x:Sl}{a:Addr}(h:Av F (σ.set i (some (.ref l))) (δ.set i x) a):Av F σ δ a∨a=l:=by
 rcases h with h | ⟨j,h1,h2⟩
 ·exact .inl (.inl h)
 ·by_cases z:j=i
  ·subst z;cases set_eq h1;exact .inr rfl
  ·rw[Qaj z] at h1 h2;exact .inl (.inr ⟨j,h1,h2⟩)
theorem Rel.seto{K:PySem.W.Frag}{F:Fm}{σ:L2.St}{H H':Hp}{δ:Sts}{l:Addr}{x:Sl}(r:Rel K F σ H δ)(r':Rel K F σ H' δ)(kp:Kp σ δ H H')(n:H l=none)(hx:∀A:Addr->Prop,(∀a,A a->Av F σ δ a∨H a=none)->(∀a,A a->Av F σ δ a∨a=l)->QBL K F H' A (some (.ref l)) x) :
  Rel K F (σ.set i (some (.ref l))) H' (δ.set i x)/\Stp F σ H δ (σ.set i (some (.ref l))) H' (δ.set i x):=by
 have nA:∀a,Av F (σ.set i (some (.ref l))) (δ.set i x) a->Av F σ δ a∨H a=none:=λa z=>(QsJ z).elim .inl λz=>.inr (by rw[z];exact n)
 have kk:∀a o,¬Av F σ δ a->H a=some o->H' a=some o:=λa o m e=>kp.1 a o (λz=>m (Qaa z)) e
 refine⟨?_,⟨kk,nA⟩⟩;exact{
  len:=by rw[Z7,Z7];exact r.len
  dom:=r'.dom
  dom0:=r'.dom0
  pt0:=r'.pt0
  kx:=r'.kx
  sl:=λj o y h1 h2=>by
   by_cases z:j=i
   ·subst z;cases set_eq h1;cases set_eq h2;exact hx _ nA λa z=>QsJ z
   ·rw[Qaj z] at h1 h2;have h:=r.sl j o y h1 h2;have h':=r'.sl j o y h1 h2;cases y with
    |no=>trivial
    |v d=>obtain⟨v',e,q'⟩:=h;exact⟨v',e,q'.mv kk nA⟩
    |own ds=>obtain⟨l',xs,rfl,e2,q',f⟩:=h;exact⟨l',xs,rfl,kp.1 _ _ (r.own_pot h2 h1) e2,q'.mv kk nA,f⟩
    |pk ds=>
     obtain⟨l',xs,rfl,e2,q',ys,f,f2⟩:=h;refine⟨l',xs,rfl,kp.1 _ _ ?_ e2,q'.mv kk nA,ys,f,f2⟩;rintro⟨j,j1,j2⟩;obtain⟨p,m,e1,_,w⟩:=r.sl j _ _ j1 j2;cases e1;rcases w with w | w
     ·exact f2 w
     ·rw[w] at f;cases f
    |pot=>exact h'
    |scr=>exact h'
  inj:=λj k a ds h1 h2 ⟨h3,h4⟩=>by
   have ne:∀(k:Nat),k≠i->σ[k]? = some (some (.ref l))->(δ[k]? = some .pot∨∃ds,δ[k]? = some (.own ds))->False:=λk _ h3 h4=>by
    obtain⟨xs,e⟩:=r.isl (a:=l) (.inr ⟨k,h3,h4⟩);rw[n] at e;cases e
   by_cases z:j=i
   ·subst z;cases set_eq h2;by_cases z2:k=j
    ·exact z2.symm
    ·rw[Qaj z2] at h3 h4;exact(ne k z2 h3 h4).elim
   ·rw[Qaj z] at h1 h2;by_cases z2:k=i
    ·subst z2;cases set_eq h3;exact(ne j z h2 (.inr ⟨ds,h1⟩)).elim
    ·rw[Qaj z2] at h3 h4;exact r.inj j k a ds h1 h2 ⟨h3,h4⟩ }
theorem Qnd{K:PySem.W.Frag}{F:Fm}{σ:L2.St}{H:Hp}{δ:Sts}(r:Rel K F σ H δ){l:Addr}(n:H l=none):F.H0 l=none:=by
 cases e:F.H0 l with
 |none=>rfl
 |some o=>
  by_cases z:F.pt l
  ·obtain⟨_,m,e'⟩:=r.pt0 l z;rw[n] at e';cases e'
  ·rw[r.kx l o z e] at n;cases n
theorem Qpj(h:PS X st (QoH (tX .F X.K E we) (QdY i))):PS X st (tS X.K E (Qyf i we)):=by
 refine PS.imp h λD σ H ⟨F,δ,DD,rel,hw,en⟩=>?_
 refine⟨F,δ,_,DD.ex,rel,hw,λd hd v H' rel' kp ⟨vk,fr⟩=>?_,en.ex⟩;obtain⟨ds,rfl⟩:∃ds,d=.list ds:=by cases d<;>first | exact⟨_,rfl⟩ | exact(show False from hd).elim
 obtain⟨l,rfl⟩:∃l,v=.ref l:=by cases vk;exact⟨_,rfl⟩
 obtain⟨xs,e,q⟩:=DA.items vk;have n:=fr l rfl ⟨xs,e⟩;obtain⟨r2,st⟩:=rel.seto (i:=i) (x:=.own ds) rel' kp n λA hA hB=>⟨l,xs,rfl,e,q.mv (λ_ _ _ e=>e) λa z=>.inl (hB a z),Qnd rel n⟩
 exact en.nx.go _ hd _ H' r2 st
theorem Qpi(h:PS X st (QoH (tX .F X.K E we) (QdY i))):PS X st (tS X.K E (Qye i we)):=by
 refine PS.imp h λD σ H ⟨F,δ,DD,rel,hw,en⟩=>?_
 refine⟨F,δ,_,DD.ex,rel,hw,λd hd v H' rel' kp ⟨vk,fr⟩=>?_,en.ex⟩;split at hd
 ·cases vk with
  |@lst l xs ds na e q=>
   have n:=fr l rfl ⟨xs,e⟩;cases q with
   |cons q1 q2=>
    cases q1;cases q2;obtain⟨r2,st⟩:=rel.seto (i:=i) (x:=.pot) rel' kp n λA hA hB=>⟨l,_,rfl,e,.inr (Qnd rel n)⟩
    exact en.nx.go _ hd _ H' r2 st
 ·exact hd.elim
def QBI(we:DE)(wg:DG):DS:=λD δ=>we δ (λd=>wg d δ D.nx) D.ex
theorem Qt8{ix:List Nat}{wg:DG}(h:PS X st (QoH (tX .D X.K E we) (tG ix X.K wg))):PS X st (tS X.K E (QBI we wg)):=by
 refine PS.imp h λD σ H ⟨F,δ,DD,rel,hw,en⟩=>?_
 refine⟨F,δ,_,DD.ex,rel,hw,λd hd v H' rel' kp vk=>?_,en.ex⟩;exact⟨F,δ,d,_,rel',vk,hd,λδ' h' σ' r' st' _ _=>en.nx.go _ h' _ H' r' ((Stp.kp kp).trans st')⟩
def QBy(we:DE):DS:=λD δ=>we δ D.rt D.ex
def Qyh(we:DE):DS:=λD δ=>we δ D.rtF D.ex
theorem Qvg{F:Fm}{σ:L2.St}{δ:Sts}{H:Hp}{v:V}{d:Qa}(h:DA (Av F σ δ) H v d):DA F.A0 H v d:=h.mv (λ_ _ _ e=>e) λa z=>.inl (.inl z)
theorem Qt1{e:QV}{pos:Pos}(h:PE X e (tX .D X.K E we)):PS X (.Return (some e) pos) (tS X.K E (QBy we)):=by
 refine PS.imp (QcY h) λD σ H ⟨F,δ,DD,rel,hw,en⟩=>?_
 exact⟨F,δ,_,DD.ex,rel,hw,λd hd v H' rel' kp vk=>en.rt d hd v H' rel'.ke (Qvg vk),en.ex⟩
theorem Qpl{e:QV}{pos:Pos}(h:PE X e (tX .F X.K E we)):PS X (.Return (some e) pos) (tS X.K E (Qyh we)):=by
 refine PS.imp (QcY h) λD σ H ⟨F,δ,DD,rel,hw,en⟩=>?_
 exact⟨F,δ,_,DD.ex,rel,hw,λd hd v H' rel' kp vk=>en.rtF d hd v H' rel'.ke (Qvg vk.1) λl e1 e2=>Qnd rel (vk.2 l e1 e2),en.ex⟩
def Qvh(i:Nat):DS:=λD δ=>match δ[i]? with
 |some (.own ds)=>D.rtF (.list ds)
 |some (.v d)=>D.rt d
 |_=>False
theorem Qpk{e:QV}{pos:Pos}(h:PE X e (QhZ i)):PS X (.Return (some e) pos) (tS X.K E (Qvh i)):=by
 refine PS.imp (QcY h) λD σ H ⟨F,δ,DD,rel,hw,en⟩=>?_
 unfold Qvh at hw;split at hw
 ·rename_i ds hd
  obtain⟨x,hx⟩:=rel.lt hd;obtain⟨l,xs,rfl,e,q,f⟩:=rel.sl i _ _ hx hd;refine⟨_,hx,en.rtF _ hw _ H rel.ke (.lst (λz=>?_) e (q.mv (λ_ _ _ e=>e) λa z=>.inl (.inl z))) λl' e1 _=>by cases e1;exact f⟩;obtain⟨ys,e'⟩:=rel.dom0 l z;rw[f] at e';cases e'
 ·rename_i d hd
  obtain⟨x,hx⟩:=rel.lt hd;obtain⟨v,rfl,q⟩:=rel.sl i _ _ hx hd;exact⟨v,hx,en.rt _ hw _ H rel.ke (Qvg q)⟩
 ·exact hw.elim
def dIf(t:DT)(a b:DS):DS:=λD δ=>t δ (λc=>if c=true then a D δ else b D δ) D.ex
theorem Qw7{c:QV}{a b:List ZY}{pos:Pos}{t:DT}{w w':DS}(hc:PT X c (tT X.K E t))(ha:PSs X a (tS X.K E w))(hb:PSs X b (tS X.K E w')):PS X (.If c a b pos) (tS X.K E (dIf t w w')):=by
 refine PS.imp (QtI hc ha hb) λD σ H ⟨F,δ,DD,rel,hw,en⟩=>?_
 exact⟨F,δ,_,DD.ex,rel,hw,λb hb H' rel' kp=>Qcl hb (λz=>⟨F,δ,DD,rel',z,en.step (Stp.kp kp)⟩) λz=>⟨F,δ,DD,rel',z,en.step (Stp.kp kp)⟩,en.ex⟩
theorem Qmn{sts:List ZY}:PSs X sts (tS X.K E λ_ _=>False):=λpins s σ H D I ⟨F,δ,DD,rel,hw,en⟩=>hw.elim
def QAU(i:Nat)(rD:Qa->Qa->(Qa->Prop)->Prop)(we:DE):DS:=λD δ=>match δ[i]? with
 |some (.v d)=>we δ (λe=>rD d e (λz=>D.nx (δ.set i (.v z)))) D.ex
 |_=>False
theorem Qt7{r:TIp}{rD:Qa->Qa->(Qa->Prop)->Prop}(hd:Qry r rD)(h:PS X st (QA6 i (tX .P X.K E we) (λx y H Q=>QcE H->r x y H Q))):PS X st (tS X.K E (QAU i rD we)):=by
 refine PS.imp h λD σ H ⟨F,δ,DD,rel,hw,en⟩=>?_
 unfold QAU at hw;split at hw
 ·rename_i d hd'
  obtain⟨x,hx⟩:=rel.lt hd';obtain⟨v,rfl,q⟩:=rel.sl i _ _ hx hd';refine⟨v,hx,F,δ,_,DD.ex,rel,hw,λe he y H' rel' kp yk ln=>?_,en.ex⟩;refine hd (Av F σ δ) (Yj σ δ) H' v y d e _ _ ln (λa ha=>rel'.isl ha) (.inl (kp.da q)) yk he λz hz u H2 s du=>?_
  exact en.nx.go _ hz _ H2 ((rel'.same s).setv du) (((Stp.kp kp).trans (Stp.kp (Kp.same rel' s))).trans Stp.setv)
 ·exact hw.elim
theorem Qio{g:Int->Int->Int}:Qry (ipI g) (ii0 λi j=>.int (g i j)):=λA P H x y d1 d2 R Q ln dm hx hy h k=>by
 cases d1<;>cases d2<;>first | exact h.elim | skip
 rw[hx.int,hy.int];exact⟨_,_,rfl,rfl,k _ h _ H (Same.refl H) (.int _)⟩
theorem PIp.len{op:QcP}{t:TIp}(h:PIp X op t):PIp X op (λx y H Q=>QcE H->t x y H Q):=λpins s σ H x y v u Q I rx ry q=>h pins s σ H x y v u Q I rx ry (q (Inv.lens I))
theorem Rel.mut{K:PySem.W.Frag}{F:Fm}{σ:L2.St}{H:Hp}{δ:Sts}(r:Rel K F σ H δ){l:Addr}{ds ds':List Qa}{ys:List V}(h:δ[i]? = some (.own ds))(hx:σ[i]? = some (some (.ref l)))(q:DAs (Av F σ δ) H ys ds') :
  Rel K F σ (upd H l (.lst ys)) (δ.set i (.own ds'))/\Stp F σ H δ σ (upd H l (.lst ys)) (δ.set i (.own ds')):=by
 have hl:Av F σ δ l:=.inr ⟨i,hx,.inr ⟨ds,h⟩⟩;obtain⟨l',xs0,e0,el,_,f⟩:=r.sl i _ _ hx h;cases e0;have lt:i < δ.length:=(Jd.mp h).1;have ge:(δ.set i (.own ds'))[i]? = some (.own ds'):=by rw[Qce lt]
 have kk:∀a o,¬Av F σ δ a->H a=some o->upd H l (.lst ys) a=some o:=λa o n e=>by rw[JM (λz=>n (by rw[z];exact hl))];exact e
 have av:∀a,Av F σ (δ.set i (.own ds')) a->Av F σ δ a:=λa z=>by
  rcases z with z | ⟨j,h1,h2⟩
  ·exact .inl z
  ·by_cases z:j=i
   ·subst z;exact .inr ⟨j,h1,.inr ⟨ds,h⟩⟩
   ·rw[Qaj z] at h2;exact .inr ⟨j,h1,h2⟩
 have up:∀{b:Addr}{o:HO},b≠l->H b=some o->upd H l (.lst ys) b=some o:=λn e=>by rw[JM n];exact e
 refine⟨?_,⟨kk,λa z=>.inl (av a z)⟩⟩;exact{
  len:=by rw[Z7];exact r.len
  dom:=λa ha=>by
   by_cases z:a=l
   ·rw[z];exact⟨_,Jy⟩
   ·obtain⟨xs,e⟩:=r.dom a ha;exact⟨xs,up z e⟩
  dom0:=r.dom0
  pt0:=λp hp=>by
   obtain⟨h1,n,e⟩:=r.pt0 p hp;refine⟨h1,n,up (λz=>?_) e⟩;obtain⟨xs,e'⟩:=r.dom0 p h1;rw[z,f] at e';cases e'
  kx:=λb o n e=>up (λz=>by rw[z,f] at e;cases e) (r.kx b o n e)
  sl:=λj o y h1 h2=>by
   by_cases z:j=i
   ·subst z;rw[ge] at h2;cases h2;rw[hx] at h1;cases h1;exact⟨l,ys,rfl,Jy,q.mv kk λa z=>.inl (av a z),f⟩
   ·rw[Qaj z] at h2;have hh:=r.sl j o y h1 h2;cases y with
    |no=>trivial
    |v d=>obtain⟨v',e,q'⟩:=hh;exact⟨v',e,q'.mv kk λa z=>.inl (av a z)⟩
    |own es=>
     obtain⟨l',xs,rfl,e2,q',f'⟩:=hh;exact⟨l',xs,rfl,up (λz2=>z (r.inj j i l' es h2 h1 ⟨by rw[z2];exact hx,.inr ⟨ds,h⟩⟩)) e2,q'.mv kk λa z=>.inl (av a z),f'⟩
    |pk es=>
     obtain⟨l',xs,rfl,e2,q',ys',f',f2⟩:=hh;exact⟨l',xs,rfl,up (λz2=>by rw[z2,f] at f';cases f') e2,q'.mv kk λa z=>.inl (av a z),ys',f',f2⟩
    |pot=>
     obtain⟨p,n,rfl,e2,w⟩:=hh;refine⟨p,n,rfl,up (λz2=>?_) e2,w⟩;subst z2;exact r.own_pot h hx ⟨j,h1,h2⟩
    |scr=>exact hh
  inj:=λj k a es h1 h2 ⟨h3,h4⟩=>by
   have h4':δ[k]? = some .pot∨∃ds,δ[k]? = some (.own ds):=by
    by_cases z:k=i
    ·subst z;exact .inr ⟨ds,h⟩
    ·rw[Qaj z] at h4;exact h4
   by_cases z:j=i
   ·subst z;exact r.inj j k a ds h h2 ⟨h3,h4'⟩
   ·rw[Qaj z] at h1;exact r.inj j k a es h1 h2 ⟨h3,h4'⟩ }
def QAV(i:Nat)(we:DE):DS:=λD δ=>match δ[i]? with
 |some (.own ds)=>we δ (λd=>ds.length<1000000/\D.nx (δ.set i (.own (ds++[d])))) D.ex
 |_=>False
theorem Qt9(h:PS X st (QlB (tBM X.K "list" Qih (QhZ i) (Qe5 (tX .D X.K E we) Qtd)))):PS X st (tS X.K E (QAV i we)):=by
 refine PS.imp h λD σ H ⟨F,δ,DD,rel,hw,en⟩=>?_
 unfold QAV at hw;split at hw
 ·rename_i ds hd
  obtain⟨x,hx⟩:=rel.lt hd;obtain⟨l,xs,rfl,e,q,f⟩:=rel.sl i _ _ hx hd;have np:=rel.own_pot hd hx;refine⟨.ref l,hx,.inl ⟨rfl,_,SqL.of e⟩,F,δ,_,DD.ex,rel,hw,λd ⟨hl,hn⟩ v H' rel' kp vk=>?_,en.ex⟩;have q':=kp.das q;refine⟨l,xs,v,rfl,rfl,kp.1 _ _ np e,QP (by rw[q.length];exact hl) Qht,?_⟩;obtain⟨r2,st⟩:=rel'.mut hd hx (q'.app (.cons vk .nil));exact en.nx.go _ hn _ _ r2 ((Stp.kp kp).trans st)
 ·exact hw.elim
def Qvk(i:Nat)(rD:Qa->Qa->(Qa->Prop)->Prop)(wi we:DE):DS:=λD δ=>match δ[i]? with
 |some (.own ds)=>wi δ (λz=>match z with
  |.int k=>∃j a,ixN ds.length k=some j/\ds[j]? = some a/\we δ (λe=>rD a e λb=>D.nx (δ.set i (.own (ds.set j b)))) D.ex
  |_=>False) D.ex
 |_=>False
theorem Qpo{r:TIp}{rD:Qa->Qa->(Qa->Prop)->Prop}(hd:Qry r rD)(h:PS X st (Qwp (QhZ i) (tX .P X.K E wi) (tX .P X.K E we) (QyS X.K) (λx y H Q=>QcE H->r x y H Q) QwK)):PS X st (tS X.K E (Qvk i rD wi we)):=by
 refine PS.imp h λD σ H ⟨F,δ,DD,rel,hw,en⟩=>?_
 unfold Qvk at hw;split at hw
 ·rename_i ds hds
  obtain⟨x,hx⟩:=rel.lt hds;obtain⟨l,xs,rfl,e,q,f⟩:=rel.sl i _ _ hx hds;have np:=rel.own_pot hds hx;refine⟨.ref l,hx,F,δ,_,DD.ex,rel,hw,λz hz y H1 rel1 kp1 yk=>?_,en.ex⟩;cases z<;>first | exact(show False from hz).elim | skip
  obtain⟨j,a,hj,ha,hn⟩:=hz;have q1:=kp1.das q;obtain⟨va,hva,da⟩:=q1.get j a ha;rw[DP.int yk];refine⟨l,xs,_,va,rfl,rfl,SqL.of (kp1.1 _ _ np e),by unfold atI;rw[q.length,hj];exact hva,F,δ,_,DD.ex,rel1,hn,λb hb u H2 rel2 kp2 uk ln=>?_,en.ex⟩;refine hd (Av F σ δ) (Yj σ δ) H2 va u a b _ _ ln (λa ha=>rel2.isl ha) (.inl (kp2.da da)) uk hb λc hc w H3 s dw=>?_
  have r3:=rel2.same s;have k3:=kp2.trans (Kp.same rel2 s);refine⟨l,xs,_,j,rfl,rfl,k3.1 _ _ np (kp1.1 _ _ np e),by rw[q.length];exact hj,?_⟩;obtain⟨r4,st⟩:=r3.mut hds hx ((k3.das q1).set dw j);exact en.nx.go _ hc _ _ r4 (((Stp.kp kp1).trans (Stp.kp k3)).trans st)
 ·exact hw.elim
@[irreducible] def QvA(items:List Qa)(wg:DG)(wb:DS)(D:QeX)(δ:Sts):Prop:=∃Iv:Nat->Sts->Prop,Iv 0 δ/\(∀(i:Nat) d δ,items[i]? = some d->Iv i δ->wg d δ λδ2=>wb { D with nx:=Iv (i+1),ct:=Iv (i+1),bk:=D.nx } δ2)/\∀δ,Iv items.length δ->D.nx δ
def dFor(wi:DI)(wg:DG)(wb:DS):DS:=λD δ=>wi δ (λitems=>QvA items wg wb D δ) D.ex
theorem Qt6{tg iter:QV}{body:List ZY}{pos:Pos}{ix:List Nat}{wi:DI}{wg:DG}{wb:DS}(hp:QfP (model X.prog X.w) X.A X.env X.xe)(hc:X.calm=true)(hi:PI X tg iter (tI .D X.K E wi))(hg:PG X tg (tG ix X.K wg))(hb:PSs X body (tS X.K E wb))
  (hs:∀x,foldedSetIterable iter X.env x=pure x:=by intro _;rfl):PS X (.For tg iter body [] pos) (tS X.K E (dFor wi wg wb)):=by
 refine PS.imp (Qr5 hp hc hi hg hb hs) λD σ H ⟨F,δ,DD,rel,hw,en⟩=>?_
 refine⟨F,δ,_,DD.ex,rel,hw,λitems hC J H1 rel1 kp1 ⟨ln,it⟩=>?_,en.ex⟩;unfold QvA at hC;obtain⟨Iv,i0,step,fin⟩:=hC;have en1:=en.step (Stp.kp (F:=F) kp1);refine⟨λi m σ' H'=>m=items.length - i/\i<=items.length/\∃δ',Iv i δ'/\Rel X.K F σ' H' δ'/\Stp F σ H1 δ σ' H' δ',⟨_,rfl,Jc _,δ,i0,rel1,Stp.refl⟩,?_⟩;rintro i m σ' H' ⟨rfl,hi',δ',iv,r',st'⟩;obtain⟨go,stop⟩:=it H' (Av F σ' δ') st'.1 st'.2 λa ha=>r'.isl ha
 by_cases hlt:i<items.length
 ·have hd:items[i]? = some items[i]:=Qf hlt;obtain⟨g1,g2⟩:=go i _ hd;refine .inr ⟨g1,λσ2 H2=>∃δ2,Iv (i+1) δ2/\Rel X.K F σ2 H2 δ2/\Stp F σ H1 δ σ2 H2 δ2,λσ2 H2 ⟨δ2,h2,r2,s2⟩=>⟨_,by omega,rfl,hlt,δ2,h2,r2,s2⟩,λx H3 y=>?_⟩;obtain⟨s3,dx⟩:=g2 x H3 y;have r3:=r'.same s3;have st3:Stp F σ H1 δ σ' H3 δ':=st'.trans (Stp.kp (Kp.same r' s3));refine⟨F,δ',_,_,r3,dx,step i _ δ' hd iv,λδ4 h4 σ4 r4 st4 _ _=>⟨F,δ4,_,r4,h4,?_⟩⟩;have st5:=st3.trans st4;exact⟨⟨λδ6 h6 σ6 H6 r6 s6=>⟨δ6,h6,r6,st5.trans s6⟩⟩,en.rt,en.rtF,(en1.step st5).nx,⟨λδ6 h6 σ6 H6 r6 s6=>⟨δ6,h6,r6,st5.trans s6⟩⟩,en.ex⟩
 ·have e:i=items.length:=by omega
  subst e;exact .inl ⟨stop,(en1.step st').nx.go δ' (fin δ' iv) σ' H' r' Stp.refl⟩
theorem QeJ{lo:Int}{n:Nat}{wg:DG}{wb:DS}{D:QeX}{δ:Sts}(Iv:Nat->Sts->Prop)(h0:Iv 0 δ)
  (hs:∀(i:Nat) δ,i<n->Iv i δ->wg (.int (lo+i)) δ λδ2=>wb { D with nx:=Iv (i+1),ct:=Iv (i+1),bk:=D.nx } δ2)(hd:∀δ,Iv n δ->D.nx δ):QvA (Qjb lo n) wg wb D δ:=by
 unfold QvA;exact⟨Iv,h0,λi d δ hd iv=>by obtain⟨hi,rfl⟩:=Qes hd;exact hs i δ hi iv,λδ iv=>hd δ (by rw[Qf8] at iv;exact iv)⟩
theorem QbL{items:List Qa}{wg:DG}{wb:DS}{D:QeX}{δ:Sts}(Iv:Nat->Sts->Prop)(h0:Iv 0 δ)
  (hs:∀(i:Nat) d δ,items[i]? = some d->Iv i δ->wg d δ λδ2=>wb { D with nx:=Iv (i+1),ct:=Iv (i+1),bk:=D.nx } δ2)(hd:∀δ,Iv items.length δ->D.nx δ):QvA items wg wb D δ:=by
 unfold QvA;exact⟨Iv,h0,hs,hd⟩
def Qym(we:DE):DS:=λD δ=>we δ (λ_=>D.nx δ) D.ex
theorem Qpm(h:PS X st (QlB (tX .P X.K E we))):PS X st (tS X.K E (Qym we)):=by
 refine PS.imp h λD σ H ⟨F,δ,DD,rel,hw,en⟩=>?_
 exact⟨F,δ,_,DD.ex,rel,hw,λd hd v H' rel' kp vk=>en.nx.go δ hd σ H' rel' (Stp.kp kp),en.ex⟩
end
def stD(N:List Str)(args:List Sl):Sts:=args++Ji (N.length - args.length) .no
theorem Qft{α β:Type}{R:α->β->Prop}:∀{xs:List α}{ys:List β},Qbf R xs ys->∀(i:Nat) x y,xs[i]? = some x->ys[i]? = some y->R x y
 |_,_,.nil,i,x,y,h,_=>by simp at h
 |_,_,.cons a b,0,x,y,h,h'=>by simp at h h';subst h h';exact a
 |_,_,.cons a b,i+1,x,y,h,h'=>Qft b i x y (by simpa using h) (by simpa using h')
theorem QlL{K:PySem.W.Frag}{N:List Str}{A pt:Addr->Prop}{H:Hp}{vs:List V}{args:List Sl}(dm:∀a,A a->∃xs,H a=some (.lst xs))(hp:∀p,pt p->A p/\∃n,H p=some (.lst [.int n]))(q:Qbf (QkZ A pt H) vs args):Rel K ⟨H,A,pt⟩ (L2.start N vs) H (stD N args):=by
 have hl:vs.length=args.length:=q.length;have no:∀(i:Nat) x,(stD N args)[i]? = some x->(i<args.length/\args[i]? = some x)∨x=.no:=λi x h=>by
  unfold stD at h;by_cases z:i<args.length
  ·rw[YX z] at h;exact .inl ⟨z,h⟩
  ·rw[YK (by omega),Yh] at h;split at h
   ·exact .inr (QJ h).symm
   ·cases h
 have arg:∀(i:Nat) o x,(L2.start N vs)[i]? = some o->(stD N args)[i]? = some x->x≠.no->∃v,o=some v/\QkZ A pt H v x:=λi o x h1 h2 hx=>by
  rcases no i x h2 with⟨z,e⟩ | e
  ·unfold L2.start at h1;rw[YX (by rw[Qd];omega),Qv] at h1;obtain⟨v,hv,rfl⟩:=Zf.mp h1;exact⟨v,rfl,Qft q i v x hv e⟩
  ·exact absurd e hx
 have av:∀a,Av ⟨H,A,pt⟩ (L2.start N vs) (stD N args) a->A a:=λa z=>by
  rcases z with z | ⟨i,h1,h2⟩
  ·exact z
  ·rcases h2 with h2 | ⟨ds,h2⟩
   ·obtain⟨v,e,p,rfl,hp'⟩:=arg i _ _ h1 h2 (λz=>by cases z);cases e;exact(hp _ hp').1
   ·obtain⟨v,e,hh⟩:=arg i _ _ h1 h2 (λz=>by cases z);exact hh.elim
 exact{
  len:=by unfold L2.start stD;rw[Qu,Qu,Qd,QaB,QaB,hl]
  dom:=dm
  dom0:=dm
  pt0:=hp
  kx:=λ_ _ _ e=>e
  sl:=λi o x h1 h2=>by
   cases x with
   |no=>trivial
   |v d=>
    obtain⟨v,e,hh⟩:=arg i _ _ h1 h2 (λz=>by cases z);exact⟨v,e,DA.mv hh (λ_ _ _ e=>e) λa z=>.inl (av a z)⟩
   |pot=>
    obtain⟨v,e,p,rfl,hp'⟩:=arg i _ _ h1 h2 (λz=>by cases z);obtain⟨_,n,en⟩:=hp p hp';exact⟨p,n,e,en,.inl hp'⟩
   |own ds=>obtain⟨v,e,hh⟩:=arg i _ _ h1 h2 (λz=>by cases z);exact hh.elim
   |pk ds=>obtain⟨v,e,hh⟩:=arg i _ _ h1 h2 (λz=>by cases z);exact hh.elim
   |scr=>obtain⟨v,e,hh⟩:=arg i _ _ h1 h2 (λz=>by cases z);exact hh.elim
  inj:=λi j a ds h1 h2 _=>by
   obtain⟨v,e,hh⟩:=arg i _ _ h2 h1 (λz=>by cases z);exact hh.elim }
def QB5:Qa->Bool
 |.list _=>false
 |_=>true
def rtD:Bool->(Qa->Prop)->Qa->Prop
 |true,R,d=>QB5 d=true/\R d
 |false,R,d=>R d
def Qvc(fr:Bool)(R:Qa->Prop)(EX:XP):QeX:=⟨λ_=>R .none,rtD fr R,R,λ_=>False,λ_=>False,EX⟩
theorem Qvb{K:PySem.W.Frag}{E Ex:XK}{fr:Bool}{A pt:Addr->Prop}{H:Hp}{R:Qa->Prop}{EX EX':XP}{Q:VK}{σ:L2.St}{δ:Sts}(k:∀d,R d->∀v H',Kq pt H H'->DA A H' v d->(fr=true->FrV H H' v)->Q v H')(o:Out ⟨H,A,pt⟩ E EX') :
  Ends1 K E ⟨H,A,pt⟩ σ H δ (Qvc fr R EX') { nx:=λ_ H'=>Q .non H',rt:=Q } where
 nx:=⟨λδ' hR σ' H' r st=>k _ hR _ H' r.ke .non λ_=>Qu7⟩
 rt:=λd h v H' ke dv=>by
  cases fr with
  |false=>exact k d h v H' ke dv λz=>by cases z
  |true=>
   obtain⟨h1,h2⟩:=h;refine k d h2 v H' ke dv λz l e1 ⟨xs,e2⟩=>?_
   subst e1;cases dv with
   |@tup a ys ds n e q=>rw[e] at e2;cases e2
   |@lst a ys ds n e q=>cases h1
   |@dct a kvs ds n e q=>rw[e] at e2;cases e2
 rtF:=λd h v H' ke dv fr'=>k d h v H' ke dv λ_=>fr'
 bk:=⟨λ_ h=>h.elim⟩
 ct:=⟨λ_ h=>h.elim⟩
 ex:=o
section
variable{P:QF}{w:Jk}{K:PySem.W.Frag}{mg:Str->Option Value}{base:Heap}
theorem okD{x qual:Str}{st:ZY}{f:Addr}{fd:QM}{N ps:List Str}{k:Nat}{fD:DF}(fr:Bool)(F:Fun K x qual st f fd)(S:Jm N ps (Qq st))(len:∀args R EX,fD args R EX->args.length=ps.length)
  (hbody:∀(cdv:Value)(A:Q9)(outer:List Env)(s:Shared)(H:Hp)(E:XK),Room k (A.deeper (envOfC qual (Qq st) s.heap.objs.size f cdv)) ->
   ∃wd,PSs (Qoi CX0 P w K mg base N qual (Qq st) f cdv A outer s H E).nox (Jl st) (tS K E0 wd)/\∀args R EX,fD args R EX->wd (Qvc fr R XF) (stD N args)):FnOk P w K mg base CX0 (k+1) f fd ps (JH fr fD):=by
 refine F.ok S (λvs H Q E h=>?_) λcdv A outer s H vs Q E hr h=>?_
 ·obtain⟨A,pt,args,R,EX,_,_,q,h,_⟩:=h;rw[q.length];exact len _ _ _ h
 ·obtain⟨wd,hp,hw⟩:=hbody cdv A outer s H E hr;obtain⟨A',pt,args,R,EX,dm,hpt,q,h,k,_⟩:=h;exact⟨_,hp,⟨H,A',pt⟩,_,_,QlL dm hpt q,hw args R EX h,Qvb (Ex:=E) (EX:=EX) k Qsc⟩
end
end Dl
namespace L2
def QA3(i j:Int):Prop:=0<j/\j<=10^40
theorem QpC{X:Cx}:OpR X (binaryOp .FloorDiv) (rI QA3 λi j=>.int (i / j)):=opI λi j _ _ _ _ _ hc q=>by
 have h1:(0:Int)<j:=hc.1;have h2:j<=10^40:=hc.2;refine floordiv_int (by omega) (by rw[Int.fdiv_eq_ediv_of_nonneg i (by omega)];exact q) (.inl (PyProof.noPylong_of_log2 ?_));have h3:j.natAbs<2^200:=by
  have:(10:Int)^40<2^200:=by decide
  omega
 have:=(Nat.log2_lt (by omega:j.natAbs≠0)).mpr h3;omega
end L2
namespace Rk
open L2 _root_.Rd
def Qi9:Sp:=λvs H Q _=>∃p n f,vs=[.ref p,.int f]/\H p=some (.lst [.int n])/\0<f/\f<=10^40/\∀r m,0<=r->r<f->Q (.int r) (upd H p (.lst [.int m]))
end Rk
namespace Dl
open L2 _root_.Rd Rk
theorem JL{X:Cx}{E:XK}:QeW CX0 X E:=λ_ _ _ _ _ _ _ h=>h.elim
theorem Room.u60{k:Nat}{A:Q9}(r:Room k A):A.units+60<cLine:=by have:=r.un;omega
theorem Room.i60{k:Nat}{A:Q9}(r:Room k A):A.in1.units+60<cLine:=by
 have:=r.un;show A.units+1+60<cLine;omega
section
variable{X:Cx}{E:XK}{CX:CXT}{k:Nat}{f:Addr}{fd:QM}{ps:List Str}{x:Str}{p pos:Pos}{e:QV}{es:List QV}{fD:DF}
def QoF:DF:=λargs R _=>∃f,args=[.pot,.v (.int f)]/\0<f/\f<=10^40/\∀r,0<=r->r<f->R (.int r)
theorem Qwe{vs:List V}{H:Hp}{Q:VK}{Ex:XK}(h:JH true QoF vs H Q Ex):Qi9 vs H Q Ex:=by
 obtain⟨A,pt,args,R,EX,dm,hp,q,⟨f,rfl,f0,f1,hR⟩,k,_⟩:=h;cases q with
 |cons q1 q2=>cases q2 with
  |cons q2 q3=>
   cases q3;obtain⟨p,rfl,pp⟩:=q1;cases q2;obtain⟨_,n,e⟩:=hp p pp;refine⟨p,n,f,rfl,e,f0,f1,λr m r0 r1=>k _ (hR r r0 r1) _ _ ⟨λb o nb eb=>?_,λz hz=>?_⟩ (.int _) λ_=>Yg⟩
   ·rw[JM (λz=>nb (by rw[z];exact pp))];exact eb
   ·by_cases y:z=p
    ·rw[y];exact⟨m,Jy⟩
    ·obtain⟨_,n',e'⟩:=hp z hz;exact⟨n',by rw[JM y];exact e'⟩
def Qz5:DF:=λargs R _=>∃c,args=[.v (.int c)]/\∀n,R (.list [.int n])
theorem Qz4{vs:List V}{H:Hp}{Q:VK}{Ex:XK}(h:JH true Qz5 vs H Q Ex):Qwt vs H Q Ex:=by
 obtain⟨A,pt,args,R,EX,dm,hp,q,⟨c,rfl,hR⟩,k,_⟩:=h;cases q with
 |cons q1 q2=>
  cases q2;cases q1;refine⟨c,rfl,λp n hn=>k _ (hR n) _ _ ⟨λb o _ eb=>JI hn b o eb,λz hz=>?_⟩ (.lst (λz=>?_) Jy (.cons (.int _) .nil)) λ_=>Qao hn⟩
  ·obtain⟨_,n',e'⟩:=hp z hz;exact⟨n',JI hn _ _ e'⟩
  ·obtain⟨xs,e⟩:=dm p z;rw[hn] at e;cases e
def isW:Qa->Bool
 |.int _=>true
 |_=>false
def Qlr:DF:=λargs R _=>∃d,args=[.v d]/\R (.bool (isW d))
theorem QlS{K:PySem.W.Frag}{F:Fm}{σ:L2.St}{H:Hp}{δ:Sts}(r:Rel K F σ H δ){a:Addr}{xs:List V}(h:SqL K F.H0 a xs)(n:¬F.pt a):SqL K H a xs:=by
 rcases h with h | h
 ·rcases h with h | ⟨o,h⟩
  ·exact .inl (.inl (r.kx _ _ n h))
  ·exact .inl (.inr ⟨o,r.kx _ _ n h⟩)
 ·exact .inr h
def Qvi(i:Nat):DE:=λδ Q _=>match δ[i]? with
 |some .scr=>∀n:Nat,n<=63->Q (.int n)
 |_=>False
theorem Que{i:Nat}{a:QV}(hg:Gl X "len")(hm:X.mg "len" = none)(h:PE X a (QhZ i))(hs:notStar a=true:=by rfl):PE X (.Call (.Name "len" p) [a] [] pos) (tX .F X.K E (Qvi i)):=by
 refine PE.imp (QbX QbO hg hm Qac (QcM h ZN hs) (he:=by rw[ZD hs])) λσ H Q ⟨F,δ,R,EX,rel,hw,k,o⟩=>?_
 unfold Qvi at hw;split at hw
 ·rename_i hd
  obtain⟨x,hx⟩:=rel.lt hd;obtain⟨l,ns,rfl,sq,np,n63⟩:=rel.sl i _ _ hx hd;refine⟨_,hx,l,_,rfl,.inl (QlS rel sq np),?_⟩;rw[Qd];exact k _ (hw _ n63) _ H rel (Kp.refl rel) ⟨.int _,Yg⟩
 ·exact hw.elim
def Qvj(i:Nat)(wb:DE):DE:=λδ Q EX=>match δ[i]? with
 |some .scr=>wb δ (λd=>match d with
  |.int k=>0<=k/\∀c,Q (.int c)
  |_=>False) EX
 |_=>False
theorem Quh{i:Nat}{a b:QV}{wb:DE}(G:FnOk X.prog X.w X.K X.mg X.base CX0 k f fd ps (QcW X.K))(hr:Room k X.A)(hg:Gl X x)(hm:X.mg x=some (.ref f))(hk:PySem.W.keepIn X.K (.ref f)=true)(hb:Binds X.K fd ps [])
  (ha:PE X a (QhZ i))(h:PE X b (tX .P X.K E wb))(h1:notStar a=true:=by rfl)(h2:notStar b=true:=by rfl)(hdb:(x == ("__debug__" : Str))=false:=by decide) :
  PE X (.Call (.Name x p) [a,b] [] pos) (tX .F X.K E (Qvj i wb)):=by
 refine PE.imp (Qil (E:=E) G hr hg hm hk hb .nil JL (QcM ha (QcM h ZN h2) h1) hdb (ZD h1) (by rw[ZD h2];rfl)) λσ H Q ⟨F,δ,R,EX,rel,hw,k,o⟩=>?_
 unfold Qvj at hw;split at hw
 ·rename_i hd
  obtain⟨x,hx⟩:=rel.lt hd;obtain⟨l,ns,rfl,sq,np,n63⟩:=rel.sl i _ _ hx hd;refine⟨_,hx,F,δ,_,EX,rel,hw,λd hd2 v H' rel' kp vk=>?_,o⟩;cases d<;>first | exact(show False from hd2).elim | skip
  rw[DP.int vk];exact⟨l,ns,_,rfl,QlS rel' sq np,Qbl n63 (by decide),hd2.1,λc=>k _ (hd2.2 c) _ H' rel' kp ⟨.int _,Yg⟩⟩
 ·exact hw.elim
end
section
variable{P:QF}{w:Jk}{K:PySem.W.Frag}{mg:Str->Option Value}{base:Heap}
def Qff(K:PySem.W.Frag):Sp:=λvs H Q _=>∃(a:Addr)(ns:List Int),vs=[.ref a]/\SqL K H a (ns.map V.int)/\ns.length<=63/\∀H',Q (.bl true) H'
def Qx7:QeX:=⟨λ_=>False,λd=>d=.bool true,λd=>d=.bool true,λ_=>False,λ_=>False,XF⟩
theorem QAm{x qual:Str}{st:ZY}{f:Addr}{fd:QM}{N:List Str}{p:Str}{k:Nat}(F:Fun K x qual st f fd)(S:Jm N [p] (Qq st))
  (hbody:∀(cdv:Value)(A:Q9)(outer:List Env)(s:Shared)(H:Hp)(E:XK),Room k (A.deeper (envOfC qual (Qq st) s.heap.objs.size f cdv)) ->
   ∃wd,PSs (Qoi CX0 P w K mg base N qual (Qq st) f cdv A outer s H E).nox (Jl st) (tS K E0 wd)/\wd Qx7 (stD N [.scr])):FnOk P w K mg base CX0 (k+1) f fd [p] (Qff K):=by
 refine F.ok S (λvs H Q E h=>?_) λcdv A outer s H vs Q E hr h=>?_
 ·obtain⟨a,ns,rfl,_⟩:=h;rfl
 ·obtain⟨wd,hp,hw⟩:=hbody cdv A outer s H E hr;obtain⟨a,ns,rfl,sq,n63,k⟩:=h;have get0:∀(i:Nat) o y,(L2.start N [V.ref a])[i]? = some o->(stD N [.scr])[i]? = some y->y≠.no->o=some (.ref a)/\y=.scr:=λi o y h1 h2 hy=>by
   cases i with
   |zero=>cases h1;cases h2;exact⟨rfl,rfl⟩
   |succ i=>
    unfold stD at h2;rw[YK (by simp),Yh] at h2;split at h2
    ·exact absurd (QJ h2).symm hy
    ·cases h2
  have noav:∀b,¬Av (⟨H,λ_=>False,λ_=>False⟩:Fm) (L2.start N [V.ref a]) (stD N [.scr]) b:=λb z=>by
   rcases z with z | ⟨i,h1,h2⟩
   ·exact z
   ·rcases h2 with h2 | ⟨ds,h2⟩
    ·cases(get0 i _ _ h1 h2 (λz=>by cases z)).2
    ·cases(get0 i _ _ h1 h2 (λz=>by cases z)).2
  refine⟨_,hp,⟨H,λ_=>False,λ_=>False⟩,_,_,?_,hw,?_⟩
  ·exact{
    len:=by unfold L2.start stD;simp
    dom:=λ_ h=>h.elim
    dom0:=λ_ h=>h.elim
    pt0:=λ_ h=>h.elim
    kx:=λ_ _ _ e=>e
    sl:=λi o y h1 h2=>by
     cases y with
     |no=>trivial
     |scr=>
      obtain⟨rfl,_⟩:=get0 i _ _ h1 h2 (λz=>by cases z);exact⟨a,ns,rfl,sq,λz=>z,n63⟩
     |v d=>cases(get0 i _ _ h1 h2 (λz=>by cases z)).2
     |own d=>cases(get0 i _ _ h1 h2 (λz=>by cases z)).2
     |pk d=>cases(get0 i _ _ h1 h2 (λz=>by cases z)).2
     |pot=>cases(get0 i _ _ h1 h2 (λz=>by cases z)).2
    inj:=λi j b ds h1 h2 _=>by cases(get0 i _ _ h2 h1 (λz=>by cases z)).2 }
  ·exact{
    nx:=⟨λ_ h=>h.elim⟩
    rt:=λd h v H' ke dv=>by cases(show d=.bool true from h);cases dv;exact k H'
    rtF:=λd h v H' ke dv _=>by cases(show d=.bool true from h);cases dv;exact k H'
    bk:=⟨λ_ h=>h.elim⟩
    ct:=⟨λ_ h=>h.elim⟩
    ex:=Qsc }
end
theorem QnW{α:Type}{p:α->Prop}:∀x∈([]:List α),p x:=λ_ h=>nomatch h
theorem Y5{α:Type}{p:α->Prop}{a:α}{l:List α}(h:p a)(t:∀x∈l,p x):∀x∈a::l,p x:=λx hx=>by
 rcases Qy.mp hx with z | z
 ·rw[z];exact h
 ·exact t x z
theorem Qyy{b c:Bool}{R:Qa->Prop}(h:R (.bool (b&&c))):if b=true then R (.bool c) else R (.bool false):=by
 cases b
 ·exact QBp h
 ·exact QAw h
theorem QbQ{b c:Bool}{R:Qa->Prop}{Pk:Prop}(h:R (.bool (b&&c)))(k:b=true->R (.bool c)->Pk):if b=true then Pk else R (.bool false):=by
 cases b
 ·exact QBp h
 ·exact QAw (k rfl h)
theorem ifF{c:Bool}{A B:Prop}(h:c=false)(k:B):if c=true then A else B:=by subst h;exact k
theorem ifT{c:Bool}{A B:Prop}(h:c=true)(k:A):if c=true then A else B:=by subst h;exact k
theorem ifC{c:Bool}{A B:Prop}(t:c=true->A)(f:c=false->B):if c=true then A else B:=by
 cases c
 ·exact f rfl
 ·exact t rfl
theorem all_map{α:Type}(l:List α)(g:α->Bool):(l.map g).all id=l.all g:=by
 rw[List.all_map];rfl
theorem QcD{ds:List Qa}{Q:Qa->Prop}{g:Qa->Bool}{items:List Qa}(h:ds=[.list (items.map λd=>.bool (g d))])(q:Q (.bool (items.all g))):Qy1 ds Q:=by
 subst h;unfold Qy1;refine⟨items.map g,?_,by rw[all_map];exact q⟩;rw[show items.map (λd=>Qbu (g d))=(items.map g).map Qbu by rw[QL];rfl,QnL]
theorem QlD{ds:List Qa}{Q:Qa->Prop}(ns:List Int)(h:ds=[.list (ns.map Qi)])(q:Q (.int ns.sum)):QyR ds Q:=by
 subst h;unfold QyR;exact⟨ns,ints_map ns,q⟩
end Dl
namespace L2
section
variable{X:Cx}
end
end L2
namespace Dl
open L2 _root_.Rd Rk
section
variable{X:Cx}{E:XK}
def QzQ(d:Qa)(Q:Qa->Prop):Prop:=
 match d with
 |.list ds=>Q (.list ds.reverse)
 |_=>False
def QCe(we ws:DE):DE:=λδ Q EX=>we δ (λd=>ws δ (λs=>(match s with | .int i=>i = -1 | _=>False)/\QzQ d Q) EX) EX
def Qyk(w:DE):DE:=λδ Q EX=>w δ (λd=>match d with
 |.int j=>(-1000<=j/\j<=1000)/\Q (.list ((Qt j.toNat).map λ(i:Nat)=>.int i))
 |_=>False) EX
theorem Qvf{A:Addr->Prop}{H:Hp}(l:List Nat):DAs A H (l.map λ(i:Nat)=>V.int (i:Nat)) (l.map λ(i:Nat)=>Qi (i:Nat)):=by
 induction l with
 |nil=>exact .nil
 |cons i l ih=>exact .cons (.int _) ih
variable{e:QV}{w:DE}{p p2 pos pos2:Pos}
theorem Qmt(hg:Gl X "list")(hm:X.mg "list" = none)(hg2:Gl X "range")(hm2:X.mg "range" = none)(h:PE X e (tX .P X.K E w))(hc:X.calm=true:=by rfl)(hs:notStar e=true:=by rfl):PE X (.Call (.Name "list" p) [.Call (.Name "range" p2) [e] [] pos2] [] pos) (tX .F X.K E (Qyk w)):=by
 refine PE.imp (QcZ (QiH hc) hg hm QnI (QcM (Qjp hg2 hm2 (QcM h ZN hs) (by rw[ZD hs];rfl)) ZN)) λσ H Q ⟨F,δ,R,EX,rel,hw,k,o⟩=>?_
 refine⟨F,δ,_,EX,rel,hw,λd hd v H1 rel1 kp1 vk=>?_,o⟩;cases d<;>first | exact(show False from hd).elim | skip
 obtain⟨⟨h1,h2⟩,hR⟩:=hd;rw[DP.int vk];refine⟨_,rfl,λr H2 s2 n2 e2=>⟨r,_,rfl,e2,h1,h2,λt H3 s3 n3 e3=>?_⟩⟩;have r2:=rel1.same s2;have K2:=kp1.trans (Kp.same rel1 s2);exact k _ hR _ H3 (r2.same s3) (K2.trans (Kp.same r2 s3)) ⟨Qc1 (λa ha=>r2.isl ha) s3 n3 e3 (Qvf _),Qao (QbK K2 n3)⟩
end
theorem Qyx{ds:List Qa}{i:Int}(h0:0<=i)(h1:i<ds.length):∃d,d∈ds/\atI ds i=some d:=by
 obtain⟨j,rfl⟩:∃j:Nat,i=j:=⟨i.toNat,by omega⟩
 have hj:j<ds.length:=by omega
 exact⟨ds[j],Zw hj,Jq (Qf hj)⟩
theorem QAr{ds:List Qa}{i:Int}{Q:Qa->Prop}(h0:0<=i)(h1:i<ds.length)(q:∀d∈ds,Q d):∃d,atI ds i=some d/\Q d:=by
 obtain⟨d,hd,e⟩:=Qyx h0 h1;exact⟨d,e,q d hd⟩
theorem Qri{xs:List Qa}{lo hi:Option Int}{d:Qa}(h:d∈cutD xs lo hi):d∈xs:=List.mem_of_mem_drop (List.mem_of_mem_take h)
structure QE (m:Md) (X:Cx) (E:XK) (e:QV) (w:DE):Prop where h:PE X e (tX m X.K E w)
structure QT (X:Cx) (E:XK) (e:QV) (w:DT):Prop where h:PT X e (tT X.K E w)
structure QW (X:Cx) (E:XK) (e:QV) (w:DT):Prop where h:PW X e (tT X.K E w)
structure QTs (X:Cx) (E:XK) (es:List QV) (w:DT):Prop where h:PTs X es (tT X.K E w)
structure QA (n:Nat) (m:Md) (X:Cx) (E:XK) (es:List QV) (w:DAr):Prop where h:PA X es (tAr n m X.K E w)
structure QAs (X:Cx) (E:XK) (es:List QV) (w:DSl):Prop where h:PA X es (tAs X.K E w)
structure QO (X:Cx) (E:XK) (o:Option QV) (w:DO):Prop where h:PO X o (tO X.K E w)
structure QG (ix:List Nat) (X:Cx) (tg:QV) (w:DG):Prop where h:PG X tg (tG ix X.K w)
structure QI (m:Md) (X:Cx) (E:XK) (tg it:QV) (w:DI):Prop where h:PI X tg it (tI m X.K E w)
structure QS (X:Cx) (E:XK) (st:ZY) (w:DS):Prop where h:PS X st (tS X.K E w)
structure QSs (X:Cx) (E:XK) (sts:List ZY) (w:DS):Prop where h:PSs X sts (tS X.K E w)
section
variable{X:Cx}{E:XK}
theorem J1{e:QV}{w:DE}(h:QE .F X E e w):QE .D X E e w:=⟨toD h.h⟩
theorem Q5{e:QV}{w:DE}(h:QE .D X E e w):QE .P X E e w:=⟨toP h.h⟩
theorem QZ{e:QV}{w:DE}(h:QE .F X E e w):QE .P X E e w:=⟨QBR h.h⟩
theorem qv(i:Nat){x:Str}{pos:Pos}(hN:X.N[i]? = some x:=by rfl)(hv:Vis X.env.scope x:=by first | exact QN rfl | exact QK (QN rfl) | exact QK (QK rfl))(hd:(x == ("__debug__" : Str))=false:=by decide)(hcd:(x == ("__classdict__" : Str))=false:=by decide):QE .D X E (.Name x pos) (QAR i):=⟨Qw8 (pv i hN hv hd hcd)⟩
theorem qp(i:Nat){x:Str}{pos:Pos}(hN:X.N[i]? = some x:=by rfl)(hv:Vis X.env.scope x:=by first | exact QN rfl | exact QK (QN rfl) | exact QK (QK rfl))(hd:(x == ("__debug__" : Str))=false:=by decide)(hcd:(x == ("__classdict__" : Str))=false:=by decide):QE .P X E (.Name x pos) (dPk i):=⟨QAb (pv i hN hv hd hcd)⟩
theorem Jt{i:Int}{j pos}:QE .D X E (.Constant (.int i) j pos) (dC (.int i)):=⟨Qxe⟩
theorem QgT{b:Bool}{j pos}:QE .D X E (.Constant (.bool b) j pos) (dC (.bool b)):=⟨QAf⟩
theorem Yq{a b:QV}{wa wb:DE}{pos:Pos}{r:R2}{rD:Qa->Qa->(Qa->Prop)->Prop}{op:QcP}(ho:OpR X (binaryOp op) r)(hd:OpD r rD)(ha:QE .P X E a wa)(hb:QE .P X E b wb):QE .F X E (.BinOp a op b pos) (dOp rD wa wb):=⟨Qxh ho hd ha.h hb.h⟩
theorem QbE{a b:QV}{wa wb:DE}{pos:Pos}{r:R2}{rD:Qa->Qa->(Qa->Prop)->Prop}{op:QsY}(ho:OpR X (compareOp op) r)(hd:OpD r rD)(ha:QE .P X E a wa)(hb:QE .P X E b wb)(hm:behindInMarks op b=false):QE .F X E (.Compare a [op] [b] pos) (dOp rD wa wb):=⟨Qxg ho hd ha.h hb.h hm⟩
theorem Z1{a b:QV}{wa wb:DE}{pos:Pos}{r:R2}{rD:Qa->Qa->(Qa->Prop)->Prop}{op:QsY}(ho:OpR X (compareOp op) r)(hd:OpD r rD)(ha:QE .P X E a wa)(hb:QE .P X E b wb)(hm:behindInMarks op b=false):QT X E (.Compare a [op] [b] pos) (dTst (dOp rD wa wb)):=⟨Qt0 ho hd ha.h hb.h hm⟩
theorem Qah{a b:QV}{wa wb:DE}{pos:Pos}{r:R2}{rD:Qa->Qa->(Qa->Prop)->Prop}(ho:IxR X r)(hd:Qry r rD)(ha:QE .P X E a wa)(hb:QE .P X E b wb)(hs:QiO b):QE .D X E (.Subscript a b pos) (dOp rD wa wb):=⟨QAd ho hd ha.h hb.h hs⟩
theorem QwR{a:QV}{wa:DE}{pos:Pos}(ha:QE .P X E a wa):QE .F X E (.UnaryOp .USub a pos) (dUn QBn wa):=⟨Qxc ha.h⟩
theorem QB3{a b c:QV}{wa wb wc:DE}{pos:Pos}{op op':QsY}{p q:Int->Int->Bool}(ho:OpR X (compareOp op) (rI0 λi j=>.bl (p i j)))(ho':OpR X (compareOp op') (rI0 λi j=>.bl (q i j)))(ha:QE .P X E a wa)(hb:QE .P X E b wb)(hc:QE .P X E c wc)(hm:lastMarks [op,op'] [b,c]=false:=by with_unfolding_all rfl):QE .F X E (.Compare a [op,op'] [b,c] pos) (dCh p q wa wb wc):=⟨QAe ho ho' ha.h hb.h hc.h hm⟩
theorem Qma{e:QV}{w:DE}(h:QE .P X E e w)(he:∀whole,isTrue e X.env whole=(do let v <- whole;standAt e.pos;holding [v] (truthy v)):=by intro _;rfl):QT X E e (dTru w):=⟨QtY h.h he⟩
theorem YO{e:QV}{w:DE}(h:QE .P X E e w)(he:∀whole,isTrue e X.env whole=(do let v <- whole;standAt e.pos;holding [v] (truthy v)):=by intro _;rfl):QT X E e (dTst w):=⟨QtX h.h he⟩
theorem Qii{a:QV}{pos:Pos}{ta:DT}(ha:QT X E a ta):QW X E (.BoolOp .And [a] pos) ta:=⟨Qpe ha.h⟩
theorem Ql9{a b:QV}{rest:List QV}{pos:Pos}{ta tb:DT}(ha:QT X E a ta)(hb:QW X E (.BoolOp .And (b::rest) pos) tb):QW X E (.BoolOp .And (a::b::rest) pos) (QBJ ta tb):=⟨QtW ha.h hb.h⟩
theorem Qe7{a b:QV}{rest:List QV}{pos:Pos}{wa wb:DE}(ha:QE .P X E a wa)(hb:QE .D X E (.BoolOp .And (b::rest) pos) wb):QE .D X E (.BoolOp .And (a::b::rest) pos) (Qyn wa wb):=⟨Qxi ha.h hb.h⟩
theorem Qcg{a:QV}{pos:Pos}{ta:DT}(ha:QT X E a ta):QW X E (.BoolOp .Or [a] pos) ta:=⟨QtV ha.h⟩
theorem QdX{a b:QV}{rest:List QV}{pos:Pos}{ta tb:DT}(ha:QT X E a ta)(hb:QW X E (.BoolOp .Or (b::rest) pos) tb):QW X E (.BoolOp .Or (a::b::rest) pos) (dOr ta tb):=⟨Qw6 ha.h hb.h⟩
theorem QzZ{a b:QV}{rest:List QV}{pos:Pos}{wa wb:DE}(ha:QE .P X E a wa)(hb:QE .D X E (.BoolOp .Or (b::rest) pos) wb):QE .D X E (.BoolOp .Or (a::b::rest) pos) (QBz wa wb):=⟨QAc ha.h hb.h⟩
theorem Qkt{e:QV}{t:DT}(h:QW X E e t):QT X E e t:=⟨PW.pt h.h⟩
theorem YQ{a:QV}{pos:Pos}{ta:DT}(ha:QT X E a ta):QT X E (.UnaryOp .Not a pos) (QBA ta):=⟨QtZ ha.h⟩
theorem Qew{op}{a:QV}{pos:Pos}{w:DE}(h:QE .D X E a w):QE .D X E (.BoolOp op [a] pos) w:=⟨Qxa h.h⟩
theorem Qz0{a:QV}{pos:Pos}{wa:DE}(ha:QE .P X E a wa):QE .D X E (.UnaryOp .Not a pos) (Qyi wa):=⟨Qxb ha.h⟩
theorem Qz1{c a b:QV}{pos:Pos}{ta:DT}{wa wb:DE}(hc:QT X E c ta)(ha:QE .D X E a wa)(hb:QE .D X E b wb):QE .D X E (.IfExp c a b pos) (QBF ta wa wb):=⟨Qxf hc.h ha.h hb.h⟩
theorem Je{m:Md}:QA 0 m X E [] QBB:=⟨Quc⟩
theorem YZ{n:Nat}{e:QV}{es:List QV}{we:DE}{wr:DAr}(he:QE .D X E e we)(hr:QA n .D X E es wr)(hs:notStar e=true:=by rfl):QA (n+1) .D X E (e::es) (Qnu we wr):=⟨Qms he.h hr.h hs⟩
theorem QaV{n:Nat}{e:QV}{es:List QV}{we:DE}{wr:DAr}(he:QE .P X E e we)(hr:QA n .P X E es wr)(hs:notStar e=true:=by rfl):QA (n+1) .P X E (e::es) (Qnu we wr):=⟨Qmr he.h hr.h hs⟩
theorem Y7{n:Nat}{es:List QV}{w:DAr}{x1}{pos:Pos}(h:QA n .D X E es w)(hn:n<=1000:=by decide):QE .F X E (.Tuple es x1 pos) (QBw w):=⟨Qw9 h.h hn⟩
theorem Qgb{n:Nat}{es:List QV}{w:DAr}{pos:Pos}(h:QA n .D X E es w)(hn:n<=1000:=by decide):QE .F X E (.List es pos) (QBC w):=⟨Qxd h.h hn⟩
theorem Zb{x:Str}{bid:String}{p pos:Pos}{e:QV}{es:List QV}{n:Nat}{wr:DAr}{r:List V->Hp->VK->Prop}{rD:List Qa->(Qa->Prop)->Prop}(hc:CallR X (.builtin bid) r)(hd:Qbs r rD)(hg:Gl X x)(hm:X.mg x=none)(hv:bootBuiltins x=some (.builtin bid))(ha:QA n .P X E (e::es) wr)(hn:x ≠ "__name__" := by decide)(hdb:(x == ("__debug__" : Str))=false:=by decide)(he:starEach (e::es) X.env=(false,eval e X.env)::starEach es X.env:=by rfl)(hpl:(backTo pos (starEach es X.env)).any (·.1)=false:=by rfl):QE .F X E (.Call (.Name x p) (e::es) [] pos) (dCB rD wr):=⟨Qpy hc hd hg hm hv ha.h hn hdb he hpl⟩
theorem Y2{x:Str}{T:String}{p pos:Pos}{e:QV}{es:List QV}{n:Nat}{wr:DAr}{r:List V->Hp->VK->Prop}{rD:List Qa->(Qa->Prop)->Prop}(hc:CallR X (.type T) r)(hd:Qbs r rD)(hg:Gl X x)(hm:X.mg x=none)(hv:bootBuiltins x=some (.type T))(ha:QA n .P X E (e::es) wr)(hn:x ≠ "__name__" := by decide)(hdb:(x == ("__debug__" : Str))=false:=by decide)(he:starEach (e::es) X.env=(false,eval e X.env)::starEach es X.env:=by rfl)(hpl:(backTo pos (starEach es X.env)).any (·.1)=false:=by rfl):QE .F X E (.Call (.Name x p) (e::es) [] pos) (dCB rD wr):=⟨Qmv hc hd hg hm hv ha.h hn hdb he hpl⟩
theorem QdK{e:QV}{we:DE}{p pos pos2:Pos}{x:Str}(tn:Tn)(hg:Gl X "isinstance")(hm:X.mg "isinstance" = none)(he:QE .P X E e we)(hg2:Gl X x)(hm2:X.mg x=none)(hv:bootBuiltins x=some (.type tn.s))(hn:x ≠ "__name__" := by decide)(hd:(x == ("__debug__" : Str))=false:=by decide)(h1:notStar e=true:=by rfl):QE .F X E (.Call (.Name "isinstance" p) [e,.Name x pos2] [] pos) (Qyl tn we):=⟨Quf tn hg hm he.h (QAg tn hg2 hm2 hv hn hd) h1 rfl⟩
theorem Qct  : QO X E none dNo:=⟨Qpq⟩
theorem Qcs{e:QV}{we:DE}(he:QE .P X E e we):QO X E (some e) (dSo we):=⟨Qpp he.h⟩
theorem Qcu{e:QV}{lo hi:Option QV}{we:DE}{wl wh:DO}{p2 pos:Pos}(he:QE .P X E e we)(hl:QO X E lo wl)(hh:QO X E hi wh):QE .F X E (.Subscript e (.Slice lo hi none p2) pos) (dSl we wl wh):=⟨Qpw he.h hl.h hh.h⟩
theorem Qjj{e:QV}{w:DE}{p p2 pos pos2:Pos}(hg:Gl X "list")(hm:X.mg "list" = none)(hg2:Gl X "range")(hm2:X.mg "range" = none)(h:QE .P X E e w)(hc:X.calm=true:=by rfl)(hs:notStar e=true:=by rfl):QE .F X E (.Call (.Name "list" p) [.Call (.Name "range" p2) [e] [] pos2] [] pos) (Qyk w):=⟨Qmt hg hm hg2 hm2 h.h hc hs⟩
theorem Jg  : QAs X E [] QBa:=⟨Qt4⟩
theorem J5{e:QV}{es:List QV}{we:DE}{wr:DSl}(he:QE .D X E e we)(hr:QAs X E es wr)(hs:notStar e=true:=by rfl):QAs X E (e::es) (sV we wr):=⟨QAa he.h hr.h hs⟩
theorem Qch(i:Nat){x:Str}{pos:Pos}{es:List QV}{wr:DSl}(hr:QAs X E es wr)(hN:X.N[i]? = some x:=by rfl)(hv:Vis X.env.scope x:=by first | exact QN rfl | exact QK (QN rfl) | exact QK (QK rfl))(hd:(x == ("__debug__" : Str))=false:=by decide)(hcd:(x == ("__classdict__" : Str))=false:=by decide):QAs X E (.Name x pos::es) (QzP i wr):=⟨Qt2 (pv i hN hv hd hcd) hr.h rfl⟩
theorem Jw{CX:CXT}{k:Nat}{f:Addr}{fd:QM}{ps:List Str}{x:Str}{p pos:Pos}{e:QV}{es:List QV}{fD:DF}{wa:DSl}(G:FnOk X.prog X.w X.K X.mg X.base CX k f fd ps (JH false fD))(hr:Room k X.A)(hg:Gl X x)(hm:X.mg x=some (.ref f))(hk:PySem.W.keepIn X.K (.ref f)=true)(hb:Binds X.K fd ps [])(hx:QeW CX X E)(ha:QAs X E (e::es) wa)(hdb:(x == ("__debug__" : Str))=false:=by decide)(he:starEach (e::es) X.env=(false,eval e X.env)::starEach es X.env:=by rfl)(hpl:(backTo pos (starEach es X.env)).any (·.1)=false:=by rfl):QE .D X E (.Call (.Name x p) (e::es) [] pos) (Qnv fD wa):=⟨Qui G hr hg hm hk hb hx ha.h hdb he hpl⟩
theorem Y3{CX:CXT}{k:Nat}{f:Addr}{fd:QM}{ps:List Str}{x:Str}{p pos:Pos}{e:QV}{es:List QV}{fD:DF}{wa:DSl}(G:FnOk X.prog X.w X.K X.mg X.base CX k f fd ps (JH true fD))(hr:Room k X.A)(hg:Gl X x)(hm:X.mg x=some (.ref f))(hk:PySem.W.keepIn X.K (.ref f)=true)(hb:Binds X.K fd ps [])(hx:QeW CX X E)(ha:QAs X E (e::es) wa)(hdb:(x == ("__debug__" : Str))=false:=by decide)(he:starEach (e::es) X.env=(false,eval e X.env)::starEach es X.env:=by rfl)(hpl:(backTo pos (starEach es X.env)).any (·.1)=false:=by rfl):QE .F X E (.Call (.Name x p) (e::es) [] pos) (Qnv fD wa):=⟨Qpx G hr hg hm hk hb hx ha.h hdb he hpl⟩
theorem QwU{k:Nat}{f:Addr}{fd:QM}{ps:List Str}{x y:Str}{p pos pos2:Pos}{b:QV}{wb:DE}(i:Nat)(G:FnOk X.prog X.w X.K X.mg X.base CX0 k f fd ps (QcW X.K))(hr:Room k X.A)(hg:Gl X x)(hm:X.mg x=some (.ref f))(hk:PySem.W.keepIn X.K (.ref f)=true)(hb:Binds X.K fd ps [])(h:QE .P X E b wb)(hN:X.N[i]? = some y:=by rfl)(hv:Vis X.env.scope y:=by first | exact QN rfl | exact QK (QN rfl) | exact QK (QK rfl))(hd:(y == ("__debug__" : Str))=false:=by decide)(hcd:(y == ("__classdict__" : Str))=false:=by decide)(h2:notStar b=true:=by rfl)(hdb:(x == ("__debug__" : Str))=false:=by decide):QE .F X E (.Call (.Name x p) [.Name y pos2,b] [] pos) (Qvj i wb):=⟨Quh G hr hg hm hk hb (pv i hN hv hd hcd) h.h rfl h2 hdb⟩
theorem QwT{y:Str}{p pos pos2:Pos}(i:Nat)(hg:Gl X "len")(hm:X.mg "len" = none)(hN:X.N[i]? = some y:=by rfl)(hv:Vis X.env.scope y:=by first | exact QN rfl | exact QK (QN rfl) | exact QK (QK rfl))(hd:(y == ("__debug__" : Str))=false:=by decide)(hcd:(y == ("__classdict__" : Str))=false:=by decide):QE .F X E (.Call (.Name "len" p) [.Name y pos2] [] pos) (Qvi i):=⟨Que hg hm (pv i hN hv hd hcd) rfl⟩
theorem ZF(i:Nat){x:Str}{pos:Pos}(hN:X.N.Nodup)(hi:X.N[i]? = some x)(hx:Loc X.env.scope x)(hf:X.fn x=true∨X.env.scope.names.lookup x=some .local:=by first | exact .inl rfl | exact .inr rfl | assumption):QG [i] X (.Name x pos) (gN i):=⟨Qpv (Qex hN hi hx hf)⟩
structure QGs (X:Cx) (es:List QV) (is:List Nat):Prop where h:PGs X es (gNs is)
theorem Yd  : QGs X [] []:=⟨Qmj⟩
theorem Jj(i:Nat){is:List Nat}{x:Str}{pos:Pos}{es:List QV}(h:QGs X es is)(hN:X.N.Nodup)(hi:X.N[i]? = some x)(hx:Loc X.env.scope x)(hf:X.fn x=true∨X.env.scope.names.lookup x=some .local:=by first | exact .inl rfl | exact .inr rfl | assumption)(hs:(assignEach (.Name x pos::es) X.env).map (·.2)=assign (.Name x pos) X.env::(assignEach es X.env).map (·.2):=by rfl):QGs X (.Name x pos::es) (i::is):=⟨Qgf (Qex hN hi hx hf) h.h hs⟩
theorem Yc{es:List QV}{k:Nat}{pos:Pos}{is:List Nat}(hc:X.calm=true)(h:QGs X es is)(hn:(assignEach es X.env).length=is.length:=by rfl)(hst:(assignEach es X.env).findIdx? (·.1)=none:=by rfl):QG is X (.Tuple es k pos) (gTN is):=⟨Qub (Qr9 hc h.h hn hst) rfl⟩
theorem Qev{m:Md}{tg e:QV}{w:DE}(h:QE m X E e w):QI m X E tg e (QBE w):=⟨Qpu h.h⟩
theorem Qar{m:Md}{tg e:QV}{w:DE}(h:QE m X E e w):QI m X E tg e (QBD w):=⟨Qua h.h⟩
theorem Qbi{m:Md}{tg e:QV}{w:DE}{p pos:Pos}(hg:Gl X "range")(hm:X.mg "range" = none)(h:QE .P X E e w)(hs:notStar e=true:=by rfl):QI m X E tg (.Call (.Name "range" p) [e] [] pos) (Qyg w):=⟨Qpt hg hm h.h hs⟩
theorem Qji{m:Md}{e:QV}{w:DE}{p pos tpos:Pos}{elts:List QV}{x1}(hg:Gl X "enumerate")(hm:X.mg "enumerate" = none)(h:QE m X E e w)(hs:notStar e=true:=by rfl):QI m X E (.Tuple elts x1 tpos) (.Call (.Name "enumerate" p) [e] [] pos) (QBH w):=⟨Qmq hg hm h.h hs⟩
theorem QtE{m:Md}{e e':QV}{w w':DE}{p pos tpos:Pos}{elts:List QV}{x1}(hg:Gl X "zip")(hm:X.mg "zip" = none)(h:QE m X E e w)(h':QE m X E e' w')(hs:notStar e=true:=by rfl)(hs':notStar e'=true:=by rfl):QI m X E (.Tuple elts x1 tpos) (.Call (.Name "zip" p) [e,e'] [] pos) (QBv w w'):=⟨Qps hg hm h.h h'.h hs hs'⟩
theorem Qjh{m:Md}{e:QV}{w:DE}{p pos tpos:Pos}{elts:List QV}{x1}(hg:Gl X "enumerate")(hm:X.mg "enumerate" = none)(h:QE m X E e w)(hs:notStar e=true:=by rfl):QI m X E (.Tuple elts x1 tpos) (.Call (.Name "enumerate" p) [e] [] pos) (QBG w):=⟨Qmp hg hm h.h hs⟩
theorem QtD{m:Md}{e e':QV}{w w':DE}{p pos tpos:Pos}{elts:List QV}{x1}(hg:Gl X "zip")(hm:X.mg "zip" = none)(h:QE m X E e w)(h':QE m X E e' w')(hs:notStar e=true:=by rfl)(hs':notStar e'=true:=by rfl):QI m X E (.Tuple elts x1 tpos) (.Call (.Name "zip" p) [e,e'] [] pos) (QBu w w'):=⟨Qpr hg hm h.h h'.h hs hs'⟩
theorem Z3  : QTs X E [] Qy0:=⟨Qpg⟩
theorem QbB{c:QV}{t:DT}(h:QT X E c t):QTs X E [c] t:=⟨Qpf h.h⟩
theorem Y9(M:List Str)(cap:List (Option Nat)){elt tg iter:QV}{ifs:List QV}{scope:Y0}{pos:Pos}{ix:List Nat}{wi:DI}{wg:DG}{wt:DT}{we:DE}(hi:QI .P X E tg iter wi)(hb:∀cl ex s3 H3 C,QG ix (blk X M scope cl ex s3 H3 C) tg wg/\QTs (blk X M scope cl ex s3 H3 C) E0 ifs wt/\QE .D (blk X M scope cl ex s3 H3 C) E0 elt we)(hc:X.calm=true:=by rfl)(ok:Qfc X.N X.env.scope M scope cap=true:=by rfl)(hf:Qcy cap ix=true:=by rfl)(hs:∀x,foldedSetIterable iter X.env x=pure x:=by intro _;rfl):QE .F X E (.ListComp elt [⟨tg,iter,ifs,0⟩] scope pos) (dComp cap wi wg wt we):=⟨Qug hc ok hf hi.h (λcl ex s3 H3 C=>⟨(hb cl ex s3 H3 C).1.h,(hb cl ex s3 H3 C).2.1.h,(hb cl ex s3 H3 C).2.2.h⟩) hs⟩
theorem ZE  : QSs X E [] Qyd:=⟨Qph⟩
theorem QY{st:ZY}{w:DS}(h:QS X E st w):QSs X E [st] w:=⟨Qt3 h.h⟩
theorem QC{st:ZY}{rest:List ZY}{w w':DS}(h:QS X E st w)(h':QSs X E rest w'):QSs X E (st::rest) (QBx w w'):=⟨Qpn h.h h'.h⟩
theorem QbC{sts:List ZY}:QSs X E sts (λ_ _=>False):=⟨Qmn⟩
theorem ZI(i:Nat){x:Str}{e:QV}{pos pos':Pos}{we:DE}(he:QE .D X E e we)(hN:X.N.Nodup)(hi:X.N[i]? = some x:=by rfl)(hx:Loc X.env.scope x:=by first | exact QN rfl | exact QK rfl)(hs:swapsWith e (some (.Name x pos')) pos.line X.env=pure false:=by rfl)(hf:X.fn x=true∨X.env.scope.names.lookup x=some .local:=by first | exact .inl rfl | exact .inr rfl | assumption):QS X E (.Assign [.Name x pos'] e pos) (QyZ i we):=⟨Qim (QdL hN hi hx he.h hs hf)⟩
theorem Qet(i:Nat){x:Str}{e:QV}{pos pos':Pos}{we:DE}(he:QE .F X E e we)(hN:X.N.Nodup)(hi:X.N[i]? = some x:=by rfl)(hx:Loc X.env.scope x:=by first | exact QN rfl | exact QK rfl)(hs:swapsWith e (some (.Name x pos')) pos.line X.env=pure false:=by rfl)(hf:X.fn x=true∨X.env.scope.names.lookup x=some .local:=by first | exact .inl rfl | exact .inr rfl | assumption):QS X E (.Assign [.Name x pos'] e pos) (Qyf i we):=⟨Qpj (QdL hN hi hx he.h hs hf)⟩
theorem QtB(i:Nat){x:Str}{e:QV}{pos pos':Pos}{we:DE}(he:QE .F X E e we)(hN:X.N.Nodup)(hi:X.N[i]? = some x:=by rfl)(hx:Loc X.env.scope x:=by first | exact QN rfl | exact QK rfl)(hs:swapsWith e (some (.Name x pos')) pos.line X.env=pure false:=by rfl)(hf:X.fn x=true∨X.env.scope.names.lookup x=some .local:=by first | exact .inl rfl | exact .inr rfl | assumption):QS X E (.Assign [.Name x pos'] e pos) (Qye i we):=⟨Qpi (QdL hN hi hx he.h hs hf)⟩
theorem QbD{tg e:QV}{pos:Pos}{ix:List Nat}{we:DE}{wg:DG}(he:QE .D X E e we)(hg:QG ix X tg wg)(hs:swapsWithSole [tg] e pos.line X.env=pure false:=by rfl)(hw:swappedStores [tg] e X.env=pure none:=by rfl)(h1:(assignEach [tg] X.env).map (·.2)=[assign tg X.env]:=by rfl):QS X E (.Assign [tg] e pos) (QBI we wg):=⟨Qt8 (Qr6 he.h hg.h hs hw h1)⟩
theorem Zz{e:QV}{pos:Pos}{we:DE}(h:QE .D X E e we):QS X E (.Return (some e) pos) (QBy we):=⟨Qt1 h.h⟩
theorem ZW{e:QV}{pos:Pos}{we:DE}(h:QE .F X E e we):QS X E (.Return (some e) pos) (Qyh we):=⟨Qpl h.h⟩
theorem Qmb(i:Nat){x:Str}{pos pos2:Pos}(hN:X.N[i]? = some x:=by rfl)(hv:Vis X.env.scope x:=by first | exact QN rfl | exact QK (QN rfl) | exact QK (QK rfl))(hd:(x == ("__debug__" : Str))=false:=by decide)(hcd:(x == ("__classdict__" : Str))=false:=by decide):QS X E (.Return (some (.Name x pos)) pos2) (Qvh i):=⟨Qpk (pv i hN hv hd hcd)⟩
theorem QaI{c:QV}{a b:List ZY}{pos:Pos}{t:DT}{w w':DS}(hc:QT X E c t)(ha:QSs X E a w)(hb:QSs X E b w'):QS X E (.If c a b pos) (dIf t w w'):=⟨Qw7 hc.h ha.h hb.h⟩
theorem Qr4(i:Nat){x:Str}{e:QV}{we:DE}{op:QcP}{ti:TIp}{rD:Qa->Qa->(Qa->Prop)->Prop}{pos pos':Pos}(ho:PIp X op ti)(hd:Qry ti rD)(he:QE .P X E e we)(hN:X.N.Nodup)(hi:X.N[i]? = some x:=by rfl)(hx:Loc X.env.scope x:=by first | exact QN rfl | exact QK rfl)(hf:X.fn x=true∨X.env.scope.names.lookup x=some .local:=by first | exact .inl rfl | exact .inr rfl | assumption):QS X E (.AugAssign (.Name x pos') op e pos) (QAU i rD we):=⟨Qt7 hd (QwZ hN hi hx he.h (PIp.len ho) hf)⟩
theorem QwQ{y:Str}{e:QV}{we:DE}{apos cpos pos npos:Pos}(i:Nat)(he:QE .D X E e we)(hN:X.N[i]? = some y:=by rfl)(hv:Vis X.env.scope y:=by first | exact QN rfl | exact QK (QN rfl) | exact QK (QK rfl))(hd:(y == ("__debug__" : Str))=false:=by decide)(hcd:(y == ("__classdict__" : Str))=false:=by decide)(hst:notStar e=true:=by rfl)(hbase:attributeBase (.Name y npos) "append" X.env (eval (.Name y npos) X.env)=eval (.Name y npos) X.env:=by rfl)(hfew:((backTo cpos (starEach [e] X.env)).all (λx => !x.1)&&(backToKw cpos (keywordEach [] X.env)).all (λx=>x.1.isSome)&&decide ([e].length+([]:List QcS).length+(if([]:List QcS).isEmpty then 0 else 1)<30))=true:=by rfl)(hline:(apos.endLine == cpos.line)=true:=by rfl)(hsw:swapsWith (.Call (.Attribute (.Name y npos) "append" apos) [e] [] cpos) none pos.line X.env=pure false:=by rfl):QS X E (.Expr (.Call (.Attribute (.Name y npos) "append" apos) [e] [] cpos) pos) (QAV i we):=⟨Qt9 (Qgd (Qpd PySem.F.plainAttrs_list PySem.F.slot_list_append PySem.F.type_list_append QeA (pv i hN hv hd hcd) (QcM he.h ZN hst) hbase hfew hline (ZD hst) rfl) hsw)⟩
theorem QtC{y:Str}{e k:QV}{we wk:DE}{op:QcP}{ti:TIp}{rD:Qa->Qa->(Qa->Prop)->Prop}{pos tpos npos:Pos}(i:Nat)(ho:PIp X op ti)(hd:Qry ti rD)(hk:QE .P X E k wk)(he:QE .P X E e we)(hN:X.N[i]? = some y:=by rfl)(hv:Vis X.env.scope y:=by first | exact QN rfl | exact QK (QN rfl) | exact QK (QK rfl))(hdd:(y == ("__debug__" : Str))=false:=by decide)(hcd:(y == ("__classdict__" : Str))=false:=by decide)(ha:∀ov iv new,augStore k ov iv new=(do holding [new,ov,iv] (setItem ov iv new);release [new,ov,iv] [];pure .next):=by intros;rfl):QS X E (.AugAssign (.Subscript (.Name y npos) k tpos) op e pos) (Qvk i rD wk we):=⟨Qpo hd (QtJ (pv i hN hv hdd hcd) hk.h Qrc he.h (PIp.len ho) Qja ha)⟩
theorem Qci{tg iter:QV}{body:List ZY}{pos:Pos}{ix:List Nat}{wi:DI}{wg:DG}{wb:DS}(hp:QfP (model X.prog X.w) X.A X.env X.xe)(hc:X.calm=true)(hi:QI .D X E tg iter wi)(hg:QG ix X tg wg)(hb:QSs X E body wb)(hs:∀x,foldedSetIterable iter X.env x=pure x:=by intro _;rfl):QS X E (.For tg iter body [] pos) (dFor wi wg wb):=⟨Qt6 hp hc hi.h hg.h hb.h hs⟩
theorem Qmc{e:QV}{we:DE}{pos:Pos}(he:QE .P X E e we)(hs:swapsWith e none pos.line X.env=pure false:=by rfl):QS X E (.Expr e pos) (Qym we):=⟨Qpm (Qgd he.h hs)⟩
end
section
variable{P:QF}{w:Jk}{K:PySem.W.Frag}{mg:Str->Option Value}{base:Heap}
theorem okQ{x qual:Str}{st:ZY}{f:Addr}{fd:QM}{N ps:List Str}{k:Nat}{fD:DF}(fr:Bool)(F:Fun K x qual st f fd)(S:Jm N ps (Qq st))(len:∀args R EX,fD args R EX->args.length=ps.length)
  (hbody:∀(cdv:Value)(A:Q9)(outer:List Env)(s:Shared)(H:Hp)(E:XK),Room k (A.deeper (envOfC qual (Qq st) s.heap.objs.size f cdv)) ->
   ∃wd,QSs (Qoi CX0 P w K mg base N qual (Qq st) f cdv A outer s H E).nox E0 (Jl st) wd/\∀args R EX,fD args R EX->wd (Qvc fr R XF) (stD N args)):FnOk P w K mg base CX0 (k+1) f fd ps (JH fr fD):=
 okD fr F S len λcdv A outer s H E hr=>let ⟨wd,h,q⟩:=hbody cdv A outer s H E hr;⟨wd,h.h,q⟩
theorem QB4{x qual:Str}{st:ZY}{f:Addr}{fd:QM}{N:List Str}{p:Str}{k:Nat}(F:Fun K x qual st f fd)(S:Jm N [p] (Qq st))
  (hbody:∀(cdv:Value)(A:Q9)(outer:List Env)(s:Shared)(H:Hp)(E:XK),Room k (A.deeper (envOfC qual (Qq st) s.heap.objs.size f cdv)) ->
   ∃wd,QSs (Qoi CX0 P w K mg base N qual (Qq st) f cdv A outer s H E).nox E0 (Jl st) wd/\wd Qx7 (stD N [.scr])):FnOk P w K mg base CX0 (k+1) f fd [p] (Qff K):=
 QAm F S λcdv A outer s H E hr=>let ⟨wd,h,q⟩:=hbody cdv A outer s H E hr;⟨wd,h.h,q⟩
end
structure GOk (wg:DG):Prop where h:∀d δ Q,wg d δ Q->wg d δ λδ'=>(∀(j:Nat) x,δ'[j]? = some x->(∃e,x=.v e)∨δ[j]? = some x)/\Q δ'
theorem Qra(i:Nat):GOk (gN i):=⟨λd δ Q h=>⟨λj x e=>by
 by_cases z:j=i
 ·subst z;exact .inl ⟨d,set_eq e⟩
 ·rw[Qaj z] at e;exact .inr e,h⟩⟩
theorem QdI:∀(is:List Nat)(ds:List Qa)(δ:Sts)(j:Nat)(x:Sl),(Qep δ is ds)[j]? = some x->(∃e,x=.v e)∨δ[j]? = some x
 |[],_,δ,j,x,h=>.inr (by simpa [Qep] using h)
 |_::_,[],δ,j,x,h=>.inr (by simpa [Qep] using h)
 |i::is,d::ds,δ,j,x,h=>by
  rcases QdI is ds _ j x h with z | z
  ·exact .inl z
  ·by_cases y:j=i
   ·subst y;exact .inl ⟨d,set_eq z⟩
   ·rw[Qaj y] at z;exact .inr z
theorem Qu6(is:List Nat):GOk (gTN is):=⟨λd δ Q h=>by
 unfold gTN at h ⊢;split at h
 ·exact⟨h.1,QdI is _ δ,h.2⟩
 ·exact h.elim⟩
theorem Qne{cap:List (Option Nat)}{ix:List Nat}(hf:Qcy cap ix=true){i:Nat}(hi:i∈ix):cap[i]? = some none:=by
 have:=JW.mp hf i hi;split at this
 ·assumption
 ·cases this
theorem Qee{cap:List (Option Nat)}{ix:List Nat}(hf:Qcy cap ix=true){δ:Sts}{i:Nat}{x:Sl}(h:(Qeg cap δ)[i]? = some x)(hx:x≠.no):i∉ix:=λz=>by
 rcases Qgy h with⟨_,e⟩ | ⟨j,hj,_⟩
 ·exact hx e
 ·rw[Qne hf z] at hj;cases hj
section
variable{K:PySem.W.Frag}{σ σ4:L2.St}{δ δ4:Sts}{cap:List (Option Nat)}{ix:List Nat}{A1:Addr->Prop}{H3 H5 H6:Hp}
theorem Qsq(hP:∀a,Yj σ δ a->A1 a)(hf:Qcy cap ix=true)(j4:∀j,j∉ix->σ4[j]? = (Qc8 cap σ)[j]?)(gk:∀(j:Nat) x,δ4[j]? = some x->(∃e,x=.v e)∨(Qeg cap δ)[j]? = some x){a:Addr}(h:Av (inF A1 cap σ δ H3) σ4 δ4 a):A1 a:=by
 rcases h with z | ⟨i,h1,h2⟩
 ·exact z
 ·refine(QjI (cap:=cap) (H:=H3) hP).mp ?_
  rcases h2 with h2 | ⟨ds,h2⟩
  ·rcases gk i _ h2 with⟨e,z⟩ | z
   ·cases z
   ·exact .inr ⟨i,by rw[<- j4 i (Qee hf z (λz=>by cases z))];exact h1,.inl z⟩
  ·rcases gk i _ h2 with⟨e,z⟩ | z
   ·cases z
   ·exact .inr ⟨i,by rw[<- j4 i (Qee hf z (λz=>by cases z))];exact h1,.inr ⟨ds,z⟩⟩
theorem Qu3(hP:∀a,Yj σ δ a->A1 a)(hf:Qcy cap ix=true)(j4:∀j,j∉ix->σ4[j]? = (Qc8 cap σ)[j]?)(gk:∀(j:Nat) x,δ4[j]? = some x->(∃e,x=.v e)∨(Qeg cap δ)[j]? = some x)
  (ri:Rel K (inF A1 cap σ δ H6) (Qc8 cap σ) H6 (Qeg cap δ))(r5:Rel K (inF A1 cap σ δ H3) σ4 H5 δ4)(kk:∀a o,¬A1 a->H5 a=some o->H6 a=some o):Rel K (inF A1 cap σ δ H6) σ4 H6 δ4 where
 len:=r5.len
 dom:=ri.dom
 dom0:=ri.dom0
 pt0:=ri.pt0
 kx:=ri.kx
 sl:=λi o x h1 h2=>by
  have iv:∀{a:Addr},Av (inF A1 cap σ δ H6) σ4 δ4 a->A1 a:=λ{a} z=>Qsq hP hf j4 gk z
  rcases gk i x h2 with⟨d,rfl⟩ | hx
  ·obtain⟨v,e,q⟩:=r5.sl i o _ h1 h2;exact⟨v,e,q.mv (λa o n e=>kk a o (λz=>n (.inl z)) e) λa z=>.inl (.inl (iv z))⟩
  ·by_cases hn:x=.no
   ·subst hn;trivial
   ·have h1':(Qc8 cap σ)[i]? = some o:=by rw[<- j4 i (Qee hf hx hn)];exact h1
    have h:=ri.sl i o x h1' hx;cases x with
    |no=>trivial
    |v d=>obtain⟨v',e,q'⟩:=h;exact⟨v',e,q'.mv (λ_ _ _ e=>e) λa z=>.inl (.inl (iv z))⟩
    |own ds=>obtain⟨l,xs,e,e2,q',f⟩:=h;exact⟨l,xs,e,e2,q'.mv (λ_ _ _ e=>e) λa z=>.inl (.inl (iv z)),f⟩
    |pk ds=>obtain⟨l,xs,e,e2,q',f⟩:=h;exact⟨l,xs,e,e2,q'.mv (λ_ _ _ e=>e) λa z=>.inl (.inl (iv z)),f⟩
    |pot=>exact h
    |scr=>exact h
 inj:=λi j a ds h1 h2 _=>by
  rcases gk i _ h1 with⟨e,z⟩ | z
  ·cases z
  ·rcases Qgy z with⟨_,e⟩ | ⟨j,hj,e⟩
   ·cases e
   ·exfalso
    cases e2:δ[j]? with
    |none=>rw[e2] at e;cases e
    |some y=>rw[e2] at e;cases y<;>cases e
end
theorem QoD{K:PySem.W.Frag}{F:Fm}{σ:L2.St}{δ:Sts}{H1 H3:Hp}{cap:List (Option Nat)}{ix:List Nat}{wg:DG}{wt:DT}{A1:Addr->Prop}{x:V}{d:Qa}{inner:L2.St->Hp->(Hp->Prop)->Prop}{kk:Hp->Prop}{T:Sts->Prop}{N:Prop}(gok:GOk wg)
  (hf:Qcy cap ix=true)(rel:Rel K F σ H1 δ)(hA:∀a,Av F σ δ a->A1 a)(hN:∀a,A1 a->Av F σ δ a∨H1 a=none)(dm:∀a,A1 a->∃xs,H3 a=some (.lst xs))(kp:Kp σ δ H1 H3)(dx:DA A1 H3 x d)
  (h:wg d (Qeg cap δ) λδ4=>wt δ4 (λb=>if b=true then T δ4 else N) XF)
  (hT:∀σ4 δ4 H5,T δ4->Rel K (inF A1 cap σ δ H3) σ4 H5 δ4->Kp σ δ H3 H5->(∀j,j∉ix->σ4[j]? = (Qc8 cap σ)[j]?)->σ4.length=(Qc8 cap σ).length->(∀(j:Nat) x,δ4[j]? = some x->(∃e,x=.v e)∨(Qeg cap δ)[j]? = some x)->inner σ4 H5 kk)(hF:N->∀H5,Kp σ δ H3 H5->kk H5) :
  bOf (Qc8 cap σ) (tG ix K wg) (tT K E0 wt) inner x H3 kk:=by
 have ri:=Qm6 (cap:=cap) rel hA hN dm kp;have iv:∀{a:Addr},Av (inF A1 cap σ δ H3) (Qc8 cap σ) (Qeg cap δ) a->A1 a:=λ{a}=>(QjI λa z=>hA a (Qaa z)).mp
 refine⟨inF A1 cap σ δ H3,Qeg cap δ,d,_,ri,dx.mv (λ_ _ _ e=>e) λa z=>.inl (iv z),gok.h _ _ _ h,λδ4 ⟨g4,h4⟩ σ4 r4 st4 l4 j4=>⟨QsE hf l4 j4,inF A1 cap σ δ H3,δ4,_,XF,r4,h4,λb hb H5 r5 kp5=>?_,Qsc⟩⟩;have pots:∀{b:Addr},Yj σ4 δ4 b->Yj σ δ b:=λz=>Qiv r4 (λb o _ e1 e2=>by rw[e2] at e1;cases e1) z
 have K5:Kp σ δ H3 H5:=by
  refine⟨λb o n e=>kp5.1 b o (λz=>n (pots z)) e,λb hb=>?_⟩;by_cases z:Yj σ4 δ4 b
  ·exact kp5.2 b z
  ·obtain⟨n,e⟩:=kp.2 b hb;exact⟨n,kp5.1 _ _ z e⟩
 exact Qcl hb (λz=>hT σ4 δ4 H5 z r5 K5 j4 l4 g4) λz=>hF z H5 K5
theorem Qve{K:PySem.W.Frag}{σ σ4:L2.St}{δ δ4:Sts}{H1 H3 H5:Hp}{cap:List (Option Nat)}{we:DE}{A1:Addr->Prop}{p:Addr}{acc:List Qa}{kk:Hp->Prop}{G:Qa->Prop}
  (hpA:A1 p)(hP:∀a,Yj σ δ a->A1 a)(hp1:H1 p=none)(hpn:¬Yj σ δ p)(lp:Lp σ δ A1 p H1 H5 acc)(hl:acc.length<sizeLine)(r5:Rel K (inF A1 cap σ δ H3) σ4 H5 δ4)(pots:∀b,Yj σ4 δ4 b->Yj σ δ b)
  (h:we δ4 G XF)(hk:∀e,G e->∀H',Lp σ δ A1 p H1 H' (acc++[e])->(∀b o,¬A1 b->H5 b=some o->H' b=some o)->kk H'):Qyw p (tX .D K E0 we) σ4 H5 kk:=by
 refine⟨inF A1 cap σ δ H3,δ4,G,XF,r5,h,λe he v H6 r6 kp6 dv=>?_,Qsc⟩;have k56:Kp σ δ H5 H6:=by
  refine⟨λb o n e=>kp6.1 b o (λz=>n (pots b z)) e,λb hb=>?_⟩;by_cases z:Yj σ4 δ4 b
  ·exact kp6.2 b z
  ·obtain⟨n,e⟩:=lp.kp.2 b hb;exact⟨n,kp6.1 _ _ z e⟩
 obtain⟨k6,ys,e6,q6⟩:=lp.step hP hpn k56;have up:∀{b:Addr}{o:HO},¬A1 b->H6 b=some o->upd H6 p (.lst (ys++[v])) b=some o:=λ{b o} n e=>by rw[JM (λz=>n (by rw[z];exact hpA))];exact e
 refine⟨ys,e6,by rw[q6.length];exact hl,hk e he _ ⟨⟨λb o n e=>?_,λb hb=>?_⟩,ys++[v],Jy,DAs.app (q6.mv (λ_ _=>up) λa z=>.inl z) (.cons (DA.mv dv (λa o n e=>up (λz=>n (.inl z)) e) λa z=>.inl (.inl z)) .nil)⟩ λb o n e=>up n (kp6.1 b o (λz=>n (hP b (pots b z))) e)⟩
 ·rw[JM (λz=>by rw[z,hp1] at e;cases e)];exact k6.1 b o n e
 ·rw[JM (λz=>hpn (by rw[<- z];exact hb))];exact k6.2 b hb
def Qp3:Nat:=1000000
@[irreducible] def InR(items2:List Qa)(wg2:DG)(wt2:DT)(we:DE)(δ4:Sts)(acc:List Qa)(N:List Qa->Prop):Prop:=∃Jv:Nat->List Qa->Prop,Jv 0 acc /\
 (∀(j:Nat) acc2 d2,items2[j]? = some d2->Jv j acc2->acc2.length<Qp3/\wg2 d2 δ4 λδ5=>wt2 δ5 (λb=>if b=true then we δ5 (λe=>Jv (j+1) (acc2++[e])) XF else Jv (j+1) acc2) XF)/\∀acc2,Jv items2.length acc2->N acc2
@[irreducible] def Qj1(items:List Qa)(wg:DG)(wt:DT)(wi2:DI)(wg2:DG)(wt2:DT)(we:DE)(δ:Sts)(Q:Qa->Prop):Prop:=∃Iv:Nat->List Qa->Prop,Iv 0 [] /\
 (∀(i:Nat) acc d,items[i]? = some d->Iv i acc->wg d δ λδ4=>wt δ4 (λb=>if b=true then wi2 δ4 (λitems2=>InR items2 wg2 wt2 we δ4 acc (Iv (i+1))) XF else Iv (i+1) acc) XF)/\∀acc,Iv items.length acc->Q (.list acc)
def Qsz(cap:List (Option Nat))(wi:DI)(wg:DG)(wt:DT)(wi2:DI)(wg2:DG)(wt2:DT)(we:DE):DE:=λδ Q EX=>wi δ (λitems=>Qj1 items wg wt wi2 wg2 wt2 we (Qeg cap δ) Q) EX
section
variable{X:Cx}{E:XK}
theorem Qp2:Qp3<=sizeLine:=QU (by decide) Qht
end
section
variable{X:Cx}{E:XK}
end
theorem Qx0{items2:List Qa}{wg2:DG}{wt2:DT}{we:DE}{δ4:Sts}{acc:List Qa}{N:List Qa->Prop}(G:Qa->Option Qa)(hl:acc.length+items2.length<Qp3)
  (h:∀d∈items2,∀(k1:Prop)(k2:Qa->Prop),(G d=none->k1)->(∀e,G d=some e->k2 e)->wg2 d δ4 λδ5=>wt2 δ5 (λb=>if b=true then we δ5 k2 XF else k1) XF)(q:N (acc++items2.filterMap G)) :
  InR items2 wg2 wt2 we δ4 acc N:=by
 unfold InR;refine⟨λi acc2=>acc2=acc++(items2.take i).filterMap G,by simp,λi acc2 d hd e=>?_,λacc2 e=>by rw[e,ZQ];exact q⟩;have e:acc2=acc++(items2.take i).filterMap G:=e;have hs:(items2.take (i+1)).filterMap G=(items2.take i).filterMap G++(G d).toList:=by
  rw[YF,hd,Qk5];cases e2:G d<;>simp[e2]
 refine⟨?_,h d (Ja hd) _ _ (λe2=>?_) λe' e2=>?_⟩
 ·have:=List.length_filterMap_le G (items2.take i);have h2:(items2.take i).length<=items2.length:=by rw[QaK];exact QfQ _ _
  rw[e,Qu];omega
 ·show acc2=acc++(items2.take (i+1)).filterMap G;rw[hs,e2,e];simp
 ·show acc2++[e']=acc++(items2.take (i+1)).filterMap G;rw[hs,e2,e];simp
def Ql7:List V->Hp->VK->Prop:=λxs H Q=>∃l ns,xs=[.ref l]/\H l=some (.lst ((ns:List Int).map V.int))/\ns.length<64 /\
 ∀t ms H2,Same H H2->H t=none->H2 t=some (.lst ((ms:List Int).map V.int))->ms.Perm ns->ms.Pairwise (·<=·)->Q (.ref t) H2
section
open Rs PySem.W PySem.Calls
variable{X:Cx}
theorem QiG:CallR X (.builtin "sorted") Ql7:=by
 intro pins s σ H xs us Q I r h;obtain⟨l,ns,rfl,hl,h64,q⟩:=h;obtain⟨u,rfl,ru⟩:=vals1 r;cases ru;obtain⟨hz,its,n,rv,ho⟩:=I.hok l _ hl;have li:=rv.length;rw[Qd] at li;refine Qby (.inl rfl) ho rfl rfl (by omega) λh' kp P E' hP=>?_
 have hn:(h'.push (seqObj "list" its.toArray 0)).get? h'.objs.size=some (seqObj "list" its.toArray 0):=Qr _ rfl;refine Qlc (s:={ s with heap:=h'.push (seqObj "list" its.toArray 0) }) hn (Qgm rv) (by omega) λout ns' ia pm pw=>hP _ ?_
 have I1:Inv X pins σ H { s with heap:=h' }:=I.kept (t':=s.toks) kp;have hf:H h'.objs.size=none:=I1.hok.fresh (Qg _);obtain⟨e,he⟩:∃e,(sortedHeap (h'.push (seqObj "list" its.toArray 0)) h'.objs.size its out).get? h'.objs.size=some (seqObj "list" out e):=Qom hn
 have rv':=Qeh ia;have lp:=pm.length_eq;have I2:Inv X pins σ (upd H h'.objs.size (.lst (ns'.map V.int))) { s with heap:=sortedHeap (h'.push (seqObj "list" its.toArray 0)) h'.objs.size its out }:=
  I1.laid (t':=s.toks) (λb x e'=>(Qlb (QD (Qk e')) (QP (Qk e') (by rw[Qzb];exact QdW _))).trans (Qe _ e')) (Qg _) (show ObjOk X.prog X.w _ _ _ (.lst _) from⟨by rw[Qd];exact Zq (Rk.Qa1 (by omega)),out.toList,e,rv',by rw[he]⟩)
 exact⟨.ref h'.objs.size,_,I2,rfl,q _ ns' _ (JI hf) hf Jy pm pw⟩
def Qr2(K:PySem.W.Frag):List V->Hp->VK->Prop:=λxs H Q=>Qr1 K xs H Q∨Ql7 xs H Q
theorem QkT:CallR X (.builtin "sorted") (Qr2 X.K):=by
 intro pins s σ H xs us Q I r h;rcases h with h | h
 ·exact QkS pins s σ H xs us Q I r h
 ·exact QiG pins s σ H xs us Q I r h
end
@[irreducible] def QlO:List Qa->(Qa->Prop)->Prop
 |[.list ds],Q=>∃ns,QaY ds=some ns/\ns.length<64/\∀ms:List Int,ms.Perm ns->ms.Pairwise (·<=·)->Q (.list (ms.map .int))
 |[.tuple ds],Q=>∃ns,QaY ds=some ns/\ns.length<64/\∀ms:List Int,ms.Perm ns->ms.Pairwise (·<=·)->Q (.list (ms.map .int))
 |_,_=>False
theorem Qb2{A:Addr->Prop}{H:Hp}:∀ms:List Int,DAs A H (ms.map V.int) (ms.map .int)
 |[]=>.nil
 |m::ms=>.cons (.int m) (Qb2 ms)
theorem Qvq{K:PySem.W.Frag}:Qbs (Qr2 K) QlO:=λA P H vs ds R Q ln dm q h k=>by
 unfold QlO at h;split at h
 ·obtain⟨v,rfl,hv⟩:=pd1 q;obtain⟨bs,hb,h64,hR⟩:=h;rw[Qdw hb] at hv;obtain⟨l,xs,rfl,e,qq⟩:=hv.list;rw[Qaz qq] at e;exact .inr ⟨l,bs,rfl,e,h64,λt ms H2 s n e2 pm pw=>k _ (hR ms pm pw) _ H2 s (Qc1 dm s n e2 (Qb2 ms)) (Qao n)⟩
 ·obtain⟨v,rfl,hv⟩:=pd1 q;obtain⟨bs,hb,h64,hR⟩:=h;rw[Qdw hb] at hv;obtain⟨l,xs,rfl,e,qq⟩:=hv.tuple;rw[Qaz qq] at e;exact .inl ⟨l,bs,rfl,SqT.of e,h64,λt ms H2 s n e2 pm pw=>k _ (hR ms pm pw) _ H2 s (Qc1 dm s n e2 (Qb2 ms)) (Qao n)⟩
 ·exact h.elim
theorem Qtj{ds:List Qa}{Q:Qa->Prop}{ns:List Int}(h:QaY ds=some ns)(h64:ns.length<64)(k:∀ms:List Int,ms.Perm ns->ms.Pairwise (·<=·)->Q (.list (ms.map .int))):QlO [.list ds] Q/\QlO [.tuple ds] Q:=by
 unfold QlO;exact⟨⟨ns,h,h64,k⟩,ns,h,h64,k⟩
def QCf(a b:DI):DI:=λδ R EX=>a δ R EX∨b δ R EX
theorem QzY{X:Cx}{E:XK}{m:Md}{tg e:QV}{a b:DI}(h:QI m X E tg e a)(h':QI m X E tg e b):QI m X E tg e (QCf a b):=⟨λpins s σ H R I ⟨F,δ,R',EX,rel,hw,k,o⟩=>by
 rcases hw with hw | hw
 ·exact h.h pins s σ H R I ⟨F,δ,R',EX,rel,hw,k,o⟩
 ·exact h'.h pins s σ H R I ⟨F,δ,R',EX,rel,hw,k,o⟩⟩
end Dl
namespace Rt
section
variable{c:Qa8->Qa8->Bool}
end
structure SB (κ:QbR) (a₀:Array Qa8) (st:SortSt):Prop where
 perm:(arrOf st).Perm a₀
 kind:kindOf st=κ
 failed:failedOf st=none
theorem SB.size{κ:QbR}{a₀:Array Qa8}{st:SortSt}(h:SB κ a₀ st):(arrOf st).size=a₀.size:=h.perm.size_eq
section
variable{prog:QF}{w:Jk}{A:Q9}{E:Value->Shared->Prop}{s:Shared}{a₀:Array Qa8}{κ:QbR}{c:Qa8->Qa8->Bool}
end
section
variable{c:Qa8->Qa8->Bool}
variable{a b r:Array Qa8}{i j k:Nat}
end
structure Sm (st st':SortSt):Prop where
 kind:kindOf st'=kindOf st
 arr:arrOf st'=arrOf st
 pend:pendingOf st'=pendingOf st
 failed:failedOf st'=failedOf st
section
variable{prog:QF}{w:Jk}{A:Q9}{E:Value->Shared->Prop}{s:Shared}{a₀:Array Qa8}{κ:QbR}{c:Qa8->Qa8->Bool}
end
section
variable{c:Qa8->Qa8->Bool}
variable{a b r:Array Qa8}{i j t:Nat}
end
section
variable{prog:QF}{w:Jk}{A:Q9}{E:Value->Shared->Prop}{s:Shared}{a₀:Array Qa8}{κ:QbR}{c:Qa8->Qa8->Bool}
end
section
variable{c:Qa8->Qa8->Bool}
end
section
variable{prog:QF}{w:Jk}{A:Q9}{E:Value->Shared->Prop}{s:Shared}{a₀:Array Qa8}{κ:QbR}{c:Qa8->Qa8->Bool}
end
def QyF:List (Nat×Nat)->Nat->Nat->Prop
 |[],s,e=>s=e
 |(s',n)::r,s,e=>s'=s/\1<=n/\QyF r (s+n) e
section
variable{prog:QF}{w:Jk}{A:Q9}{E:Value->Shared->Prop}{s:Shared}{a₀:Array Qa8}{κ:QbR}{c:Qa8->Qa8->Bool}
end
end Rt
namespace PySem
namespace AutoSeq1
open PyProof
end AutoSeq1
end PySem
namespace L2
end L2
namespace Dl
open L2 _root_.Rd Rk
section
variable{X:Cx}{E:XK}
end
theorem Qnx{K:PySem.W.Frag}{E:XK}{cap:List (Option Nat)}{ix:List Nat}{wi:DI}{wg:DG}{wt:DT}{we:DE}(hf:Qcy cap ix=true)(σ:L2.St)(H:Hp)(Q:VK)(h:tX .F K E (dComp cap wi wg wt we) σ H Q) :
  tComp cap (tI .P K E wi) (tG ix K wg) (tT K E0 wt) (tX .D K E0 we) σ H Q:=by
 obtain⟨F,δ,R,EX,rel,hw,k,o⟩:=h;refine⟨F,δ,_,EX,rel,hw,λitems hC J H1 rel1 kp1 ⟨ln,it⟩ p hp=>?_,o⟩;unfold QiQ at hC;obtain⟨Iv,i0,step,fin⟩:=hC;have hpn:¬Yj σ δ p:=λz=>by obtain⟨xs,e⟩:=rel1.isl (Qaa (F:=F) z);rw[hp] at e;cases e
 let A1:Addr->Prop:=λa=>Av F σ δ a∨a=p
 have hP:∀a,Yj σ δ a->A1 a:=λa z=>.inl (Qaa z)
 have hN:∀a,A1 a->Av F σ δ a∨H1 a=none:=λa z=>z.elim .inl λz=>.inr (by rw[z];exact hp)
 have dmK:∀{H2:Hp},Kp σ δ H1 H2->(∃ys,H2 p=some (.lst ys))->∀a,A1 a->∃xs,H2 a=some (.lst xs):=λ{H2} k2 e2 a z=>by
  rcases z with z | z
  ·exact(rel1.kp k2).isl z
  ·rw[z];exact e2
 refine QeE items.length (λi H2=>i<=items.length/\∃acc,Iv i acc/\acc.length<=i/\Lp σ δ A1 p H1 H2 acc) ⟨Jc _,[],i0,Qg _,Kp.same rel1 (JI hp),[],Jy,.nil⟩ (λi H2 hi ⟨_,acc,iv,hl,lp⟩=>?_) λH2 ⟨_,acc,iv,hl,lp⟩=>?_
 ·obtain⟨k2,ys,e2,q2⟩:=lp;obtain⟨go,_⟩:=it H2 A1 (λb o n e=>k2.1 b o n e) hN (dmK k2 ⟨ys,e2⟩);have hd:items[i]? = some items[i]:=Qf hi;obtain⟨g1,g2⟩:=go i _ hd;refine⟨g1,λx H3 y kk hk=>?_⟩;obtain⟨s3,dx⟩:=g2 x H3 y;have k23:=Kp.same (rel1.kp k2) s3;have lp3:Lp σ δ A1 p H1 H3 acc:=Lp.step hP hpn ⟨k2,ys,e2,q2⟩ k23;refine Qlx hf rel1 (λa z=>.inl z) hN (dmK lp3.kp ⟨ys,s3 _ _ e2⟩) lp3.kp dx (step i acc _ hd iv) (λσ4 δ4 H5 h5 r5 k5 pots=>?_) λh5 H5 k5=>hk _ ⟨hi,acc,h5,by omega,lp3.step hP hpn k5⟩
  exact Qsv (.inr rfl) hP hp hpn (lp3.step hP hpn k5) (by omega) r5 pots h5 λe he H' lp'=>hk _ ⟨hi,acc++[e],he,by rw[Qu];show _+1<=_;omega,lp'⟩
 ·obtain⟨k2,ys,e2,q2⟩:=lp;obtain⟨_,st⟩:=it H2 A1 (λb o n e=>k2.1 b o n e) hN (dmK k2 ⟨ys,e2⟩);refine⟨st,k _ (fin acc iv) (.ref p) H2 (rel1.kp k2) (kp1.trans k2) ⟨.lst (λz=>?_) e2 (q2.mv (λ_ _ _ e=>e) λa z=>.inl (.inl z)),λl e1 _=>?_⟩⟩
  ·obtain⟨xs,e⟩:=rel1.isl z;rw[hp] at e;cases e
  ·cases e1;exact QbK kp1 hp
theorem QBt{K:PySem.W.Frag}{E:XK}{w:DE}(σ:L2.St)(H:Hp)(Q:VK)(h:tX .D K E w σ H Q):tX .F K E w σ H Q:=by
 obtain⟨F,δ,R,EX,rel,hw,k,o⟩:=h;exact⟨F,δ,R,EX,rel,hw,λd hd v H' r kp vk=>k d hd v H' r kp vk.1,o⟩
section
variable{X:Cx}{E:XK}
theorem Qeu(M:List Str)(cap:List (Option Nat))(i:Nat){elt tg iter:QV}{ifs:List QV}{scope:Y0}{pos py spos:Pos}{y:Str}{ix:List Nat}{wi:DI}{wg:DG}{wt:DT}{we:DE}(hN:X.N.Nodup)(hi:QI .P X E tg iter wi)(hb:∀cl ex s3 H3 C,QG ix (blk X M scope cl ex s3 H3 C) tg wg/\QTs (blk X M scope cl ex s3 H3 C) E0 ifs wt/\QE .D (blk X M scope cl ex s3 H3 C) E0 elt we)(hiy:X.N[i]? = some y:=by rfl)(hly:X.env.scope.names.lookup y=some .local:=by rfl)(hc:X.calm=true:=by rfl)(ok:Qfc X.N X.env.scope M scope cap=true:=by rfl)(hf:Qcy cap ix=true:=by rfl)(hs:∀x,foldedSetIterable iter X.env x=pure x:=by intro _;rfl)(hsw:swapsWith (.ListComp elt [⟨tg,iter,ifs,0⟩] scope pos) (some (.Name y py)) spos.line X.env=pure true:=by rfl):QS X E (.Assign [.Name y py] (.ListComp elt [⟨tg,iter,ifs,0⟩] scope pos) spos) (QyZ i (dComp cap wi wg wt we)):=
 ⟨Qim (PS.imp (PS.imp (Qo6 hN hiy hly hc ok hi.h (λcl ex s3 H3 C=>⟨(hb cl ex s3 H3 C).1.h,(hb cl ex s3 H3 C).2.1.h,(hb cl ex s3 H3 C).2.2.h⟩) hs hsw) λD σ H q=>Qnx (E:=E) hf σ H _ q) λD σ H q=>QBt σ H _ q)⟩
end
theorem QkL{K:PySem.W.Frag}{E:XK}{cap:List (Option Nat)}{ix ix2:List Nat}{wi wi2:DI}{wg wg2:DG}{wt wt2:DT}{we:DE}(gok:GOk wg)(hf:Qcy cap ix=true)(hf2:Qcy cap ix2=true)(hd:ix2.all (λi => !ix.contains i)=true)(σ:L2.St)(H:Hp)(Q:VK)(h:tX .F K E (Qsz cap wi wg wt wi2 wg2 wt2 we) σ H Q) :
  QrP cap (tI .P K E wi) (tG ix K wg) (tT K E0 wt) (tI .D K E0 wi2) (tG ix2 K wg2) (tT K E0 wt2) (tX .D K E0 we) σ H Q:=by
 obtain⟨F,δ,R,EX,rel,hw,k,o⟩:=h;refine⟨F,δ,_,EX,rel,hw,λitems hC J H1 rel1 kp1 ⟨ln,it⟩ p hp=>?_,o⟩;unfold Qj1 at hC;obtain⟨Iv,i0,step,fin⟩:=hC;have hpn:¬Yj σ δ p:=λz=>by obtain⟨xs,e⟩:=rel1.isl (Qaa (F:=F) z);rw[hp] at e;cases e
 let A1:Addr->Prop:=λa=>Av F σ δ a∨a=p
 have hP:∀a,Yj σ δ a->A1 a:=λa z=>.inl (Qaa z)
 have hN:∀a,A1 a->Av F σ δ a∨H1 a=none:=λa z=>z.elim .inl λz=>.inr (by rw[z];exact hp)
 have dmK:∀{H2:Hp},Kp σ δ H1 H2->(∃ys,H2 p=some (.lst ys))->∀a,A1 a->∃xs,H2 a=some (.lst xs):=λ{H2} k2 e2 a z=>by
  rcases z with z | z
  ·exact(rel1.kp k2).isl z
  ·rw[z];exact e2
 refine QeE items.length (λi H2=>i<=items.length/\∃acc,Iv i acc/\Lp σ δ A1 p H1 H2 acc) ⟨Jc _,[],i0,Kp.same rel1 (JI hp),[],Jy,.nil⟩ (λi H2 hi ⟨_,acc,iv,lp⟩=>?_) λH2 ⟨_,acc,iv,lp⟩=>?_
 ·obtain⟨k2,ys,e2,q2⟩:=lp;obtain⟨go,_⟩:=it H2 A1 (λb o n e=>k2.1 b o n e) hN (dmK k2 ⟨ys,e2⟩);have hd':items[i]? = some items[i]:=Qf hi;obtain⟨g1,g2⟩:=go i _ hd';refine⟨g1,λx H3 y kk hk=>?_⟩;obtain⟨s3,dx⟩:=g2 x H3 y;have k23:=Kp.same (rel1.kp k2) s3;have lp3:Lp σ δ A1 p H1 H3 acc:=Lp.step hP hpn ⟨k2,ys,e2,q2⟩ k23;refine QoD gok hf rel1 (λa z=>.inl z) hN (dmK lp3.kp ⟨ys,s3 _ _ e2⟩) lp3.kp dx (step i acc _ hd' iv) (λσ4 δ4 H5 h5 r5 k5 j4 l4 g4=>?_) λh5 H5 k5=>hk _ ⟨hi,acc,h5,lp3.step hP hpn k5⟩
  have av4:∀{H:Hp}{a:Addr},Av (inF A1 cap σ δ H) σ4 δ4 a->A1 a:=λ{H a} z=>Qsq hP hf j4 g4 z
  refine⟨inF A1 cap σ δ H3,δ4,_,XF,r5,h5,λitems2 hJ J2 H7 rel7 kp7 ⟨ln2,it2⟩=>?_,Qsc⟩;unfold InR at hJ;obtain⟨Jv,z0,step2,fin2⟩:=hJ;have pots4:∀{b:Addr},Yj σ4 δ4 b->Yj σ δ b:=λ{b} z=>by
   obtain⟨j,z1,z2⟩:=z;rcases g4 j _ z2 with⟨e,z⟩ | z
   ·cases z
   ·exact QcC ⟨j,by rw[<- j4 j (Qee hf z (λz=>by cases z))];exact z1,z⟩
  have k57:Kp σ δ H5 H7:=by
   refine⟨λb o n e=>kp7.1 b o (λz=>n (pots4 z)) e,λb hb=>?_⟩;by_cases z:Yj σ4 δ4 b
   ·exact kp7.2 b z
   ·obtain⟨n,e⟩:=k5.2 b hb;exact⟨n,kp7.1 _ _ z e⟩
  refine QeE items2.length (λj H8=>j<=items2.length/\∃acc2,Jv j acc2/\Lp σ δ A1 p H1 H8 acc2/\∀b o,¬A1 b->H7 b=some o->H8 b=some o) ⟨Jc _,acc,z0,(lp3.step hP hpn k5).step hP hpn k57,λ_ _ _ e=>e⟩ (λj H8 hj ⟨_,acc2,jv,lp8,s78⟩=>?_) λH8 ⟨_,acc2,jv,lp8,s78⟩=>?_
  ·obtain⟨ys8,e8,q8⟩:=lp8.at_;obtain⟨go2,_⟩:=it2 H8 A1 (λb o n e=>s78 b o (λz=>n (.inl z)) e) (λb z=>.inl (.inl z)) (dmK lp8.kp ⟨ys8,e8⟩);have hd2:items2[j]? = some items2[j]:=Qf hj;obtain⟨g3,g5⟩:=go2 j _ hd2;refine⟨g3,λx2 H9 y2 kk2 hk2=>?_⟩;obtain⟨s9,dx2⟩:=g5 x2 H9 y2;have k89:=Kp.same (rel1.kp lp8.kp) s9;have lp9:Lp σ δ A1 p H1 H9 acc2:=lp8.step hP hpn k89;have ri:=Qm6 (cap:=cap) rel1 (λa z=>.inl z) hN (dmK lp9.kp ⟨ys8,s9 _ _ e8⟩) lp9.kp;have r9:=Qu3 hP hf j4 g4 ri r5 λa o n e=>s9 _ _ (s78 a o n (k57.1 a o (λz=>n (hP a z)) e))
   obtain⟨hl2,hw2⟩:=step2 j acc2 _ hd2 jv;refine⟨inF A1 cap σ δ H9,δ4,_,_,r9,dx2.mv (λ_ _ _ e=>e) λa z=>.inl (av4 z),hw2,λδ5 h6 σ5 r10 st5 l5 j5=>⟨Qoz l5 λi v e=>?_,inF A1 cap σ δ H9,δ5,_,XF,r10,h6,λb hb H10 r11 kp11=>?_,Qsc⟩⟩
   ·by_cases z:i∈ix2
    ·have n1:i∉ix:=λz2=>by
      have:=JW.mp hd i z;simp[z2] at this
     rw[j4 i n1] at e;rcases Qgx e with⟨_,e2⟩ | ⟨j,hj2,_⟩
     ·cases e2
     ·rw[Qne hf2 z] at hj2;cases hj2
    ·rw[j5 i z];exact e
   ·have pots:∀{b:Addr},Yj σ5 δ5 b->Yj σ δ b:=λz=>Qiv r10 (λb o _ e1 e2=>by rw[e2] at e1;cases e1) z
    have K10:Kp σ δ H9 H10:=by
     refine⟨λb o n e=>kp11.1 b o (λz=>n (pots z)) e,λb hb=>?_⟩;by_cases z:Yj σ5 δ5 b
     ·exact kp11.2 b z
     ·obtain⟨n,e⟩:=lp9.kp.2 b hb;exact⟨n,kp11.1 _ _ z e⟩
    have s710:∀b o,¬A1 b->H7 b=some o->H10 b=some o:=λb o n e=>K10.1 b o (λz=>n (hP b z)) (s9 _ _ (s78 b o n e))
    refine Qcl hb (λz=>?_) λz=>hk2 _ ⟨hj,acc2,z,lp9.step hP hpn K10,s710⟩
    exact Qve (.inr rfl) hP hp hpn (lp9.step hP hpn K10) (QP hl2 Qp2) r11 (λb=>pots) z λe he H' lp' kk'=>hk2 _ ⟨hj,acc2++[e],he,lp',λb o n e=>kk' b o n (s710 b o n e)⟩
  ·obtain⟨ys8,e8,q8⟩:=lp8.at_;obtain⟨_,st2⟩:=it2 H8 A1 (λb o n e=>s78 b o (λz=>n (.inl z)) e) (λb z=>.inl (.inl z)) (dmK lp8.kp ⟨ys8,e8⟩);exact⟨st2,hk _ ⟨hi,acc2,fin2 acc2 jv,lp8⟩⟩
 ·obtain⟨k2,ys,e2,q2⟩:=lp;obtain⟨_,st⟩:=it H2 A1 (λb o n e=>k2.1 b o n e) hN (dmK k2 ⟨ys,e2⟩);refine⟨st,k _ (fin acc iv) (.ref p) H2 (rel1.kp k2) (kp1.trans k2) ⟨.lst (λz=>?_) e2 (q2.mv (λ_ _ _ e=>e) λa z=>.inl (.inl z)),λl e1 _=>?_⟩⟩
  ·obtain⟨xs,e⟩:=rel1.isl z;rw[hp] at e;cases e
  ·cases e1;exact QbK kp1 hp
section
variable{X:Cx}{E:XK}
theorem Qjg(M:List Str)(cap:List (Option Nat))(i:Nat){elt tg iter tg2 iter2:QV}{ifs ifs2:List QV}{scope:Y0}{pos py spos:Pos}{y:Str}{ix ix2:List Nat}{wi wi2:DI}{wg wg2:DG}{wt wt2:DT}{we:DE}(hN:X.N.Nodup)(gok:GOk wg)(hi:QI .P X E tg iter wi)(hb:∀cl ex s3 H3 C,QG ix (blk X M scope cl ex s3 H3 C) tg wg/\QTs (blk X M scope cl ex s3 H3 C) E0 ifs wt/\QI .D (blk X M scope cl ex s3 H3 C) E0 tg2 iter2 wi2/\QG ix2 (blk X M scope cl ex s3 H3 C) tg2 wg2/\QTs (blk X M scope cl ex s3 H3 C) E0 ifs2 wt2/\QE .D (blk X M scope cl ex s3 H3 C) E0 elt we)(hiy:X.N[i]? = some y:=by rfl)(hly:X.env.scope.names.lookup y=some .local:=by rfl)(hc:X.calm=true:=by rfl)(ok:Qfc X.N X.env.scope M scope cap=true:=by rfl)(hf:Qcy cap ix=true:=by rfl)(hf2:Qcy cap ix2=true:=by rfl)(hd:ix2.all (λi => !ix.contains i)=true:=by rfl)(hs:∀x,foldedSetIterable iter X.env x=pure x:=by intro _;rfl)(hs2:∀env x,foldedSetIterable iter2 env x=pure x:=by intro _ _;rfl)(hsw:swapsWith (.ListComp elt [⟨tg,iter,ifs,0⟩,⟨tg2,iter2,ifs2,0⟩] scope pos) (some (.Name y py)) spos.line X.env=pure true:=by rfl):QS X E (.Assign [.Name y py] (.ListComp elt [⟨tg,iter,ifs,0⟩,⟨tg2,iter2,ifs2,0⟩] scope pos) spos) (QyZ i (Qsz cap wi wg wt wi2 wg2 wt2 we)):=
 ⟨Qim (PS.imp (PS.imp (Qmg hN hiy hly hc ok hi.h (λcl ex s3 H3 C=>⟨(hb cl ex s3 H3 C).1.h,(hb cl ex s3 H3 C).2.1.h,(hb cl ex s3 H3 C).2.2.1.h,(hb cl ex s3 H3 C).2.2.2.1.h,(hb cl ex s3 H3 C).2.2.2.2.1.h,(hb cl ex s3 H3 C).2.2.2.2.2.h⟩) hs hs2 hsw) λD σ H q=>QkL (E:=E) gok hf hf2 hd σ H _ q) λD σ H q=>QBt σ H _ q)⟩
end
theorem Qhe{A:Addr->Prop}{H:Hp}(dm:∀a,A a->∃xs,H a=some (.lst xs)):∀(M:List (Int×Int))(ys:List V),Dats H ys (M.map Rk.pairD)->DAs A H ys (M.map Rk.pairD)
 |[],ys,h=>by cases h;exact .nil
 |m::M,ys,h=>by
  cases h with
  |@cons x xs _ _ h1 h2=>
   refine .cons ?_ (Qhe dm M xs h2)
   cases h1 with
   |@tup a zs _ e q=>
    refine .tup (λz=>?_) e ?_
    ·obtain⟨xs,e'⟩:=dm a z;rw[e] at e';cases e'
    ·cases q with
     |cons a b=>
      cases a;cases b with
      |cons a b=>cases a;cases b;exact .cons (.int _) (.cons (.int _) .nil)
theorem Qak(L:List (Int×Int)):nds (L.map Rk.pairD)=true:=QmQ.mpr λd hd=>by
 obtain⟨i,_,rfl⟩:=Qh.mp hd;rfl
@[irreducible] def sortPD:List Qa->(Qa->Prop)->Prop
 |[.list ds],Q=>∃L:List (Int×Int),ds=L.map Rk.pairD/\L.Nodup/\L.length<64/\(∀ij∈L,0<=ij.2/\ij.2<64)/\∀M:List (Int×Int),M.Perm L->M.Pairwise (λa b=>Rs.code a<Rs.code b)->Q (.list (M.map Rk.pairD))
 |_,_=>False
theorem cd_sortP:Qbs Ql6 sortPD:=λA P H vs ds R Q ln dm q h k=>by
 unfold sortPD at h;split at h
 ·obtain⟨v,rfl,hv⟩:=pd1 q;obtain⟨L,rfl,nd',h64,hb,hR⟩:=h;obtain⟨l,xs,rfl,e,qq⟩:=hv.list;refine⟨l,xs,L,rfl,e,QaW _ _ (Qak L) qq,nd',h64,hb,λt ys M H2 s n e2 dts pm pw=>?_⟩;have dm2:∀a,A a->∃xs,H2 a=some (.lst xs):=λa z=>by obtain⟨xs,e⟩:=dm a z;exact⟨xs,s _ _ e⟩
  refine k _ (hR M pm pw) _ H2 s (.lst (λz=>?_) e2 (Qhe dm2 M ys dts)) (Qao n);obtain⟨xs,e⟩:=dm t z;rw[n] at e;cases e
 ·exact h.elim
theorem sortP_of{L:List (Int×Int)}{Q:Qa->Prop}(h1:L.Nodup)(h2:L.length<64)(h3:∀ij∈L,0<=ij.2/\ij.2<64)(k:∀M:List (Int×Int),M.Perm L->M.Pairwise (λa b=>Rs.code a<Rs.code b)->Q (.list (M.map Rk.pairD))):sortPD [.list (L.map Rk.pairD)] Q:=by
 unfold sortPD;exact⟨L,rfl,h1,h2,h3,k⟩
def rkD:Qa->Nat
 |.int _=>0
 |.tuple _=>1
 |_=>2
def Qok(i j:Int):Ordering:=if i<j then .lt else if i=j then .eq else .gt
def QCg(i j:Nat):Ordering:=if i<j then .lt else if i=j then .eq else .gt
def thn(o:Ordering)(p:Ordering):Ordering:=match o with
 |.eq=>p
 |o=>o
mutual
def QvO:Qa->Qa->Ordering
 |.int i,.int j=>Qok i j
 |.tuple a,.tuple b=>QkO a b
 |x,y=>QCg (rkD x) (rkD y)
def QkO:List Qa->List Qa->Ordering
 |[],[]=>.eq
 |[],_::_=>.lt
 |_::_,[]=>.gt
 |x::xs,y::ys=>thn (QvO x y) (QkO xs ys)
end
def isL:Ordering->Bool
 |.lt=>true
 |_=>false
def ltD(x y:Qa):Bool:=isL (QvO x y)
def QxK(x y:List Qa):Bool:=isL (QkO x y)
def sw:Ordering->Ordering
 |.lt=>.gt
 |.gt=>.lt
 |.eq=>.eq
mutual
def Qoj:Qa->Qa->Bool
 |.int _,.int _=>true
 |.tuple a,.tuple b=>QiB a b
 |_,_=>false
def QiB:List Qa->List Qa->Bool
 |x::xs,y::ys=>Qoj x y&&QiB xs ys
 |_,_=>true
end
def isE:Ordering->Bool
 |.eq=>true
 |_=>false
theorem Qu0(a b:Ordering):isE (thn a b)=(isE a&&isE b):=by cases a<;>rfl
mutual
theorem Qss:∀(x y:Qa),Qoj x y=true->QX x y=isE (QvO x y)
 |.int i,.int j,_=>by
  show(i == j)=isE (Qok i j);unfold Qok;by_cases h:i=j
  ·subst h;simp[isE]
  ·rw[beq_eq_false_iff_ne.mpr h];split
   ·rfl
   ·rfl
 |.tuple a,.tuple b,h=>Qnh a b h
 |.int _,.tuple _,h=>by cases h
 |.tuple _,.int _,h=>by cases h
 |.int _,.none,h=>by cases h
 |.int _,.bool _,h=>by cases h
 |.int _,.str _,h=>by cases h
 |.int _,.list _,h=>by cases h
 |.int _,.dict _,h=>by cases h
 |.tuple _,.none,h=>by cases h
 |.tuple _,.bool _,h=>by cases h
 |.tuple _,.str _,h=>by cases h
 |.tuple _,.list _,h=>by cases h
 |.tuple _,.dict _,h=>by cases h
 |.none,y,h=>by cases y<;>cases h
 |.bool _,y,h=>by cases y<;>cases h
 |.str _,y,h=>by cases y<;>cases h
 |.list _,y,h=>by cases y<;>cases h
 |.dict _,y,h=>by cases y<;>cases h
theorem Qnh:∀(xs ys:List Qa),QiB xs ys=true->QdC xs ys=isE (QkO xs ys)
 |[],[],_=>rfl
 |[],_::_,_=>rfl
 |_::_,[],_=>rfl
 |x::xs,y::ys,h=>by
  have h:=QR.mp (show(Qoj x y&&QiB xs ys)=true from h);show(QX x y&&QdC xs ys)=isE (thn (QvO x y) (QkO xs ys));rw[Qss x y h.1,Qnh xs ys h.2,Qu0]
end
end Dl
namespace Rt
open PySem.Calls Dl
theorem Qhz:∀{ds:List Qa}{d:Qa},d∈ds->d.depth<=JS ds
 |x::ds,d,h=>by
  show d.depth<=max x.depth (JS ds);rcases Qy.mp h with z | z
  ·subst z;exact Nat.le_max_left _ _
  ·exact QU (Qhz z) (QvG _ _)
theorem readsAll_len{h:Heap}:∀{vs:List Value}{ds:List Qa}{as:List Addr},QdZ h vs ds as->vs.length=ds.length
 |_,_,_,.nil=>rfl
 |_,_,_,.cons _ r=>by rw[QQ,QQ,readsAll_len r]
section
open PySem.SeqAt
open PySem.AutoSeq1 (wpAny_loadPart')
open PySem.MeetsSeq PySem.MeetsSeq2 PySem.MeetsSeq3
theorem QgZ{l b:Addr}{items items2:Array Value}{n n2:Nat}{dd dd2:Option Addr}{sl sl2:Array (Option Value)}{ds es:List Qa}{as bs:List Addr}{N:Nat}(hk:QiB ds es=true)(hc1:JX ds=true)(hc2:JX es=true)(hd:JS ds<=N)
  (ih:∀(x y:Qa)(A:Q9)(s:Shared)(v u:Value)(p q:List Addr),Qle s.heap v x p->Qle s.heap u y q->x.canLay0=true->y.canLay0=true->Qoj x y=true->x.depth<=N->A.units+2*N+2<cLine->∀(prog:QF)(w:Jk)(E Q:Value->Shared->Prop),Q (.bool (ltD x y)) s->wpAny (model prog w) A (richCompare .Lt v u) Q E s) :
  Meets (YV.«tuple.__lt__» ⟨[.ref l,.ref b],[]⟩)
   (λA R s=>s.heap.get? l=some { cls:=.type "tuple",dict:=dd,data:=.seq items n,slots:=sl }/\s.heap.get? b=some { cls:=.type "tuple",dict:=dd2,data:=.seq items2 n2,slots:=sl2 }/\QdZ s.heap items.toList ds as/\QdZ s.heap items2.toList es bs/\A.units+2*N+4<cLine /\
    R (.ok (.ret (.bool (QxK ds es)))) s):=
 .of_wp λprog w A R s h=>by
  obtain⟨hp,g,d,tk,os⟩:=s;obtain⟨hl,hb,hr1,hr2,hu,h⟩:=h;have f2:=AutoSeq1.sub_tuple_tuple;have hu1:A.in1.units+2*N+2<cLine:=by show A.units+1+2*N+2<cLine;omega
  have z1:items.size=ds.length:=by rw[<- readsAll_len hr1];simp
  have z2:items2.size=es.length:=by rw[<- readsAll_len hr2];simp
  wp_walk using Qat hl,Qat hb,wpAny_forIn_list _ (λrest b s'=>b.1=none/\s'=⟨hp,g,d,tk,os⟩/\∃(vs ws:List Value)(xs ys:List Qa)(p q:List Addr),rest=vs.zip ws /\
   QdZ hp vs xs p/\QdZ hp ws ys q/\QiB xs ys=true/\JX xs=true/\JX ys=true/\JS xs<=N/\xs.length+items2.size=ys.length+items.size/\R (.ok (.ret (.bool (QxK xs ys)))) ⟨hp,g,d,tk,os⟩) _
  case turn=>
   rintro⟨y,x⟩ rest b s' ⟨hb',rfl,vs,ws,xs,ys,p,q,hz,hvi,hwi,hkk,c1,c2,hdd,hlen,hR⟩;cases hvi with
   |nil=>rw[List.zip_nil_left] at hz;cases hz
   |@cons v0 vs0 d1 ds1 as1 as2 r1 hvi'=>
    cases hwi with
    |nil=>rw[List.zip_nil_right] at hz;cases hz
    |@cons u0 us0 d2 ds2 bs1 bs2 r2 hwi'=>
     rw[Qot] at hz;injection hz with hyx hrest
     injection hyx with hy hx
     subst hy hx;have hkk:=QR.mp (show(Qoj d1 d2&&QiB ds1 ds2)=true from hkk);simp only[JX,JB] at c1 c2;have dm1:d1.depth<=N:=QU (Qhz (ds:=d1::ds1) (.head _)) hdd;have dm2:JS ds1<=N:=QU (show JS ds1<=max d1.depth (JS ds1) from QvG _ _) hdd;simp only[QQ] at hlen;have he:=QrD d1 d2 A.in1 ⟨hp,g,d,tk,os⟩ y x _ _ r1 r2 c1.1 c2.1 (by omega);have hR:R (.ok (.ret (.bool (isL (thn (QvO d1 d2) (QkO ds1 ds2)))))) ⟨hp,g,d,tk,os⟩:=hR;rw[Qss d1 d2 hkk.1] at he;have hri:=λE Q=>ih d1 d2 A.in1 ⟨hp,g,d,tk,os⟩ y x _ _ r1 r2 c1.1 c2.1 hkk.1 dm1 hu1 prog w E Q
     unfold ltD at hri;cases e1:QvO d1 d2 with
     |lt=>
      rw[e1] at he hR hri;refine wpAny_bind (he prog w _ _ ?_)
      wp_walk using hri
      exact⟨_,rfl,hR⟩
     |gt=>
      rw[e1] at he hR hri;refine wpAny_bind (he prog w _ _ ?_)
      wp_walk using hri
      exact⟨_,rfl,hR⟩
     |eq=>
      rw[e1] at he hR;refine wpAny_bind (he prog w _ _ ?_)
      wp_walk
      exact⟨rfl,rfl,_,_,_,_,_,_,hrest,hvi',hwi',hkk.2,c1.2,c2.2,dm2,by omega,hR⟩
  case fin=>
   rintro⟨b1,b2⟩ s' ⟨hb',rfl,vs,ws,xs,ys,p,q,hz,hvi,hwi,hkk,c1,c2,hdd,hlen,hR⟩;simp only at hb';subst hb';have hv:QxK xs ys=decide (items.size<items2.size):=by
    cases hvi with
    |nil=>
     cases hwi with
     |nil=>
      simp only[QgO] at hlen;exact(decide_eq_false (by omega)).symm
     |cons r2 hw=>
      simp only[QgO,QQ] at hlen;exact(decide_eq_true (by omega)).symm
    |cons r1 hv=>
     cases hwi with
     |nil=>
      simp only[QgO,QQ] at hlen;exact(decide_eq_false (by omega)).symm
     |cons r2 hw=>
      rw[Qot] at hz;cases hz
   rw[hv] at hR
   wp_walk
   exact⟨_,rfl,by simpa [Qzv] using hR⟩
  case h=>
   exact⟨rfl,rfl,items.toList,items2.toList,ds,es,as,bs,rfl,hr1,hr2,hk,hc1,hc2,hd,by omega,h⟩
end
end Rt
namespace Rt
open PySem.Calls PySem.W Dl
mutual
def okK:Qa->Bool
 |.int _=>true
 |.tuple ds=>QyV ds
 |_=>false
def QyV:List Qa->Bool
 |[]=>true
 |d::ds=>okK d&&QyV ds
end
theorem QzR:∀(N:Nat)(x y:Qa)(A:Q9)(s:Shared)(v u:Value)(p q:List Addr),Qle s.heap v x p->Qle s.heap u y q->x.canLay0=true->y.canLay0=true->Qoj x y=true->x.depth<=N->A.units+2*N+2<cLine->∀(prog:QF)(w:Jk)(E Q:Value->Shared->Prop),Q (.bool (ltD x y)) s->wpAny (model prog w) A (richCompare .Lt v u) Q E s:=by
 intro N;have intz:∀(i j:Int)(A:Q9)(s:Shared)(v u:Value)(p q:List Addr),Qle s.heap v (.int i) p->Qle s.heap u (.int j) q->∀(prog:QF)(w:Jk)(E Q:Value->Shared->Prop),Q (.bool (ltD (.int i) (.int j))) s->wpAny (model prog w) A (richCompare .Lt v u) Q E s:=by
  intro i j A s v u p q r1 r2 prog w E Q h;cases r1;cases r2;refine HT.Qjd A s i _ j _ prog w E Q ?_
  have e:ltD (.int i) (.int j)=decide (i<j):=by
   show isL (Qok i j)=_;unfold Qok;by_cases z:i<j
   ·rw[if_pos z,decide_eq_true z];rfl
   ·rw[if_neg z,decide_eq_false z];split<;>rfl
  rw[e] at h;exact h
 induction N with
 |zero=>
  intro x y A s v u p q r1 r2 c1 c2 hk hd hu prog w E Q h;cases x<;>cases y<;>first | (cases hk;done) | skip
  ·exact intz _ _ A s v u p q r1 r2 prog w E Q h
  ·unfold ZP at hd;omega
 |succ N ih=>
  intro x y A s v u p q r1 r2 c1 c2 hk hd hu prog w E Q h;cases x<;>cases y<;>first | (cases hk;done) | skip
  ·exact intz _ _ A s v u p q r1 r2 prog w E Q h
  ·rename_i ds es
   cases r1 with
   |@tuple a o vs n _ _ ho hc hd' ra=>
    cases r2 with
    |@tuple b o2 vs2 n2 _ _ ho2 hc2 hd2 rb=>
     obtain⟨cls,dd,data,sl⟩:=o;obtain⟨cls2,dd2,data2,sl2⟩:=o2;simp only at hc hd' hc2 hd2;subst hc hd' hc2 hd2;have dd3:JS ds<=N:=by unfold ZP at hd;omega
     exact richCompare_meets_room (op:=.Lt) ⟨_,ho,rfl⟩ ⟨_,ho2,rfl⟩ PySem.F.slot_tuple_lt PySem.F.entry_tuple_lt (PySem.F.args_tuple_lt_2 _ _) (QgZ (N:=N) hk c1 c2 dd3 ih)
      ⟨ho,ho2,ra,rb,by omega,show Qbq (QxK ds es)≠Value.notImplemented/\Q (.bool (QxK ds es)) s from⟨(λx=>nomatch x),h⟩⟩ (by omega)
section
variable{prog:QF}{w:Jk}{A:Q9}{E:Value->Shared->Prop}{s:Shared}
end
section
variable{M:Model}{A:Q9}{E:Value->Shared->Prop}{s:Shared}
end
section
variable{prog:QF}{w:Jk}{A:Q9}{E:Value->Shared->Prop}{s:Shared}
end
end Rt
namespace Rt
open PySem.Calls PySem.W Dl Rs
section
variable{prog:QF}{w:Jk}{A:Q9}{E:Value->Shared->Prop}{s:Shared}
end
end Rt
namespace L2
open PySem.Calls _root_.Rd _root_.Rk _root_.Rs Rt Dl
section
variable{X:Cx}
end
end L2
namespace Dl
open L2 _root_.Rd Rk Rt
mutual
theorem QmM:∀(d:Qa),okK d=true->nd d=true
 |.int _,_=>rfl
 |.tuple ds,h=>QmL ds h
 |.none,h=>by cases h
 |.bool _,h=>by cases h
 |.str _,h=>by cases h
 |.list _,h=>by cases h
 |.dict _,h=>by cases h
theorem QmL:∀(ds:List Qa),QyV ds=true->nds ds=true
 |[],_=>rfl
 |d::ds,h=>by
  have h:=QR.mp (show(okK d&&QyV ds)=true from h);show(nd d&&nds ds)=true;rw[QmM d h.1,QmL ds h.2];rfl
end
end Dl
namespace L2
open PySem.Calls _root_.Rd _root_.Rk Rt
section
variable{X:Cx}
def ddI(ns:List Int):List Int:=ns.foldl Qcn []
theorem Qre(ns:List Int):firstMet (λi=>ns.getD i 0) ns.length=ddI ns:=by
 unfold firstMet ddI
 congr 1
 apply Z9
 intro i;rw[Qv];by_cases h:i<ns.length
 ·rw[Jo h,Qf h];show some (ns.getD i 0)=_;rw[Qo,Qf h];rfl
 ·rw[Q6 (by simpa using h),Q6 (by omega)];rfl
def QzT(K:PySem.W.Frag):List V->Hp->VK->Prop:=λxs H Q=>∃(l:Addr)(ns:List Int),xs=[.ref l]/\SqL K H l (ns.map V.int)/\ns.length<=4000 /\
 ∀(t:Addr)(H2:Hp),Same H H2->H t=none->H2 t=some (.set (λk=>(ddI ns).any (· == k)) (ddI ns).length)->Q (.ref t) H2
theorem QnD(hc:X.calm=true):CallR X (.type "set") (QzT X.K):=by
 intro pins s σ H xs us Q I r h;obtain⟨p,ns,rfl,hp,hn,q⟩:=h;obtain⟨u,rfl,ru⟩:=vals1 r;cases ru;obtain⟨its,rv,pl,hz⟩:=I.list hp;have hi:Qa9 its ns:=intsAre_of rv;have hl:=hi.length;refine PySem.call_set_list (items:=its.toArray) (ns:=ns) (I.ok.hd hc) pl.isList (by simpa using hi) (by rw[Ql,hl];unfold scanBound;omega) λh' tk hS hk=>?_
 have ez:its.toArray.size=ns.length:=by rw[Ql];exact hl
 rw[ez,Qre] at hS;have hf:H s.heap.objs.size=none:=I.hok.fresh (Qg _);refine⟨.ref s.heap.objs.size,upd H s.heap.objs.size (.set (λk=>(ddI ns).any (· == k)) (ddI ns).length),I.laid (t':=tk) (λb x e=>hk b x (Qk e) e) (Qg _) hS,rfl,q _ _ (JI hf) hf Jy⟩
def Qtz:List V->Hp->VK->Prop:=λxs H Q=>∃(a:Addr)(S:Int->Bool)(n:Nat),xs=[.ref a]/\H a=some (.set S n)/\n<=4000/\Q (.int n) H
theorem QiI:CallR X (.builtin "len") Qtz:=by
 intro pins s σ H xs us Q I r h;obtain⟨a,S,n,rfl,ha,hn,q⟩:=h;obtain⟨u,rfl,ru⟩:=vals1 r;cases ru;obtain⟨o,es,ep,t,ho,hex,hd,hel,hmem,hb,hf,hz⟩:=I.hok a _ ha;have hz:es.size=n:=hz;refine PySem.call_len_set ho hex hd hf (by
                       rw[hz];have:(4000:Int)<2^63:=by decide
                       omega) ?_
 rw[hz];exact⟨.int n,H,I.tok _,⟨_,rfl⟩,q⟩
theorem QjR:∀(ns σ:List Int),(ns.foldl Qcn σ).length<=σ.length+ns.length/\(σ.Nodup->((ns.foldl Qcn σ).length=σ.length+ns.length↔(σ++ns).Nodup))
 |[],σ=>⟨Qg _,λh=>by simp[h]⟩
 |n::ns,σ=>by
  rw[QgQ,QQ];by_cases z:σ.any (· == n)=true
  ·have e:Qcn σ n=σ:=by unfold Qcn;rw[if_pos z]
   rw[e];obtain⟨a,b⟩:=QjR ns σ;refine⟨by omega,λhs=>⟨λq=>by omega,λq=>?_⟩⟩;obtain⟨x,hx,hn⟩:=QaL.mp z;have hn:=beq_iff_eq.mp hn;subst hn;exact absurd rfl ((JP.mp q).2.2 x hx x (.head _))
  ·have e:Qcn σ n=σ++[n]:=by unfold Qcn;rw[if_neg z]
   rw[e];obtain⟨a,b⟩:=QjR ns (σ++[n]);rw[Qu] at a b;have nm:n∉σ:=λhx=>z (QaL.mpr ⟨n,hx,by simp⟩)
   refine⟨by simp only[QcI] at a;omega,λhs=>?_⟩;have hs2:(σ++[n]).Nodup:=JP.mpr ⟨hs,by simp,λx hx y hy=>by rw[Qx.mp hy];exact λe=>nm (e ▸ hx)⟩;have:=b hs2;rw[Qbw] at this;have e3:σ++n::ns=σ++([n]++ns):=rfl;rw[e3,<- this];simp only[QcI];omega
theorem QAQ(ns:List Int):(ddI ns).length<=ns.length:=by have:=(QjR ns []).1;unfold ddI;simpa using this
theorem QjQ(ns:List Int):(ddI ns).length=ns.length↔ns.Nodup:=by have:=(QjR ns []).2 (by simp);unfold ddI;simpa using this
def QBf:R2:=λx y H Q=>∃d e,Dat H x d/\Dat H y e/\Dl.Qoj d e=true/\d.depth<=20/\Q (.bl (Dl.ltD d e)) H
theorem Qxq(hu:X.A.units+60<cLine):OpR X (compareOp .Lt) QBf:=by
 intro pins s σ H x y v u Q I rx ry h;obtain⟨d,e,qx,qy,hk,hd,q⟩:=h;obtain⟨⟨as,ra⟩,ca⟩:=Yk I.hok d x v qx rx;obtain⟨⟨bs,rb⟩,cb⟩:=Yk I.hok e y u qy ry;exact QzR 20 d e X.A s v u as bs ra rb ca cb hk hd (by omega) _ _ _ _ ⟨.bl _,H,I,rfl,q⟩
end
end L2
namespace Dl
open L2 _root_.Rd Rk Rt
@[irreducible] def anyD:List Qa->(Qa->Prop)->Prop
 |[.list ds],Q=>∃bs,QbP ds=some bs/\Q (.bool (bs.any id))
 |_,_=>False
def QB9:Qa->Qa->(Qa->Prop)->Prop:=λd e Q=>(okK d=true/\okK e=true/\Qoj d e=true/\d.depth<=20)/\Q (.bool (ltD d e))
theorem QxD:OpD QBf QB9:=λA P H x y d1 d2 R Q ln dm hx hy h k=>by
 obtain⟨⟨h1,h2,h3,h4⟩,hR⟩:=h;exact⟨d1,d2,hx.dat (QmM d1 h1),hy.dat (QmM d2 h2),h3,h4,k _ hR _ H (Same.refl H) (.bl _) Qas⟩
section
variable{X:Cx}{E:XK}
def Qnt(w:DE):DE:=λδ Q EX=>w δ (λd=>match d with
 |.list ds=>∃ns,QaY ds=some ns/\ns.length<=4000/\Q (.int (ddI ns).length)
 |_=>False) EX
theorem bt_set:bootBuiltins "set" = some (.type "set"):=by decide +kernel
theorem Qmu{e:QV}{w:DE}{p p2 pos pos2:Pos}(hg:Gl X "len")(hm:X.mg "len" = none)(hg2:Gl X "set")(hm2:X.mg "set" = none)(h:PE X e (tX .P X.K E w))(hc:X.calm=true)(hs:notStar e=true):PE X (.Call (.Name "len" p) [.Call (.Name "set" p2) [e] [] pos2] [] pos) (tX .F X.K E (Qnt w)):=by
 refine PE.imp (QbX QiI hg hm Qac (QcM (QcZ (QnD hc) hg2 hm2 bt_set (QcM h ZN hs) (he:=ZD hs)) ZN)) λσ H Q ⟨F,δ,R,EX,rel,hw,k,o⟩=>?_
 refine⟨F,δ,_,EX,rel,hw,λd hd v H1 rel1 kp1 vk=>?_,o⟩;cases d<;>first | exact(show False from hd).elim | skip
 obtain⟨ns,hn,hl,hR⟩:=hd;rw[Qdw hn] at vk;obtain⟨l,xs,rfl,e,q⟩:=DP.list vk;rw[Qaz q] at e;refine⟨l,ns,rfl,SqL.of e,hl,λt H2 s2 n2 e2=>⟨t,_,_,rfl,e2,?_,?_⟩⟩
 ·have:=QAQ ns;omega
 ·exact k _ hR _ H2 (rel1.same s2) (kp1.trans (Kp.same rel1 s2)) ⟨.int _,Yg⟩
theorem Qjk{e:QV}{w:DE}{p p2 pos pos2:Pos}(hg:Gl X "len")(hm:X.mg "len" = none)(hg2:Gl X "set")(hm2:X.mg "set" = none)(h:QE .P X E e w)(hc:X.calm=true:=by rfl)(hs:notStar e=true:=by rfl):QE .F X E (.Call (.Name "len" p) [.Call (.Name "set" p2) [e] [] pos2] [] pos) (Qnt w):=⟨Qmu hg hm hg2 hm2 h.h hc hs⟩
end
end Dl
namespace Zt
open PySem.W PySem.Calls Rs
theorem QyD:∀m:Fin 64,(Sm m).Pairwise (· < ·):=by decide +kernel
section
variable{prog:QF}{w:Jk}{A:Q9}{E:Value->Shared->Prop}{s:Shared}
theorem Qls{a:Addr}{m:Nat}(hm:m<64)(x:Sml s.heap a m (ledOf w)):∃es ep so vs,Way prog w a es ep (tb m (ledOf w)) so vs/\SetAt s.heap a es ep (tb m (ledOf w))/\EsOk es (Sm m):=by
 obtain⟨es,ep,sa,eo⟩:=x.ex;cases hb:w.params.followText "set-order" with
 |true=>exact⟨es,ep,_,_,QoB hb a es ep _,sa,eo⟩
 |false=>
  have hl:ledOf w=true:=by unfold ledOf;rw[hb];rfl
  have hz:(Sm m).toArray.size=(Sm m).length:=by simp
  refine⟨es,ep,so m,es,Qs4 hb a es ep _ rfl hl (by rw[eo.size];exact hz) (so m) rfl (λi hi=>rfl) (λi hi=>?_),sa,eo⟩;have hi:i<=(Sm m).length:=by rw[<- hz];exact hi
  have:=Qke ⟨m,hm⟩;exact Qta ⟨m,hm⟩ ⟨i,by simp only at this;omega⟩ hi
theorem QjE:∀(l:List (Int×Value)),(∀e∈l,∃(v:Nat)(tk:Tok),e=((v:Int),Yw (v:Int) tk))->Qa9 (l.map (·.2)) (l.map (·.1))
 |[],_=>.nil
 |e::l,h=>by
  obtain⟨v,tk,rfl⟩:=h e (.head _);exact .cons _ tk (QjE l λe he=>h e (.tail _ he))
theorem Qgt{a:Addr}{m:Nat}{Q:List Value->Shared->Prop}(hh:A.handled=none)(hm:m<64)(x:Sml s.heap a m (ledOf w))
  (hQ:∀(h':Heap)(tk:Nat)(us:List Value)(ns:List Int),(∀b o,s.heap.get? b=some o->h'.get? b=some o)->Qa9 us ns->ns.Perm ((Sm m).map λ(x:Nat)=>(x:Int))->Q us { s with heap:=h',toks:=tk }):wpAny (model prog w) A (collect (.ref a)) Q E s:=by
 obtain⟨es,ep,so,vs,W,sa,eo⟩:=Qls (prog:=prog) hm x;refine QiA hh W sa rfl (by have:=Qke ⟨m,hm⟩;simp only at this;rw[eo.size,YT];omega) λh' tk kp=>?_
 refine hQ h' tk _ (vs.toList.map (·.1)) kp (QjE _ λe he=>?_) ?_
 ·obtain⟨v,_,tk,e'⟩:=eo.mem (W.pm.mem_iff.mp he);exact⟨v,tk,e'⟩
 ·have h1:=W.pm.map (·.1);have h2:=congrArg Qj8 eo.hashes;rw[Qe2] at h2;rw[h2] at h1
  simpa using h1
theorem Qg6{Q:Value->Shared->Prop}{a:Addr}{m:Nat}(hh:A.handled=none)(hm:m<64)(x:Sml s.heap a m (ledOf w))
  (h:∀(h':Heap)(tk:Nat)(us:List Value)(ns:List Int),(∀b x,s.heap.get? b=some x->h'.get? b=some x)->Qa9 us ns->ns.Perm ((Sm m).map λ(x:Nat)=>(x:Int))->∀(P:PySem.Fin->Shared->Prop)(E':Value->Shared->Prop),(∀s2,Q (.ref h'.objs.size) s2->P (.done (.ret .none)) s2) ->
   wpAny (model prog w) A.in1.in1 (YV.«list.sort» ⟨[.ref h'.objs.size],[]⟩) P E' { s with heap:=h'.push (seqObj "list" us.toArray 0),toks:=tk }) :
  wpAny (model prog w) A (call (.builtin "sorted") [.ref a]) Q E s:=by
 refine QgX kind_sorted plain_sorted entry_sorted (args_sorted1 _) ?_
 unfold YV.«sorted»;refine wpAny_bind (m:=checkCount "sorted" 1 1 _) (wpAny_pure ?_);refine wpAny_bind (Qgt (A:=A.in1) hh hm x λh' tk us ns kp ia pm=>?_);have hlen:us.length<=6:=by
  have h1:=ia.length;have h2:=pm.length_eq;have:=Qke ⟨m,hm⟩;simp only at this;rw[Qd] at h2;omega
 refine wpAny_bind (Qol ?_ (by rw[YT];omega));have hoL:(h'.push (seqObj "list" us.toArray 0)).get? h'.objs.size=some (seqObj "list" us.toArray 0):=Qr _ rfl;show wpAny _ _ _ _ _ { s with heap:=h'.push (seqObj "list" us.toArray 0),toks:=tk };refine wpAny_bind (JT (JJ slot_list_sort ⟨_,hoL,rfl⟩ entry_list_sort ?body (args_list_sort _)));exact h h' tk us ns kp ia pm _ _ λs2 hq=>⟨_,rfl,wpAny_pure ⟨_,rfl,hq⟩⟩
end
end Zt
namespace L2
open Zt
section
variable{X:Cx}
def QwH(led:Bool):List V->Hp->VK->Prop:=λxs H Q=>∃(a:Addr)(m:Nat),xs=[.ref a]/\m<64/\H a=some (.ext λh=>Sml h a m led) /\
 ∀(t:Addr)(H2:Hp),Same H H2->H t=none->H2 t=some (.lst ((Sm m).map λ(n:Nat)=>V.int (n:Int)))->Q (.ref t) H2
theorem QkR(hc:X.calm=true):CallR X (.builtin "sorted") (QwH (ledOf X.w)):=by
 intro pins s σ H xs us Q I r h;obtain⟨a,m,rfl,hm,ha,q⟩:=h;obtain⟨u,rfl,ru⟩:=vals1 r;cases ru;obtain⟨hS,_⟩:=I.hok a _ ha;refine Qg6 (I.ok.hd hc) hm hS λh' tk its ns kp ia pm P E' hP=>?_
 have hn:(h'.push (seqObj "list" its.toArray 0)).get? h'.objs.size=some (seqObj "list" its.toArray 0):=Qr _ rfl;have h6:ns.length<=6:=by
  have h2:=pm.length_eq;have:=Qke ⟨m,hm⟩;simp only at this;rw[Qd] at h2;omega
 have h6':=ia.length;refine Qlc (s:={ s with heap:=h'.push (seqObj "list" its.toArray 0),toks:=tk }) hn ia (by omega) λout ns' ia' pm' pw=>hP _ ?_
 have I1:Inv X pins σ H { s with heap:=h',toks:=tk }:=I.kept (t':=tk) kp;have hf:H h'.objs.size=none:=I1.hok.fresh (Qg _);obtain⟨e,he⟩:∃e,(sortedHeap (h'.push (seqObj "list" its.toArray 0)) h'.objs.size its out).get? h'.objs.size=some (seqObj "list" out e):=Qom hn
 have rv':=Qeh ia';have en:ns'=(Sm m).map λ(n:Nat)=>(n:Int):=by
  refine ZT (le:=(·<=·)) (λa b _ _ h1 h2=>Qv0 h1 h2) pw ?_ (pm'.trans pm)
  rw[Jb];exact(QyD ⟨m,hm⟩).imp λh=>by omega
 have rv2:Vals ((Sm m).map λ(n:Nat)=>V.int (n:Int)) out.toList:=by
  rw[en,QL] at rv';exact rv'
 have lp:=pm'.length_eq;have I2:Inv X pins σ (upd H h'.objs.size (.lst ((Sm m).map λ(n:Nat)=>V.int (n:Int)))) { s with heap:=sortedHeap (h'.push (seqObj "list" its.toArray 0)) h'.objs.size its out,toks:=tk }:=
  I1.laid (t':=tk) (λb x e'=>(Qlb (QD (Qk e')) (QP (Qk e') (by rw[Qzb];exact QdW _))).trans (Qe _ e')) (Qg _) (show ObjOk X.prog X.w _ _ _ (.lst _) from⟨by
   have:=Qke ⟨m,hm⟩;simp only at this;rw[Qd];exact Zq (Rk.Qa1 (by omega)),out.toList,e,rv2,by rw[he]⟩)
 exact⟨.ref h'.objs.size,_,I2,rfl,q _ _ (JI hf) hf Jy⟩
end
end L2
namespace Dl
open L2 _root_.Rd Rk Zt
section
variable{X:Cx}{E:XK}
theorem Qrh{A:Addr->Prop}{H:Hp}{xs:List V}{ns:List Nat}(q:DAs A H xs (ns.map λ(n:Nat)=>Qi n)):xs=ns.map λ(n:Nat)=>V.int (n:Int):=by
 have e:(ns.map λ(n:Nat)=>Qi n)=(ns.map λ(n:Nat)=>(n:Int)).map .int:=by rw[QL];rfl
 rw[e] at q;rw[Qaz q,QL];rfl
theorem QmT{A:Addr->Prop}{H:Hp}(ns:List Nat):DAs A H (ns.map λ(n:Nat)=>V.int (n:Int)) (ns.map λ(n:Nat)=>Qi n):=by
 have:=Qb2 (A:=A) (H:=H) (ns.map λ(n:Nat)=>(n:Int));rw[QL,QL] at this;exact this
end
end Dl
namespace L2
open PySem.Calls _root_.Rd _root_.Rk _root_.Rs Rt Dl
section
variable{X:Cx}
end
end L2
namespace Zt
section
variable{prog:QF}{w:Jk}{A:Q9}{E:Value->Shared->Prop}{s:Shared}
end
end Zt
namespace Rk
open L2 _root_.Rd Dl
def inW(d:Qa)(a b:Int):Bool:=match d with
 |.int i=>decide (a<=i)&&decide (i<=b)
 |_=>false
theorem QkG{i a b:Int}(h1:a<=i)(h2:i<=b):inW (.int i) a b=true:=by
 show(decide (a<=i)&&decide (i<=b))=true;rw[decide_eq_true h1,decide_eq_true h2];rfl
theorem Qu4{d:Qa}{a b:Int}(h:inW d a b=true):∃i,d=.int i/\a<=i/\i<=b:=by
 cases d<;>first | (cases h;done) | skip
 rename_i i
 have h:=QR.mp (show(decide (a<=i)&&decide (i<=b))=true from h);exact⟨i,rfl,of_decide_eq_true h.1,of_decide_eq_true h.2⟩
def Qcq:DF:=λargs R _=>∃d a b,args=[.v d,.v (.int a),.v (.int b)]/\R (.bool (inW d a b))
theorem QbY(ns:List Int):nds (ns.map Qi)=true:=QmQ.mpr λd hd=>by
 obtain⟨i,_,rfl⟩:=Qh.mp hd;rfl
theorem QjW(xs:List Qa)(k:Int)(h:0<=k):Dl.cutD xs none (some k)=xs.take k.toNat:=by
 unfold Dl.cutD;obtain⟨j,rfl⟩:∃j:Nat,k=j:=⟨k.toNat,by omega⟩
 rw[HT.Qd7,HT.Qif,QvY,Nat.sub_zero,QH];by_cases z:j<=xs.length
 ·rw[QcR z]
 ·rw[QvF (by omega),ZQ,Qcd (by omega)]
end Rk
namespace Rx
open PySem.Calls L2
section
variable{X:Cx}{e:QV}{st:ZY}{rest:List ZY}{pos:Pos}{te:TX}{t u:TSX}
end
end Rx
namespace L2
open Dl
end L2
namespace Dl
open L2 _root_.Rd Rk
section
variable{X:Cx}
variable{k:Nat}{f:Addr}{fd:QM}{ps:List Str}{x:Str}{p pos:Pos}{e:QV}{es:List QV}{fD:DF}{wa:DSl}
end
end Dl
namespace Rk
open L2 _root_.Rd Dl Rt
def QbA:List Qa->Bool
 |x::y::r=>ltD x y&&QbA (y::r)
 |_=>true
def QxJ:Qa->Bool
 |.tuple [a,b]=>ltD a b
 |_=>false
theorem Qyo(d:Qa)(ds:List Qa):Dl.cutD (d::ds) (some 1) none=ds:=by
 unfold Dl.cutD;rw[HT.Qd7,show(1:Int)=((1:Nat):Int) from rfl,HT.Qif];rw[QcR (by rw[QQ];omega),List.drop_one,List.tail_cons,QQ,Yu,ZQ]
theorem Qek:∀ds:List Qa,(Qj9 ds (Dl.cutD ds (some 1) none)).all QxJ=QbA ds
 |[]=>by
  have h:(Qj9 ([]:List Qa) (Dl.cutD [] (some 1) none))=[]:=by unfold Qj9;rfl
  rw[h];rfl
 |[x]=>by rw[Qyo];rfl
 |x::y::r=>by
  have ih:=Qek (y::r);rw[Qyo] at ih ⊢;show(QxJ (.tuple [x,y])&&(Qj9 (y::r) r).all QxJ)=_;rw[ih];rfl
def Qn7(ds:List Qa):Prop:=∀x∈ds,okK x=true/\x.depth<=20/\∀y∈ds,Qoj x y=true
def Qga:DF:=λargs R _=>∃ds:List Qa,(args=[.v (.tuple ds)]∨args=[.v (.list ds)])/\Qn7 ds/\R (.bool (QbA ds))
def QkE(h w:Int):Qa->Bool
 |.tuple [a,b]=>inW a 0 (h - 1)&&inW b 0 (w - 1)
 |_=>false
theorem QxX{h w:Int}{d:Qa}(q:QkE h w d=true):∃p:Int×Int,d=pairD p/\0<=p.1/\p.1<h/\0<=p.2/\p.2<w:=by
 cases d<;>first | (cases q;done) | skip
 rename_i ds
 match ds,q with
 |[a,b],q=>
  have q:=QR.mp (show(inW a 0 (h - 1)&&inW b 0 (w - 1))=true from q);obtain⟨i,rfl,i1,i2⟩:=Qu4 q.1;obtain⟨j,rfl,j1,j2⟩:=Qu4 q.2;exact⟨(i,j),rfl,i1,by show i<h;omega,j1,by show j<w;omega⟩
 |[],q=>cases q
 |[_],q=>cases q
 |_::_::_::_,q=>cases q
theorem Qsn{h w:Int}{p:Int×Int}(h1:0<=p.1)(h2:p.1<h)(h3:0<=p.2)(h4:p.2<w):QkE h w (pairD p)=true:=by
 show(inW (.int p.1) 0 (h - 1)&&inW (.int p.2) 0 (w - 1))=true;rw[QkG h1 (by omega),QkG h3 (by omega)];rfl
def toP:Qa->Int×Int
 |.tuple [.int a,.int b]=>(a,b)
 |_=>(0,0)
theorem Qjn{h w:Int}{ds:List Qa}(q:ds.all (QkE h w)=true):∃L:List (Int×Int),ds=L.map pairD/\∀p∈L,0<=p.1/\p.1<h/\0<=p.2/\p.2<w:=by
 induction ds with
 |nil=>exact⟨[],rfl,λ_ h=>nomatch h⟩
 |cons d ds ih=>
  rw[Qd2,JB] at q;obtain⟨p,rfl,hp⟩:=QxX q.1;obtain⟨L,rfl,hL⟩:=ih q.2;refine⟨p::L,rfl,λx hx=>?_⟩;rcases Qy.mp hx with z | z
  ·rw[z];exact hp
  ·exact hL x z
theorem Qhd(L:List (Int×Int)):(L.map pairD).map toP=L:=by
 rw[QL]
 conv=>rhs;rw[<- QgM L]
 rfl
theorem QcB(p:Int×Int):(pairD p).depth<=1:=by
 show JS [.int p.1,.int p.2]+1<=1;simp[JS,ZP]
theorem QhE(L:List (Int×Int)):Qn7 (L.map pairD):=λx hx=>by
 obtain⟨p,_,rfl⟩:=Qh.mp hx;refine⟨rfl,QU (QcB p) (by decide),λy hy=>?_⟩;obtain⟨q,_,rfl⟩:=Qh.mp hy;rfl
def stT(L:List (Int×Int)):Qa:=.tuple (L.map pairD)
def plt(p q:Int×Int):Prop:=p.1<q.1∨(p.1=q.1/\p.2<q.2)
instance plt_dec (p q:Int×Int):Decidable (plt p q):=by unfold plt;exact inferInstance
theorem Qp1(p q:Int×Int):ltD (pairD p) (pairD q)=decide (plt p q):=by
 show isL (thn (Qok p.1 q.1) (thn (Qok p.2 q.2) .eq))=_;unfold Qok plt;by_cases h1:p.1<q.1
 ·rw[if_pos h1];exact(decide_eq_true (.inl h1)).symm
 ·rw[if_neg h1];by_cases h2:p.1=q.1
  ·rw[if_pos h2];by_cases h3:p.2<q.2
   ·rw[if_pos h3];exact(decide_eq_true (.inr ⟨h2,h3⟩)).symm
   ·rw[if_neg h3];have:decide (p.1<q.1∨p.1=q.1/\p.2<q.2)=false:=decide_eq_false (by omega);rw[this];split<;>rfl
  ·rw[if_neg h2];exact(decide_eq_false (by omega)).symm
theorem QeN(p q:Int×Int):QX (pairD p) (pairD q)=decide (p=q):=by
 show((p.1 == q.1)&&((p.2 == q.2)&&true))=_;obtain⟨a,b⟩:=p;obtain⟨c,d⟩:=q;by_cases h1:a=c
 ·by_cases h2:b=d
  ·subst h1 h2;simp
  ·simp[h1,h2]
 ·simp[h1]
theorem Qbd(cs:List (Int×Int))(p:Int×Int):((cs.map pairD).any λc=>QX c (pairD p))=decide (p∈cs):=by
 rw[Qzo,J8,QaL,decide_eq_true_iff];constructor
 ·rintro⟨c,hc,h⟩;have:c=p:=of_decide_eq_true (by rw[<- QeN];exact h);rw[<- this];exact hc
 ·intro h;refine⟨p,h,?_⟩;show QX (pairD p) (pairD p)=true;rw[QeN];simp
def QCb(h w:Int):Qa->Bool
 |.tuple ds=>ds.all (QkE h w)&&QbA ds
 |_=>false
def apB(L:List (Int×Int)):Bool:=decide (L.map (·.1)).Nodup&&decide (L.map (·.2)).Nodup
def bdD(h w:Int)(cs:List (Int×Int)):Qa:=.tuple [.int h,.int w,.tuple (cs.map pairD)]
def inC(cs:List (Int×Int))(e:Qa):Bool:=(cs.map pairD).any λc=>QX c e
def Qoh(h w:Int)(cs:List (Int×Int)):Qa->Bool
 |.tuple ds=>(ds.all (QkE h w)&&QbA ds)&&(ds.all (inC cs)&&apB (ds.map toP))
 |_=>false
def Qjm:DF:=λargs R _=>∃(h w:Int)(d:Qa),args=[.v (.int h),.v (.int w),.v d]/\R (.bool (QkE h w d))
def QnA:DF:=λargs R _=>∃(h w:Int)(d:Qa),args=[.v (.int h),.v (.int w),.v d]/\R (.bool (QCb h w d))
def QnS:DF:=λargs R _=>∃L:List (Int×Int),args=[.v (.tuple (L.map pairD))]/\L.length<=4000/\R (.bool (apB L))
def Qfh(d:Qa):Prop:=∀ds,d=.tuple ds->ds.length<=1000
def Qi8:DF:=λargs R _=>∃(h w:Int)(cs:List (Int×Int))(d:Qa),args=[.v (bdD h w cs),.v d]/\Qfh d/\R (.bool (Qoh h w cs d))
theorem Qdh{ds:List Qa}(h:ds.length<=1000):Qfh (.tuple ds):=λls e=>by cases e;exact h
theorem QdB(ns:List Int):QaY (ns.map Qi)=some ns:=Dl.ints_map ns
theorem QhC(xs:List Qa)(k:Nat):Dl.cutD xs (some (k:Int)) none=xs.drop k:=by
 unfold Dl.cutD;rw[HT.Qd7,HT.Qif];by_cases z:k<=xs.length
 ·rw[QcR z,Qcd (by rw[Qcb];exact Qg _)]
 ·rw[QvF (by omega),List.drop_length,List.drop_of_length_le (by omega),QiR]
def QbV(r n:Nat)(f:Nat->Nat->Bool):List (Int×Int):=((Qt n).filter (f r)).map λ(c:Nat)=>((r:Int),(c:Int))
def cellsF(h w:Nat)(f:Nat->Nat->Bool):List (Int×Int):=(Qt h).flatMap λr=>QbV r w f
def Qs6(f:Nat->Nat->Bool)(i j:Nat)(b:Bool):Nat->Nat->Bool:=λr c=>if r=i/\c=j then b else f r c
theorem YL(h w:Nat)(f:Nat->Nat->Bool):cellsF (h+1) w f=cellsF h w f++QbV h w f:=by
 unfold cellsF;rw[QcG,Qa4];simp
theorem Ql0(r n:Nat)(f:Nat->Nat->Bool):QbV r (n+1) f=QbV r n f++(if f r n=true then[((r:Int),(n:Int))] else[]):=by
 unfold QbV;rw[QcG,Yn,Jr]
 congr 1
 by_cases z:f r n=true
 ·rw[if_pos z];simp[z]
 ·rw[if_neg z];simp[z]
theorem Qfs{r n:Nat}{f g:Nat->Nat->Bool}(h:∀c,c<n->f r c=g r c):QbV r n f=QbV r n g:=by
 unfold QbV
 congr 1
 exact Qaq λc hc=>h c (Q0.mp hc)
theorem QdO{h w:Nat}{f g:Nat->Nat->Bool}(q:∀r c,r<h->c<w->f r c=g r c):cellsF h w f=cellsF h w g:=by
 induction h with
 |zero=>rfl
 |succ h ih=>rw[YL,YL,ih λr c hr=>q r c (by omega),Qfs λc hc=>q h c (by omega) hc]
theorem QkQ{h w i j:Nat}{f:Nat->Nat->Bool}{b:Bool}(hi:h<=i):cellsF h w (Qs6 f i j b)=cellsF h w f:=QdO λr c hr _=>if_neg λz=>by omega
theorem QoX{i n j:Nat}{f:Nat->Nat->Bool}{b:Bool}(hj:n<=j):QbV i n (Qs6 f i j b)=QbV i n f:=Qfs λc hc=>if_neg λz=>by omega
theorem Qbk{r n:Nat}{f:Nat->Nat->Bool}{p:Int×Int}:p∈QbV r n f↔∃c:Nat,c<n/\f r c=true/\p=((r:Int),(c:Int)):=by
 unfold QbV;rw[Qh];constructor
 ·rintro⟨c,hc,rfl⟩;have hc:=Qj.mp hc;exact⟨c,Q0.mp hc.1,hc.2,rfl⟩
 ·rintro⟨c,hc,hf,rfl⟩;exact⟨c,Qj.mpr ⟨Q0.mpr hc,hf⟩,rfl⟩
theorem Yr{h w:Nat}{f:Nat->Nat->Bool}{p:Int×Int}:p∈cellsF h w f↔∃r c:Nat,r<h/\c<w/\f r c=true/\p=((r:Int),(c:Int)):=by
 unfold cellsF;rw[JV];constructor
 ·rintro⟨r,hr,hp⟩;obtain⟨c,hc,hf,rfl⟩:=Qbk.mp hp;exact⟨r,c,Q0.mp hr,hc,hf,rfl⟩
 ·rintro⟨r,c,hr,hc,hf,rfl⟩;exact⟨r,Q0.mpr hr,Qbk.mpr ⟨c,hc,hf,rfl⟩⟩
theorem Qbc{h w:Nat}{f:Nat->Nat->Bool}{p:Int×Int}(q:p∈cellsF h w f):0<=p.1/\p.1<h/\0<=p.2/\p.2<w:=by
 obtain⟨r,c,hr,hc,_,rfl⟩:=Yr.mp q;exact⟨QrI _,by show(r:Int)<h;omega,QrI _,by show(c:Int)<w;omega⟩
theorem Qf7(r n:Nat)(f:Nat->Nat->Bool):(QbV r n f).length<=n:=by
 unfold QbV;rw[Qd];exact QU (Yy _ _) (by rw[Q1];exact Qg _)
theorem Qb6(w:Nat)(f:Nat->Nat->Bool):∀h,(cellsF h w f).length<=h*w
 |0=>Jc _
 |h+1=>by
  have:=Qb6 w f h;have:=Qf7 h w f;rw[YL,Qu,Qli];omega
theorem QeK(r n:Nat)(f:Nat->Nat->Bool):(QbV r n f).filter (λp=>decide (p.1=(r:Int)))=QbV r n f:=Zl.mpr λp hp=>by
 obtain⟨c,_,_,rfl⟩:=Qbk.mp hp;exact decide_eq_true rfl
theorem QeL{r k n:Nat}(h:r≠k)(f:Nat->Nat->Bool):(QbV r n f).filter (λp=>decide (p.1=(k:Int)))=[]:=Yl.mpr λp hp=>by
 obtain⟨c,_,_,rfl⟩:=Qbk.mp hp;show ¬decide ((r:Int)=(k:Int))=true;rw[decide_eq_false (by omega)];exact Qm
theorem QfF(w k:Nat)(f:Nat->Nat->Bool):∀h,(cellsF h w f).filter (λp=>decide (p.1=(k:Int)))=if k<h then QbV k w f else[]
 |0=>rfl
 |h+1=>by
  rw[YL,Yn,QfF w k f h];by_cases z:k=h
  ·subst z;rw[if_neg (by omega),QeK,if_pos (by omega)];rfl
  ·rw[QeL (λe=>z e.symm),Zo];by_cases z2:k<h
   ·rw[if_pos z2,if_pos (by omega)]
   ·rw[if_neg z2,if_neg (by omega)]
theorem QtF(r n:Nat)(f:Nat->Nat->Bool):(QbV r n f).Pairwise plt:=by
 unfold QbV;refine Qzr (R:=λa b=>a<b) _ (λa b hab=>.inr ⟨rfl,by show(a:Int)<b;omega⟩) ?_
 exact Ju _ Qan
theorem pw_cellsF(w:Nat)(f:Nat->Nat->Bool):∀h,(cellsF h w f).Pairwise plt
 |0=>.nil
 |h+1=>by
  rw[YL];refine YM.mpr ⟨pw_cellsF w f h,QtF h w f,λp hp q hq=>?_⟩;obtain⟨r,c,hr,_,_,rfl⟩:=Yr.mp hp;obtain⟨c',_,_,rfl⟩:=Qbk.mp hq;exact .inl (by show(r:Int)<h;omega)
theorem Qjl{p q:Int×Int}(h:plt p q):p≠q:=λe=>by subst e;rcases h with z | z<;>omega
def Qiu:DF:=λargs R _=>∃m:Int,args=[.pot,.v (.int m)]/\1<=m/\m<=6/\∀(h w:Nat)(f:Nat->Nat->Bool),1<=h->(h:Int)<=m->1<=w->(w:Int)<=m->R (bdD h w (cellsF h w f))
def QdJ(cs:List (Int×Int))(r:Int):List (Int×Int):=cs.filter λp=>decide (p.1=r)
def Qfb(cells L:List (Int×Int)):List (List (Int×Int)):=(cells.filter λc => !decide (c.2∈L.map (·.2))).map λc=>L++[c]
def Qbg(cs:List (Int×Int)):Nat->List (List (Int×Int))
 |0=>[[]]
 |i+1=>Qbg cs i++(Qbg cs i).flatMap (Qfb (QdJ cs i))
theorem Qrf(cells L:List (Int×Int)):(Qfb cells L).length<=cells.length:=by
 unfold Qfb;rw[Qd];exact Yy _ _
theorem QjO{α β:Type}{f:α->List β}{k:Nat}:∀{xs:List α},(∀x∈xs,(f x).length<=k)->(xs.flatMap f).length<=xs.length*k
 |[],_=>Jc _
 |x::xs,h=>by
  have h1:=h x (.head _);have h2:=QjO (xs:=xs) λy hy=>h y (.tail _ hy)
  rw[JA,Qu,QQ,Qli];omega
theorem Qi6{cs:List (Int×Int)}{k:Nat}(h:∀r,(QdJ cs r).length<=k):∀i,(Qbg cs i).length<=(k+1)^i
 |0=>Qg _
 |i+1=>by
  have h1:=Qi6 h i;have h2:=QjO (xs:=Qbg cs i) (k:=k) λL _=>QU (Qrf (QdJ cs i) L) (h i)
  show(Qbg cs i++(Qbg cs i).flatMap (Qfb (QdJ cs i))).length<=_;rw[Qu,Nat.pow_succ,Nat.mul_add,Nat.mul_one];have h3:(Qbg cs i).length*k<=(k+1)^i*k:=Nat.mul_le_mul_right k h1;omega
theorem Qay{cells L M:List (Int×Int)}:M∈Qfb cells L↔∃c∈cells,c.2∉L.map (·.2)/\M=L++[c]:=by
 unfold Qfb;rw[Qh];constructor
 ·rintro⟨c,hc,rfl⟩;have hc:=Qj.mp hc;exact⟨c,hc.1,by simpa using hc.2,rfl⟩
 ·rintro⟨c,hc,hn,rfl⟩;exact⟨c,Qj.mpr ⟨hc,by simpa using hn⟩,rfl⟩
theorem Qen{cs:List (Int×Int)}:∀i,∀L∈Qbg cs i,L.length<=i
 |0,L,h=>by rw[Qx.mp h];exact Qg _
 |i+1,L,h=>by
  rcases Jf.mp (show L∈Qbg cs i++(Qbg cs i).flatMap (Qfb (QdJ cs i)) from h) with z | z
  ·exact Nat.le_succ_of_le (Qen i L z)
  ·obtain⟨M,hM,hL⟩:=JV.mp z;obtain⟨c,_,_,rfl⟩:=Qay.mp hL;have:=Qen i M hM;rw[Qu];exact QvE this
theorem QlI(cs:List (Int×Int)):∀i,[]∈Qbg cs i
 |0=>.head _
 |i+1=>Jf.mpr (.inl (QlI cs i))
theorem QnT(ns:List Int)(i:Int):((ns.map Qi).any λe=>QX e (.int i))=decide (i∈ns):=by
 rw[Qzo,J8,QaL,decide_eq_true_iff];constructor
 ·rintro⟨c,hc,h⟩;have:c=i:=by simpa [QX] using h
  rw[<- this];exact hc
 ·intro h;refine⟨i,h,?_⟩;show(i == i)=true;simp
theorem Qig(w h:Nat)(f:Nat->Nat->Bool)(r:Int):(QdJ (cellsF h w f) r).length<=w:=by
 by_cases z:0<=r
 ·obtain⟨k,rfl⟩:∃k:Nat,r=k:=⟨r.toNat,by omega⟩
  unfold QdJ;rw[QfF];split
  ·exact Qf7 _ _ _
  ·exact Jc _
 ·have:QdJ (cellsF h w f) r=[]:=Yl.mpr λp hp e=>by
   have:=Qbc hp;have:=of_decide_eq_true e;omega
  rw[this];exact Jc _
def tN(ns:List Int):Qa:=.tuple (ns.map Qi)
def Qdv(n:Int):Qa->Bool
 |.tuple ds=>ds.all (λd=>inW d 0 (n - 1))&&QbA ds
 |_=>false
theorem Qiq{n:Int}:∀{ds:List Qa},ds.all (λd=>inW d 0 (n - 1))=true->∃ns:List Int,ds=ns.map Qi/\∀i∈ns,0<=i/\i<n
 |[],_=>⟨[],rfl,λ_ h=>nomatch h⟩
 |d::ds,h=>by
  rw[Qd2,JB] at h;obtain⟨i,rfl,h1,h2⟩:=Qu4 h.1;obtain⟨ns,rfl,hn⟩:=Qiq h.2;refine⟨i::ns,rfl,λx hx=>?_⟩;rcases Qy.mp hx with z | z
  ·subst z;omega
  ·exact hn x z
theorem QjC{n:Int}{d:Qa}(h:Qdv n d=true):∃ns:List Int,d=tN ns/\∀i∈ns,0<=i/\i<n:=by
 cases d<;>first | (cases h;done) | skip
 rename_i ds
 obtain⟨ns,rfl,hn⟩:=Qiq (QR.mp (show(ds.all (λd=>inW d 0 (n - 1))&&QbA ds)=true from h)).1;exact⟨ns,rfl,hn⟩
theorem QiC(ns:List Int):Qn7 (ns.map Qi):=λx hx=>by
 obtain⟨p,_,rfl⟩:=Qh.mp hx;refine⟨rfl,Jc _,λy hy=>?_⟩;obtain⟨q,_,rfl⟩:=Qh.mp hy;rfl
def QuJ:DF:=λargs R _=>∃(n:Int)(d:Qa),args=[.v (.int n),.v d]/\R (.bool (Qdv n d))
def QAz(h w:Int):Qa->Bool
 |.tuple [a,b]=>Qdv h a&&Qdv w b
 |_=>false
def QmX:DF:=λargs R _=>∃(h w:Int)(cs:List (Int×Int))(d:Qa),args=[.v (bdD h w cs),.v d]/\R (.bool (QAz h w d))
def inT(x:Int):Qa->Bool
 |.tuple ds=>ds.any λc=>QX c (.int x)
 |_=>false
def QjD(h w:Int)(cs:List (Int×Int)):Qa->Bool
 |.tuple [a,b]=>(Qdv h a&&Qdv w b)&&(cs.map pairD).all λd=>inT (toP d).1 a||inT (toP d).2 b
 |_=>false
def QjJ:DF:=λargs R _=>∃(h w:Int)(cs:List (Int×Int))(d:Qa),args=[.v (bdD h w cs),.v d]/\R (.bool (QjD h w cs d))
def Qww(d:Qa):Prop:=∀ds,d=.tuple ds->∀e∈ds,Qfh e
def lnD(p:List Int×List Int):Qa:=.tuple [tN p.1,tN p.2]
end Rk
namespace L2
open Zt _root_.Rd _root_.Rk Dl Rt
section
variable{X:Cx}
end
end L2
namespace Dl
open L2 _root_.Rd Rk Zt Rt
section
variable{X:Cx}{E:XK}
end
end Dl
namespace Zt
section
variable{prog:QF}{w:Jk}{A:Q9}{E:Value->Shared->Prop}{s:Shared}
theorem QuL{Q:Value->Shared->Prop}(h:Q (.ref s.heap.objs.size) { s with heap:=s.heap.push { cls:=.type "set",dict:=none,data:=.set #[] 0 (.fresh 0 0 (ledOf w)) } }):wpAny (model prog w) A (newSet (.type "set")) Q E s:=by
 unfold newSet
 wp_walk
 refine Z0 (wpAny_pure ?_);dsimp only;simp only[newObj];refine wpAny_bind (wpAny_alloc (wpAny_pure ?_));exact h
end
end Zt
namespace L2
open Zt
theorem QhD(elt target iter:QV)(ifs:List QV)(scope:Y0)(pos:Pos)(it acc:Value)(env:Env) :
  compTurn (.SetComp elt [⟨target,iter,ifs,0⟩] scope pos) 0 it acc env=(do
   standAt iter.pos
   let r <- pyNext it
   match r with
   |none=>pure (.done .next)
   |some v=>
    letOwnedTupleGo target it v
    assign target env v
    let ok <- Qh8 ifs env
    if ok then
     (do let x <- eval elt env;standAt elt.pos;let _ <- call (.builtin "set.add") [acc,x])
    again (.compLoop (.SetComp elt [⟨target,iter,ifs,0⟩] scope pos) 0 it acc env)):=by rfl
section
variable{prog:QF}{w:Jk}{A:Q9}{R:Qj5->Shared->Prop}{s:Shared}
theorem QbN{elt target iter ifs rest scope pos it acc env}
  (h0:codeAny (model prog w) A (.compLoop (.SetComp elt (⟨target,iter,ifs,0⟩::rest) scope pos) 0 it acc env) R s)
  (h:wpAny (model prog w) A (pyIter it) (λit' s'=>codeAny (model prog w) A (.compLoop (.SetComp elt (⟨target,iter,ifs,0⟩::rest) scope pos) 0 it' acc env) R s') (notedBy (model prog w) A env λx s'=>R (.error x) s') s) :
  codeAny (model prog w) A (.compStart (.SetComp elt (⟨target,iter,ifs,0⟩::rest) scope pos) 0 it acc env) R s:=by
 refine Qj4 ?_
 show wpAny _ _ ((compStart (.SetComp elt (⟨target,iter,ifs,0⟩::rest) scope pos) 0 it acc env).onRaise (λx=>do noteFrame x env;standAt theWindowsPlace)) _ _ s;refine wpAny_notedAt ?_
 unfold compStart;show wpAny _ _ (ask >>= _) _ _ s;refine wpAny_bind (Z0 (wpAny_ite ?_));split
 ·first | exact wpAny_bind (wpAny_pure (wpAny_pure (Qv3 rfl h0))) | exact wpAny_pure (Qv3 rfl h0)
 ·refine wpAny_bind (wpAny_rule ?_);show wpAny _ _ (standAt iter.pos >>= _) _ _ s;refine wpAny_bind (wpAny_standAt (wpAny_bind (wpAny_mono h (λit2 s2 q=>wpAny_pure (Qv3 rfl q)) λ_ _ e=>e)))
end
def Qn0(Y:Cx)(elt:QV)(D:Addr):Act:=λQ s=>wpAny (model Y.prog Y.w) Y.A (eval elt Y.env) (λv s6=>wpAny (model Y.prog Y.w) Y.A (call (.builtin "set.add") [.ref D,v]) (λ_ s7=>Q s7) (λ_ _=>False) s6) (λ_ _=>False) s
theorem Qkf{Y:Cx}{σ:St}{tg:QV}{elt:QV}{gens:List QcU}{scope:Y0}{cpos:Pos}{d:Nat}{it D:Addr}{fp:List Addr}{tn:Nat->Heap->Prop}{J:It}{pins:List (Addr×Obj)}{s:Shared}{H:Hp}{body:V->Hp->(Hp->Prop)->Prop}{Qn:Hp->Prop}{R:Qj5->Shared->Prop}{act:Value->Act}
  (hc:Y.calm=true)(T:Turn Y.prog Y.w Y.K tg J fp it tn)(st:tn 0 s.heap)(hf:∀b∈fp,FpOk Y pins H b)
  (hturn:∀(Q:PySem.Fin->Shared->Prop)(E:Value->Shared->Prop)(s:Shared),wpAny (model Y.prog Y.w) Y.A (pyNext (.ref it)) (λr s1=>match r with
   |none=>Q (.done .next) s1
   |some v=>wpAny (model Y.prog Y.w) Y.A (letOwnedTupleGo tg (.ref it) v) (λ_ s2=>act v (λs3=>Q (.again (.compLoop (.SetComp elt gens scope cpos) d (.ref it) (.ref D) Y.env)) s3) s2) E s1) E s ->
   wpAny (model Y.prog Y.w) Y.A (compTurn (.SetComp elt gens scope cpos) d (.ref it) (.ref D) Y.env) Q E s)
  (hact:∀(x:V)(u:Value),RelV x u->BodyOk Y σ (act u) (body x))
  (I:Inv Y pins σ H s)(h:Qib J body Qn H)(hR:∀s' H',Inv Y pins σ H' s'->Qn H'->R (.ok .next) s') :
  codeAny (model Y.prog Y.w) Y.A (.compLoop (.SetComp elt gens scope cpos) d (.ref it) (.ref D) Y.env) R s:=by
 obtain⟨W,⟨m0,w0⟩,turn⟩:=h;have stat:∀{H':Hp},(∀b∈fp,H' b=none)->∀b∈fp,FpOk Y pins H' b:=λhn b hb=>⟨hn b hb,(hf b hb).2⟩
 refine codeAny_loop rfl (λn s'=>∃i H',Inv Y pins σ H' s'/\tn i s'.heap/\(∀b∈fp,H' b=none)/\W i n H') (λn s3 hI=>?_) m0 ⟨0,H,I,st,λb hb=>(hf b hb).1,w0⟩;show wpAny _ Y.A ((compTurn (.SetComp elt gens scope cpos) d (.ref it) (.ref D) Y.env).onRaise (λx=>do noteFrame x Y.env;theTreesLotGoes x)) _ _ s3;refine wpAny_noted (hturn _ _ _ ?_);obtain⟨i,H3,I3,st3,fr3,w3⟩:=hI;rcases turn i n H3 w3 with⟨stop,qn⟩ | ⟨go,step⟩
 ·refine thn (T.done Y rfl rfl rfl hc i pins s3 σ H3 _ I3 (stat fr3) st3 stop) λr s4 ⟨hr,I4⟩=>?_
  subst hr;exact hR s4 H3 I4 qn
 ·refine thn (T.item Y rfl rfl rfl hc i pins s3 σ H3 _ I3 (stat fr3) st3 go) λr s4 ⟨u,hr,h4⟩=>?_
  subst hr;refine thn h4 λ_ s5 ⟨x,H5,I5,r5,y5,st5,fr5⟩=>?_
  have I5':=I5.pinned (stat fr5) (T.obj _ _ st5);refine hact x u r5 _ s5 H5 _ _ I5' (step x H5 y5) λs7 H7 I7 ⟨m',hm,w7⟩=>?_
  refine⟨rfl,m',hm,i+1,H7,I7.unpinned,T.keep _ _ _ st5 λb hb o e=>(I7.pin (b,o) (QB _ (QB _ (Ye hb e)))).1,λb hb=>?_,w7⟩;obtain⟨o,e,dd⟩:=T.obj _ _ st5 b hb;exact(I7.pin (b,o) (QB _ (QB _ (Ye hb e)))).2.1
theorem QlE{Y:Cx}{elt tg iter:QV}{ifs:List QV}{scope:Y0}{cpos:Pos}{it D:Addr}(Q:PySem.Fin->Shared->Prop)(E:Value->Shared->Prop)(s:Shared)
  (h:wpAny (model Y.prog Y.w) Y.A (pyNext (.ref it)) (λr s1=>match r with
   |none=>Q (.done .next) s1
   |some v=>wpAny (model Y.prog Y.w) Y.A (letOwnedTupleGo tg (.ref it) v) (λ_ s2=>QnY Y tg ifs (Qn0 Y elt D) v (λs3=>Q (.again (.compLoop (.SetComp elt [⟨tg,iter,ifs,0⟩] scope cpos) 0 (.ref it) (.ref D) Y.env)) s3) s2) E s1) E s) :
  wpAny (model Y.prog Y.w) Y.A (compTurn (.SetComp elt [⟨tg,iter,ifs,0⟩] scope cpos) 0 (.ref it) (.ref D) Y.env) Q E s:=by
 rw[QhD];refine wpAny_bind (wpAny_standAt (wpAny_bind (thn h λr s1 h1=>?_)));cases r with
 |none=>exact wpAny_pure h1
 |some v=>
  refine wpAny_bind (thn h1 λ_ s2 h2=>?_);refine wpAny_bind (wpAny_mono h2 (λ_ s4 h4=>wpAny_bind (wpAny_mono h4 (λok s5 h5=>?_) λ_ _ f=>f.elim)) λ_ _ f=>f.elim);cases ok with
  |false=>exact wpAny_pure h5
  |true=>exact wpAny_bind (wpAny_bind (wpAny_mono h5 (λx s6 h6=>wpAny_bind (wpAny_standAt (wpAny_bind (wpAny_mono h6 (λ_ s7 h7=>wpAny_pure (wpAny_pure h7)) λ_ _ f=>f.elim)))) λ_ _ f=>f.elim))
theorem call_addI{prog:QF}{w:Jk}{A:Q9}{E:Value->Shared->Prop}{s:Shared}{a:Addr}{u:Value}{Q:Value->Shared->Prop}(ty:s.TypeIs (.ref a) "set")(h:wpAny (model prog w) A.in1 (setAdd a u) (λ_ s'=>Q .none s') E s):wpAny (model prog w) A (call (.builtin "set.add") [.ref a,u]) Q E s:=by
 refine JJ F.slot_set_add ty F.entry_set_add ?_ (F.args_set_add_2 _ _)
 unfold YV.«set.add»;refine wpAny_bind ?_
 obtain⟨hp,g,d,tk,os⟩:=s;unfold QsZ;generalize setAdd=SA at h ⊢
 wp_walk
 refine wpAny_mono h (λ_ s' q=>?_) λ_ _ e=>e
 exact wpAny_pure ⟨_,rfl,q⟩
def smX(p:Addr)(m:Nat)(led:Bool):Heap->Prop:=λh=>Sml h p m led
def Qyv(W:Jk)(p:Addr)(te:TE):St->Hp->(Hp->Prop)->Prop:=λσ H k=>te σ H λv H6=>∃(c m:Nat),v=.int (c:Int)/\c<6/\m<64/\H6 p=some (.ext (smX p m (ledOf W)))/\k (upd H6 p (.ext (smX p (m ||| 2^c) (ledOf W))))
theorem QrV{P:QF}{W:Jk}{H:Hp}{h:Heap}{a:Addr}{m:Nat}{led:Bool}(x:Sml h a m led):ObjOk P W H h a (.ext (smX a m led)):=by
 refine⟨x,?_,λh1 h2 x k=>?_⟩
 ·obtain⟨es,ep,sa,_⟩:=x.ex;obtain⟨o,ho,_⟩:=sa.at_;exact⟨o,ho⟩
 ·exact Sml.at' (show Sml h1 a m led from x) k
theorem Qtk{X:Cx}{pins:List (Addr×Obj)}{σ:St}{H:Hp}{s:Shared}(I:Inv X pins σ H s):Inv X pins σ (upd H s.heap.objs.size (.ext (smX s.heap.objs.size 0 (ledOf X.w)))) { s with heap:=s.heap.push { cls:=.type "set",dict:=none,data:=.set #[] 0 (.fresh 0 0 (ledOf X.w)) } }:=by
 refine I.laid (t':=s.toks) (λb x e=>Qe _ e) (Qg _) (QrV ⟨#[],0,⟨⟨_,Qr _ rfl,⟨rfl,rfl,rfl⟩,?_⟩,QlA ⟨0,by decide⟩ _⟩,⟨[],by decide,by decide⟩⟩);rw[Qs9]
theorem QnN{Y:Cx}{σ:St}{elt:QV}{te:TE}{D:Addr}(hx:Y.xe=λ_ _=>False)(he:PE Y elt te):BodyOk Y σ (Qn0 Y elt D) (Qyv Y.w D te σ):=by
 intro pins s H k Q I h hQ;have hx':∀(v:Value)(s':Shared),Y.xe v s'->False:=λv s' z=>by rw[hx] at z;exact z
 refine wpAny_mono (he pins s σ H _ I h) (λv s6 ⟨y,H6,I6,r6,c,m,ey,hc,hm,eD,k1⟩=>?_) hx';subst ey;obtain⟨tk,rfl⟩:∃tk,v=.int (c:Int) tk:=by
  first
  |exact r6
  |(cases r6;exact⟨_,rfl⟩)
 obtain⟨sq,_,_⟩:=(show ObjOk Y.prog Y.w H6 s6.heap D (.ext _) from I6.hok D _ eD);have x:Sml s6.heap D m (ledOf Y.w):=sq;obtain⟨es,ep,sa,eo⟩:=x.ex;obtain⟨o,ho,hex,hd⟩:=sa.at_;have mu:Mut (H6 D):=by rw[eD];exact Qbt
 refine call_addI ⟨o,ho,hex.1⟩ ?_
 unfold setAdd;refine JT (wpAny_bind (wpAny_pyHash_int ?_));refine QnX hm hc x λh' b sb x'=>?_
 refine hQ _ _ ?_ k1
 obtain⟨es',ep',sa',_⟩:=x'.ex;obtain⟨o',ho',_⟩:=sa'.at_;exact I6.write (t':=s6.toks+1) (x:=D) (e:=D) mu (.inl rfl) (λb u hb z=>(sb.2 b hb).trans z) ⟨o',ho'⟩ (QrV x')
def Qwn(W:Jk)(cap:List (Option Nat))(wi:TI)(g:TG)(tc:TT)(te:TE):TE:=λσ H Q=>wi σ H λJ H1=>∀p,H1 p=none->Qib J (bOf (Qc8 cap σ) g tc (Qyv W p te)) (Q (.ref p)) (upd H1 p (.ext (smX p 0 (ledOf W))))
theorem Qmf{X:Cx}{M:List Str}{cap:List (Option Nat)}{elt tg iter:QV}{ifs:List QV}{scope:Y0}{pos:Pos}{wi:TI}{g:TG}{tc:TT}{te:TE}{i:Nat}{y:Str}{py spos:Pos}(hN:X.N.Nodup)(hiy:X.N[i]? = some y)(hly:X.env.scope.names.lookup y=some .local)(hc:X.calm=true)(ok:Qfc X.N X.env.scope M scope cap=true)
  (hi:PI X tg iter wi)(hb:∀cl ex s3 H3 C,PG (blk X M scope cl ex s3 H3 C) tg g/\PTs (blk X M scope cl ex s3 H3 C) ifs tc/\PE (blk X M scope cl ex s3 H3 C) elt te)
  (hs:∀x,foldedSetIterable iter X.env x=pure x:=by intro _;rfl)(hsw:swapsWith (.SetComp elt [⟨tg,iter,ifs,0⟩] scope pos) (some (.Name y py)) spos.line X.env=pure true:=by rfl):PS X (.Assign [.Name y py] (.SetComp elt [⟨tg,iter,ifs,0⟩] scope pos) spos) (QoH (Qwn X.w cap wi g tc te) (QdY i)):=by
 intro pins s σ H D I h;have c:=CapOk.of ok;rw[QdS _ _ _ _ hsw];refine wpAny_bind (wpAny_standAt (wpAny_bind ?_));show wpAny _ X.A (do let _ <- comprehension (.SetComp elt [⟨tg,iter,ifs,0⟩] scope pos) scope X.env _ (newSet (.type "set")) false (eval iter X.env) (some (assign (.Name y py) X.env))) _ _ s;refine wpAny_bind (wpAny_mono (Qal (use:=some (assign (.Name y py) X.env)) (Q:=λ_ s'=>SP X pins D .next s') rfl hs (Qgw (I.ok.cells c)) c.kind c.loc ?_) (λ_ s' hq=>wpAny_pure (wpAny_pure hq)) λ_ _ e=>e);refine thn (hi pins s σ H _ I h) λv s1 h1=>thn h1 λitv s2 h2=>?_
 obtain⟨it,fp,tn,J,H2,e,I2,T,st2,f2,hW⟩:=h2;subst e;refine QuL (Qbe c.cell (by intro y hy;simp at hy) (λh₁ hns₁ hsb₁=>?_) c.kind);have I3:Inv X pins σ (upd H2 s2.heap.objs.size (.ext (smX s2.heap.objs.size 0 (ledOf X.w)))) { s2 with heap:=s2.heap.push { cls:=.type "set",dict:=none,data:=.set #[] 0 (.fresh 0 0 (ledOf X.w)) } }:=Qtk I2;have lt2:∀b∈fp,b<s2.heap.objs.size:=λb hb=>by obtain⟨o,e,_⟩:=T.obj _ _ st2 b hb;exact Qk e
 have f3:∀b∈fp,FpOk X pins (upd H2 s2.heap.objs.size (.ext (smX s2.heap.objs.size 0 (ledOf X.w)))) b:=λb hb=>(f2 b hb).upd (QD (lt2 b hb))
 generalize hs3:({ s2 with heap:=s2.heap.push { cls:=.type "set",dict:=none,data:=.set #[] 0 (.fresh 0 0 (ledOf X.w)) } }:Shared)=s3 at I3;have e3:s3.heap=s2.heap.push { cls:=.type "set",dict:=none,data:=.set #[] 0 (.fresh 0 0 (ledOf X.w)) }:=by rw[<- hs3]
 have z3:s3.heap.objs.size=s2.heap.objs.size+1:=by rw[e3,Zm]
 have hk:∀b o,s3.heap.get? b=some o->h₁.get? b=some o:=λb o e=>hsb₁.extBut b o (by
  have:=Qk e;rw[e3] at this;exact QD this) (Qe _ (e3 ▸ e))
 have hn₁:h₁.Ns s3.heap.objs.size λ_=>none:=by rw[e3];exact hns₁
 have B:=Qc6 (t4:=s3.toks+([]:List (Str×Value)).length) (fp:=fp) I3 c f3 (λb hb=>by rw[z3];exact YI (lt2 b hb)) hn₁ hk;have st4:tn 0 h₁:=T.keep _ _ _ st2 λb hb o e=>hk b o (by rw[e3];exact Qe _ e)
 have fp4:∀b∈fp,FpOk (blk X M scope (Qbn X.env scope.names []) fp s3 (upd H2 s2.heap.objs.size (.ext (smX s2.heap.objs.size 0 (ledOf X.w)))) s3.heap.objs.size) [] (upd H2 s2.heap.objs.size (.ext (smX s2.heap.objs.size 0 (ledOf X.w)))) b:=λb hb=>by
  refine⟨(f3 b hb).1,(B.ok.exf b hb).1,B.ok.exfs b hb,.inl hb,(B.ok.exf b hb).2,λp hp=>(nomatch hp)⟩
 obtain⟨hg,ht,he⟩:=hb (Qbn X.env scope.names []) fp s3 (upd H2 s2.heap.objs.size (.ext (smX s2.heap.objs.size 0 (ledOf X.w)))) s3.heap.objs.size;have loop:codeAny (model X.prog X.w) X.A (.compLoop (.SetComp elt [⟨tg,iter,ifs,0⟩] scope pos) 0 (.ref it) (.ref s2.heap.objs.size) (compEnvC scope (Qbn X.env scope.names []) s3.heap.objs.size X.env))
   (compPost (model X.prog X.w) X.A X.xe (some (assign (.Name y py) X.env)) (λ_ s'=>SP X pins D .next s') (.ref s2.heap.objs.size) s3.heap.objs.size) { s3 with heap:=h₁,toks:=s3.toks+([]:List (Str×Value)).length }:=by
  refine Qkf (Y:=blk X M scope (Qbn X.env scope.names []) fp s3 (upd H2 s2.heap.objs.size (.ext (smX s2.heap.objs.size 0 (ledOf X.w)))) s3.heap.objs.size) (gens:=[⟨tg,iter,ifs,0⟩]) (d:=0) hc T st4 fp4
   (λQ E s h=>QlE Q E s h) (λx u r=>QeS rfl hg ht (λσ4=>QnN rfl he) x u r) B (hW _ (I2.hok.fresh (Qg _))) λs' H' I' q=>?_
  exact QaZ (Q:=λ_ s'=>SP X pins D .next s') I3 f3 I' hN hiy hly λs2' J2=>⟨_,H',J2,q⟩
 exact QbN loop (T.self _ 0 _ _ _ st4 loop)
end L2
namespace L2
section
variable{κ:Type}[DecidableEq κ]
end
section
variable{P:QF}{w:Jk}{H:Hp}{h:Heap}{a:Addr}
end
section
variable{X:Cx}{pins:List (Addr×Obj)}{σ:St}{H:Hp}{s:Shared}{a:Addr}{y v:V}{u r:Value}{o:Option V}{A:Q9}{E:Value->Shared->Prop}
end
section
variable{X:Cx}{pins:List (Addr×Obj)}{σ:St}{H:Hp}{s:Shared}{a:Addr}{kvs:List (Key×V)}{k:Key}{u:Value}{A:Q9}{E:Value->Shared->Prop}
end
section
variable{X:Cx}{o i e value:QV}{pos pos' tpos:Pos}{td ty tv:TE}
end
section
variable{X:Cx}{pos:Pos}
end
section
variable{X:Cx}{pins:List (Addr×Obj)}{σ:St}{H:Hp}{s:Shared}{a:Addr}{y d:V}{u r:Value}{o:Option V}{A:Q9}{E:Value->Shared->Prop}
end
section
variable{X:Cx}{o e f:QV}{apos cpos:Pos}{td ty tx:TE}
end
section
variable{X:Cx}{pins:List (Addr×Obj)}{σ:St}{H:Hp}{s:Shared}{a:Addr}{kvs:List (Key×V)}{A:Q9}{E:Value->Shared->Prop}
end
section
variable{X:Cx}{pins:List (Addr×Obj)}{σ:St}{H:Hp}{s:Shared}{a:Addr}{y:V}{u:Value}{A:Q9}{E:Value->Shared->Prop}
end
section
variable{X:Cx}{pins:List (Addr×Obj)}{σ:St}{l it S fa:Addr}{xs:List V}{kw:List (Str×Value)}{val:Nat->Int}{H0:Hp}{R:Qj5->Shared->Prop}
def bstI(val:Nat->Int)(j:Nat):Nat:=argBest (λa b=>decide (val a<val b)) j
def Qap(S:Addr)(H0 H:Hp):Prop:=∀b o,b≠S->H0 b=some o->H b=some o
def QgG(X:Cx)(σ:St)(S fa:Addr)(xs:List V)(val:Nat->Int)(H0:Hp):Prop:=
 ∀(i:Nat)(x:V)(u:Value)(pins':List (Addr×Obj))(s:Shared)(H:Hp)(E:Value->Shared->Prop),xs[i]? = some x->RelV x u->Inv X pins' σ H s->Qap S H0 H ->
  wpAny (model X.prog X.w) X.A.in1 (call (.ref fa) [u]) (λr s'=>∃t H',r=.int (val i) t/\Inv X pins' σ H' s'/\Same H H') E s
theorem Qij{s:Shared}{H:Hp}{ys zs:List V}{vs:List Value}(I:Inv X pins σ H s)(e:H S=some (.lst ys))(r:Vals zs vs)(hz:zs.length<=sizeLine):Inv X pins σ (upd H S (.lst zs)) { s with heap:=s.heap.update S (Zv λ_=>vs.toArray) }:=by
 obtain⟨_,its,n,rv,ln,ho⟩:=I.lstM e;refine I.write (t':=s.toks) (x:=S) (e:=S) (by rw[e];exact Qbt) (.inl rfl) (λb u hb z=>(Zj _ _ (QaQ hb)).trans z) ⟨_,JU _ ho rfl⟩ ⟨hz,vs,_,r,JU _ ho rfl⟩
theorem Qhp(hl:H0 l=some (.lst xs))(hlS:l≠S)(hkey:QgG X σ S fa xs val H0)(hc:X.calm=true)
  (hR:∀u s' H' x,xs[bstI val (xs.length - 1)]? = some x->RelV x u->Inv X pins σ H' s'->Qap S H0 H'->R (.ok (.ret u)) s') :
  ∀(k j:Nat)(s:Shared)(H:Hp)(x:V),xs.length - (j+1)=k->j+1<=xs.length->Inv X pins σ H s->FpOk X pins H it->s.heap.IsListIter it l (j+1)->Qap S H0 H->H S=some (.lst [x,.int (val (bstI val j))])->xs[bstI val j]? = some x ->
  codeAny (model X.prog X.w) X.A (.builtin "min.loop" ⟨[.ref it,.ref fa,.ref S],kw⟩) R s:=by
 have hname:(toString "min" ++ toString ".loop" : String) = "min.loop" := by decide
 intro k;induction k with
 |zero=>
  intro j s H x hk hj I hf st kp eS hx;have hin:j+1=xs.length:=by omega
  obtain⟨_,its,n,rv,ln,ho⟩:=I.lstM eS;obtain⟨u,w',e2,r1,r2⟩:∃u w',its=[u,w']/\RelV x u/\RelV (.int (val (bstI val j))) w':=by
   match its,rv with
   |[u,w'],.cons a (.cons b .nil)=>exact⟨u,w',rfl,a,b⟩
  subst e2;obtain⟨hz,its,n2,rl,ll,hol⟩:=I.lstM (kp _ _ hlS hl);obtain⟨f0,f1,f2,f3,f4,f5⟩:=hf;refine YU QcJ ?_
  rw[Zy ZZ _];show wpAny _ X.A.in1 (seqItems? (.ref S) >>= _) _ _ s;refine wpAny_bind (Ze ho rfl ?_);show wpAny _ X.A.in1 (tryCatch (pyNext (.ref it)) _ >>= _) _ _ s;refine wpAny_bind (Qad (QdQ (I.ok.hd hc) st ⟨_,hol,rfl,_,rfl⟩ (by simp;omega) λh' eb=>?_));have I1:Inv X pins σ H { s with heap:=h' }:=I.turned (t':=s.toks) (λb o hb e=>eb b o hb e) f0 f1 f3 f4 f5;have ho1:h'.get? S=_:=eb S _ (λz=>by rw[z,f0] at eS;cases eS) ho;show wpAny _ X.A.in1 (updateSeq S (λ_=>#[]) >>= _) _ _ _;refine wpAny_bind ?_
  refine Qbo ho1 rfl (wpAny_bind (Qbp (wpAny_pure ?_)));refine hR u _ _ x (by rw[<- hin];exact hx) r1 (Qij (vs:=[]) (zs:=[]) I1 eS .nil (Jc _)) λb o hb e=>?_
  rw[JM hb];exact kp b o hb e
 |succ k ih=>
  intro j s H x hk hj I hf st kp eS hx;have hlt:j+1<xs.length:=by omega
  obtain⟨_,its,n,rv,ln,ho⟩:=I.lstM eS;obtain⟨u,w',e2,r1,r2⟩:∃u w',its=[u,w']/\RelV x u/\RelV (.int (val (bstI val j))) w':=by
   match its,rv with
   |[u,w'],.cons a (.cons b .nil)=>exact⟨u,w',rfl,a,b⟩
  subst e2;obtain⟨tw,rfl⟩:=r2;obtain⟨hz,its,n2,rl,ll,hol⟩:=I.lstM (kp _ _ hlS hl);obtain⟨v,hv,rv2⟩:=rl.get (i:=j+1) (x:=xs[j+1]) (Qf hlt);obtain⟨f0,f1,f2,f3,f4,f5⟩:=id hf;have nS:S≠it:=λz=>by rw[z,f0] at eS;cases eS
  refine YU QcJ ?_
  rw[Zy ZZ _];show wpAny _ X.A.in1 (seqItems? (.ref S) >>= _) _ _ s;refine wpAny_bind (Ze ho rfl ?_);show wpAny _ X.A.in1 (tryCatch (pyNext (.ref it)) _ >>= _) _ _ s;refine wpAny_bind (Qad (Qc9 st ⟨_,hol,rfl,_,rfl⟩ (x:=v) (by simpa using hv) λh' st' sb=>?_));have I1:Inv X pins σ H { s with heap:=h' }:=I.turned (t':=s.toks) (λb o hb e=>(sb.2 b hb).trans e) f0 f1 f3 f4 f5;have pn:∀b∈[it],∃o,h'.get? b=some o/\∀v,o.data≠.cell v:=λb hb=>by
   have e:b=it:=by simpa using hb
   subst e;obtain⟨o,e,c,d⟩:=st';exact⟨o,e,λv z=>by rw[d] at z;cases z⟩
  have hfA:∀b∈[it],FpOk X pins H b:=λb hb=>by
   have e:b=it:=by simpa using hb
   rw[e];exact hf
  have I1p:=I1.pinned (fp:=[it]) hfA pn;show wpAny _ X.A.in1 (tryCatch (holding [v] (call (.ref fa) [v])) _ >>= _) _ _ _;refine wpAny_bind (Qad (JT (wpAny_mono (hkey (j+1) _ v _ _ H _ (Qf hlt) rv2 I1p kp) (λr s2 ⟨t,H2,er,I2p,s12⟩=>?_) λ_ _ e=>e)));subst er;have I2:=I2p.unpinned;have it2:s2.heap.IsListIter it l (j+1+1):=st'.at λo e=>(I2p.pin (it,o) (QB _ (QB _ (Ye (Qx.mpr rfl) e)))).1
  have f02:H2 it=none:=by
   obtain⟨o,e,_⟩:=id st';exact(I2p.pin (it,o) (QB _ (QB _ (Ye (Qx.mpr rfl) e)))).2.1
  have hf2:FpOk X pins H2 it:=⟨f02,f1,f2,f3,f4,f5⟩;have kp2:Qap S H0 H2:=λb o hb e=>s12 _ _ (kp b o hb e)
  have eS2:=s12 _ _ eS;obtain⟨_,its2,n3,rv3,ln3,ho2⟩:=I2.lstM eS2;show wpAny _ X.A.in1 (tryCatch (holding [v,.int (val (j+1)) t] (richCompare .Lt (.int (val (j+1)) t) (.int (val (bstI val j)) tw) >>= _)) _ >>= _) _ _ _;refine wpAny_bind (Qad (JT (wpAny_bind (HT.Qjd _ _ _ _ _ _ _ _ _ _ ?_))));refine wpAny_bind (JT (Zp ?_));refine wpAny_bind (Qbp (wpAny_pure ?_));have eb:bstI val (j+1)=if decide (val (j+1)<val (bstI val j))=true then j+1 else bstI val j:=rfl
  cases hb:decide (val (j+1)<val (bstI val j)) with
  |true=>
   rw[hb,if_pos rfl] at eb;simp only[if_true];refine wpAny_bind ?_
   refine Qbo ho2 rfl (wpAny_bind (Qbp ?_));rw[hname];have I3:=Qij (vs:=[v,.int (val (j+1)) t]) (zs:=[xs[j+1],.int (val (j+1))]) I2 eS2 (.cons rv2 (.cons ⟨t,rfl⟩ .nil)) (by show 2<=sizeLine;decide);refine wpAny_pure ⟨Qav ZZ _,ih (j+1) _ _ xs[j+1] (by omega) hlt I3 ⟨by rw[JM (QaQ nS)];exact f02,f1,f2,f3,f4,f5⟩ (it2.at λo e=>(Zj _ _ nS).trans e) (λb o hb e=>by rw[JM hb];exact kp2 b o hb e) (by rw[eb];exact Jy) (by rw[eb];exact Qf hlt)⟩
  |false=>
   rw[hb,if_neg Qm] at eb;simp only[Zu,if_false];refine wpAny_bind (Qbp ?_);rw[hname];exact wpAny_pure ⟨Qav ZZ _,ih (j+1) _ _ x (by omega) hlt I2 hf2 it2 kp2 (by rw[eb];exact eS2) (by rw[eb];exact hx)⟩
theorem Qgj(hl:H0 l=some (.lst xs))(hlS:l≠S)(hkey:QgG X σ S fa xs val H0)(hc:X.calm=true)(hn:0<xs.length)
  (hR:∀u s' H' x,xs[bstI val (xs.length - 1)]? = some x->RelV x u->Inv X pins σ H' s'->Qap S H0 H'->R (.ok (.ret u)) s'){s:Shared}{H:Hp}(I:Inv X pins σ H s)(hf:FpOk X pins H it)(st:s.heap.IsListIter it l 0)(kp:Qap S H0 H)(eS:H S=some (.lst [])) :
  codeAny (model X.prog X.w) X.A (.builtin "min.loop" ⟨[.ref it,.ref fa,.ref S],kw⟩) R s:=by
 have hname:(toString "min" ++ toString ".loop" : String) = "min.loop" := by decide
 obtain⟨_,its,n,rv,ln,ho⟩:=I.lstM eS;cases rv;obtain⟨hz,its,n2,rl,ll,hol⟩:=I.lstM (kp _ _ hlS hl);obtain⟨v,hv,rv2⟩:=rl.get (i:=0) (x:=xs[0]) (Qf hn);obtain⟨f0,f1,f2,f3,f4,f5⟩:=id hf;have nS:S≠it:=λz=>by rw[z,f0] at eS;cases eS
 refine YU QcJ ?_
 rw[Zy ZZ _];show wpAny _ X.A.in1 (seqItems? (.ref S) >>= _) _ _ s;refine wpAny_bind (Ze ho rfl ?_);show wpAny _ X.A.in1 (tryCatch (pyNext (.ref it)) _ >>= _) _ _ s;refine wpAny_bind (Qad (Qc9 st ⟨_,hol,rfl,_,rfl⟩ (x:=v) (by simpa using hv) λh' st' sb=>?_));have I1:Inv X pins σ H { s with heap:=h' }:=I.turned (t':=s.toks) (λb o hb e=>(sb.2 b hb).trans e) f0 f1 f3 f4 f5;have pn:∀b∈[it],∃o,h'.get? b=some o/\∀v,o.data≠.cell v:=λb hb=>by
  have e:b=it:=by simpa using hb
  subst e;obtain⟨o,e,c,d⟩:=st';exact⟨o,e,λv z=>by rw[d] at z;cases z⟩
 have hfA:∀b∈[it],FpOk X pins H b:=λb hb=>by
  have e:b=it:=by simpa using hb
  rw[e];exact hf
 have I1p:=I1.pinned (fp:=[it]) hfA pn;show wpAny _ X.A.in1 (tryCatch (holding [v] (call (.ref fa) [v])) _ >>= _) _ _ _;refine wpAny_bind (Qad (JT (wpAny_mono (hkey 0 _ v _ _ H _ (Qf hn) rv2 I1p kp) (λr s2 ⟨t,H2,er,I2p,s12⟩=>?_) λ_ _ e=>e)));subst er;have I2:=I2p.unpinned;have it2:s2.heap.IsListIter it l (0+1):=st'.at λo e=>(I2p.pin (it,o) (QB _ (QB _ (Ye (Qx.mpr rfl) e)))).1
 have f02:H2 it=none:=by
  obtain⟨o,e,_⟩:=id st';exact(I2p.pin (it,o) (QB _ (QB _ (Ye (Qx.mpr rfl) e)))).2.1
 have eS2:=s12 _ _ eS;obtain⟨_,its2,n3,rv3,ln3,ho2⟩:=I2.lstM eS2;show wpAny _ X.A.in1 (updateSeq S (λ_=>#[v,.int (val 0) t]) >>= _) _ _ _;refine wpAny_bind ?_
 refine Qbo ho2 rfl ?_
 rw[hname];have I3:=Qij (vs:=[v,.int (val 0) t]) (zs:=[xs[0],.int (val 0)]) I2 eS2 (.cons rv2 (.cons ⟨t,rfl⟩ .nil)) (by show 2<=sizeLine;decide);exact wpAny_pure ⟨Qav ZZ _,Qhp hl hlS hkey hc hR _ 0 _ _ xs[0] rfl hn I3 ⟨by rw[JM (QaQ nS)];exact f02,f1,f2,f3,f4,f5⟩ (it2.at λo e=>(Zj _ _ nS).trans e) (λb o hb e=>by rw[JM hb];exact s12 _ _ (kp b o hb e)) Jy (Qf hn)⟩
theorem Qho(hl:H0 l=some (.lst []))(hlS:l≠S)(hc:X.calm=true){d:Value}{kn:Str}{s:Shared}{H:Hp}(I:Inv X pins σ H s)(hf:FpOk X pins H it)(st:s.heap.IsListIter it l 0)(kp:Qap S H0 H)(eS:H S=some (.lst []))(hR:∀s',Inv X pins σ H s'->R (.ok (.ret d)) s') :
  codeAny (model X.prog X.w) X.A (.builtin "min.loop" ⟨[.ref it,.ref fa,.ref S],[(kn,d)]⟩) R s:=by
 obtain⟨_,its,n,rv,ln,ho⟩:=I.lstM eS;cases rv;obtain⟨hz,its,n2,rl,ll,hol⟩:=I.lstM (kp _ _ hlS hl);cases rl;obtain⟨f0,f1,f2,f3,f4,f5⟩:=id hf;refine YU QcJ ?_
 rw[Zy ZZ _];show wpAny _ X.A.in1 (seqItems? (.ref S) >>= _) _ _ s;refine wpAny_bind (Ze ho rfl ?_);show wpAny _ X.A.in1 (tryCatch (pyNext (.ref it)) _ >>= _) _ _ s;refine wpAny_bind (Qad (QdQ (I.ok.hd hc) st ⟨_,hol,rfl,_,rfl⟩ (by simp) λh' eb=>?_));have I1:Inv X pins σ H { s with heap:=h' }:=I.turned (t':=s.toks) (λb o hb e=>eb b o hb e) f0 f1 f3 f4 f5;show wpAny _ X.A.in1 (rule _ >>= _) _ _ _;exact wpAny_bind (wpAny_rule (wpAny_pure (hR _ I1)))
end
section
variable{prog:QF}{w:Jk}{A:Q9}{E:Value->Shared->Prop}{s:Shared}
theorem QhF{id:String}{b:YV}{args:List Value}{kw:List (Str×Value)}{Q:Value->Shared->Prop}(hk:builtinKind id=none)(hp:plainId id=true)
  (hb:entryFor table id=some b)(ha:argsOk id ⟨args,kw⟩)
  (hc:wpAny (model prog w) A.in1 (b ⟨args,kw⟩) (λfin s'=>match fin with
   |.done f=>(match (Except.ok f:Qj5) with | .ok (.ret v)=>Q v s' | .ok _=>False | .error e=>E e s')
   |.again c'=>c'.quiet=true/\codeAny (model prog w) A c' (λr s'=>match r with | .ok (.ret v)=>Q v s' | .ok _=>False | .error e=>E e s') s') E s) :
  wpAny (model prog w) A (call (.builtin id) args kw) Q E s:=by
 refine Qy6 (codeAny_call_builtin hp hb ?_);simp only[checkBuiltinCall,hk];cases hsig:Manifest.signature? id with
 |none=>exact wpAny_pure hc
 |some sig=>
  have ha':Bind.checkArgs id sig ⟨args,kw⟩=pure ():=by simpa only[argsOk,hsig] using ha
  simp only[ha'];exact wpAny_pure hc
end
theorem QkW(a f:Value):argsOk "min" ⟨[a],[("key",f)]⟩:=by unfold argsOk;kernel_rfl
theorem QiM(a f d:Value):argsOk "min" ⟨[a],[("key",f),("default",d)]⟩:=by unfold argsOk;kernel_rfl
section
variable{X:Cx}{pins:List (Addr×Obj)}{σ:St}{l fa:Addr}{xs:List V}{val:Nat->Int}
theorem QhI{dv:Option (V×Value)}{H:Hp}{s:Shared}{Q:VK}{E:Value->Shared->Prop}(hc:X.calm=true)(I:Inv X pins σ H s)(hl:H l=some (.lst xs))(hd:∀p,dv=some p->RelV p.1 p.2)(hkey:∀S,H S=none->QgG X σ S fa xs val H)
  (h0:xs=[]->∃p,dv=some p/\∀H',Same H H'->Q p.1 H')(h1:∀x,xs[bstI val (xs.length - 1)]? = some x->∀H',Same H H'->Q x H') :
  wpAny (model X.prog X.w) X.A (call (.builtin "min") [.ref l] (("key",.ref fa)::dv.toList.map λp=>("default",p.2))) (EP X pins σ Q) E s:=by
 have hname:(toString "min" ++ toString ".loop" : String) = "min.loop" := by decide
 refine QhF F.kind_min F.plain_min F.entry_min (by cases dv with | none=>exact QkW _ _ | some p=>exact QiM _ _ _) ?_
 show wpAny _ X.A.in1 (QcL "min" ["key", "default"] 0 ⟨[],("key",.ref fa)::dv.toList.map λp=>("default",p.2)⟩ >>= _) _ _ s;refine wpAny_bind (ZH (show QcL "min" ["key", "default"] 0 ⟨[],("key",.ref fa)::dv.toList.map λp=>("default",p.2)⟩=pure [some (.ref fa),dv.map (·.2)] by cases dv<;>rfl) ?_);refine wpAny_bind (wpAny_pure ?_);obtain⟨hz,its,n,rl,ll,hol⟩:=I.lstM hl;refine wpAny_bind (QgU (l:=l) ⟨_,hol,rfl,_,rfl⟩ ?_);have I1:Inv X pins σ H { s with heap:=s.heap.push { cls:=.type "list_iterator",data:=.fields #[.ref l,.int 0 0] } }:=I.kept (t':=s.toks) λb o e=>Qe _ e
 have hf:FpOk X pins H s.heap.objs.size:=I.fpOk (Qg _) (I.hok.fresh (Qg _));generalize hs1:({ s with heap:=s.heap.push { cls:=.type "list_iterator",data:=.fields #[.ref l,.int 0 0] } }:Shared)=s1 at I1;have st1:s1.heap.IsListIter s.heap.objs.size l 0:=by rw[<- hs1];exact⟨_,Qr _ rfl,rfl,rfl⟩
 have z1:s1.heap.objs.size=s.heap.objs.size+1:=by rw[<- hs1];exact Zm ..
 refine wpAny_bind (Jx ?_);have I2:=I1.lnew (t':=s1.toks) (ys:=[]) (its:=[]) .nil (Jc _);have fS:H s1.heap.objs.size=none:=I1.hok.fresh (Qg _);have nl:l≠s1.heap.objs.size:=λz=>by rw[z,fS] at hl;cases hl
 have nit:s.heap.objs.size≠s1.heap.objs.size:=by rw[z1];exact QD (Nat.lt_succ_self _)
 have kp:Qap s1.heap.objs.size H (upd H s1.heap.objs.size (.lst [])):=λb o hb e=>by rw[JM hb];exact e
 obtain⟨f0,f1,f2,f3,f4,f5⟩:=hf;have hf2:FpOk X pins (upd H s1.heap.objs.size (.lst [])) s.heap.objs.size:=⟨by rw[JM nit];exact f0,f1,f2,f3,f4,f5⟩;have st2:(s1.heap.push { cls:=.type "list",data:=.seq ([]:List Value).toArray }).IsListIter s.heap.objs.size l 0:=st1.at λo e=>Qe _ e
 have sm:∀{H':Hp},Qap s1.heap.objs.size H H'->Same H H':=λk b o e=>k b o (λz=>by rw[z,fS] at e;cases e) e
 rw[hname];refine wpAny_pure ⟨Qav ZZ _,?_⟩;cases xs with
 |nil=>
  obtain⟨p,ep,hq⟩:=h0 rfl;subst ep;exact Qho (R:=λr s'=>match r with | .ok (.ret v)=>EP X pins σ Q v s' | .ok _=>False | .error e=>E e s') hl nl hc I2 hf2 st2 kp Jy λs' I'=>⟨p.1,_,I',hd p rfl,hq _ (sm kp)⟩
 |cons x0 xr=>
  exact Qgj (R:=λr s'=>match r with | .ok (.ret v)=>EP X pins σ Q v s' | .ok _=>False | .error e=>E e s') hl nl (hkey _ fS) hc (by show 0<xr.length+1;omega) (λu s' H' x hx r I' k=>⟨x,H',I',r,h1 x hx H' (sm k)⟩) I2 hf2 st2 kp Jy
end
end L2
namespace L2
open PySem.Calls _root_.Rd _root_.Rk
section
variable{X:Cx}{k:Nat}{fa:Addr}{fd:QM}{pn:Str}{sp:Sp}{E0:XK}
theorem Qp7{σ:St}{S:Addr}{xs:List V}{val:Nat->Int}{H0:Hp}(F:FnOk X.prog X.w X.K X.mg X.base CX0 k fa fd [pn] sp)(hr:Room (k+1) X.A)(hb:Binds X.K fd [pn] [])
  (h:∀(i:Nat)(x:V),xs[i]? = some x->∀H,Qap S H0 H->sp [x] H (λv H'=>v=.int (val i)/\Same H H') E0):QgG X σ S fa xs val H0:=by
 intro i x u pins' s H E hx rx I kb;refine Qy6 (QdT (F.run X.A.in1 X.stack s H ⟨[u],[]⟩ [u] [x] _ E0 hr.in1 I.env0.in1 (hb s [u] I.kIn rfl) (.cons rx .nil) (h i x hx H kb)) λr s' hq=>?_);cases r with
 |error e=>exact Zr hq
 |ok fl=>
  cases fl with
  |ret u'=>
   obtain⟨v,H',I',rv,rfl,sm⟩:=I.after hq;obtain⟨t,rfl⟩:∃t,u'=.int (val i) t:=by
    first
    |exact rv
    |(cases rv;exact⟨_,rfl⟩)
   exact⟨t,H',rfl,I',sm⟩
  |next=>exact Zr hq
  |brk=>exact Zr hq
  |cont=>exact Zr hq
def QzI(sp:Sp)(E0:XK)(t:TE):TE:=λσ H Q=>t σ H λv H1=>∃(l:Addr)(xs:List V)(val:Nat->Int),v=.ref l/\H1 l=some (.lst xs)/\xs≠[] /\
 (∀(S:Addr)(i:Nat)(x:V),H1 S=none->xs[i]? = some x->∀H,Qap S H1 H->sp [x] H (λv H'=>v=.int (val i)/\Same H H') E0)/\∀x,xs[bstI val (xs.length - 1)]? = some x->∀H',Same H1 H'->Q x H'
theorem QtR{e:QV}{t:TE}{y:Str}{p fp kp pos:Pos}(F:FnOk X.prog X.w X.K X.mg X.base CX0 k fa fd [pn] sp)(hr:Room (k+1) X.A)(hg:Gl X "min")(hm:X.mg "min" = none)(hgf:Gl X y)(hmf:X.mg y=some (.ref fa))(hb:Binds X.K fd [pn] [])(hc:X.calm=true)(h:PE X e t)
  (hdb:(y == ("__debug__" : Str))=false:=by decide)(he:starEach [e] X.env=(false,eval e X.env)::starEach [] X.env:=by rfl):PE X (.Call (.Name "min" p) [e] [⟨some "key",.Name y fp,kp⟩] pos) (QzI sp E0 t):=by
 intro pins s σ H Q I hh;refine Qau (QbJ I hg hm (by rfl) ?_ (by decide) (by decide));have hh:Qe5 t Qtd σ H (λvs H1=>match vs with
   |[v]=>∃(l:Addr)(xs:List V)(val:Nat->Int),v=.ref l/\H1 l=some (.lst xs)/\xs≠[]/\(∀(S:Addr)(i:Nat)(x:V),H1 S=none->xs[i]? = some x->∀H,Qap S H1 H->sp [x] H (λv H'=>v=.int (val i)/\Same H H') E0)/\∀x,xs[bstI val (xs.length - 1)]? = some x->∀H',Same H1 H'->Q x H'
   |_=>False):=hh
 refine PyProof.Rows.callWith_kw (thn ((QbG h ZN he) pos pins s σ H _ I hh) λus s1 ⟨vs,H1,I1,r1,q1⟩=>?_) ?_ ?_ ?_ ?_
 ·dsimp only at q1
  split at q1
  ·obtain⟨l,xs,val,rfl,hl,hne,hk,hQ⟩:=q1;obtain⟨u,rfl,ru⟩:=vals1 r1;cases ru;refine kws_cons (Qm2 I1 hgf hmf (kws_nil ?_) hdb);show wpAny (model X.prog X.w) X.A (call (.builtin "min") [.ref l] [("key",.ref fa)]) _ _ s1;exact QhI (dv:=none) hc I1 hl (λp hp=>nomatch hp) (λS hS=>Qp7 F hr hb λi x hx H2 kb=>hk S i x hS hx H2 kb) (λe=>absurd e hne) λx hx H' sm=>hQ x hx H' sm
  ·exact q1.elim
 ·rw[he];rfl
 ·rw[he];rfl
 ·rfl
 ·rfl
end
end L2
namespace Dl
open L2 _root_.Rd Rk
section
variable{X:Cx}{E:XK}
theorem Qiy{A:Addr->Prop}{H:Hp}:∀{xs:List V}{ds:List Qa},DAs A H xs ds->∀(i:Nat)(x:V),xs[i]? = some x->∃d,ds[i]? = some d/\DA A H x d
 |_,_,.nil,i,x,h=>nomatch h
 |_,_,.cons a b,0,x,h=>by cases h;exact⟨_,rfl,a⟩
 |_,_,.cons a b,i+1,x,h=>Qiy b i x h
theorem QjV{A:Addr->Prop}{H:Hp}:∀{xs:List V}{ds:List Qa},DAs A H xs ds->xs.length=ds.length
 |_,_,.nil=>rfl
 |_,_,.cons _ b=>by rw[QQ,QQ,QjV b]
@[irreducible] def QmU(fD:DF):Qa->(Qa->Prop)->Prop
 |.list ds,Q=>∃val:Nat->Int,ds≠[]/\(∀(i:Nat) d,ds[i]? = some d->fD [.v d] (λr=>r=.int (val i)) XF)/\∀d,ds[bstI val (ds.length - 1)]? = some d->Q d
 |_,_=>False
theorem QuQ{fD:DF}{ds:List Qa}{Q:Qa->Prop}(val:Nat->Int)(h0:ds≠[])(h1:∀(i:Nat) d,ds[i]? = some d->fD [.v d] (λr=>r=.int (val i)) XF)(h:∀d,ds[bstI val (ds.length - 1)]? = some d->Q d):QmU fD (.list ds) Q:=by
 unfold QmU;exact⟨val,h0,h1,h⟩
def Qyj(fD:DF)(w:DE):DE:=λδ Q EX=>w δ (λd=>QmU fD d Q) EX
theorem Qud{k:Nat}{fa:Addr}{fd:QM}{pn y:Str}{fr:Bool}{fD:DF}{e:QV}{w:DE}{p fp kp pos:Pos}(G:FnOk X.prog X.w X.K X.mg X.base CX0 k fa fd [pn] (JH fr fD))(hr:Room (k+1) X.A)(hg:Gl X "min")(hm:X.mg "min" = none)(hgf:Gl X y)(hmf:X.mg y=some (.ref fa))(hb:Binds X.K fd [pn] [])(hc:X.calm=true)
  (h:PE X e (tX .P X.K E w))(hdb:(y == ("__debug__" : Str))=false:=by decide)(hs:notStar e=true:=by rfl):PE X (.Call (.Name "min" p) [e] [⟨some "key",.Name y fp,kp⟩] pos) (tX .D X.K E (Qyj fD w)):=by
 refine PE.imp (QtR (E0:=λ_ _ _=>False) G hr hg hm hgf hmf hb hc h hdb (ZD hs)) λσ H Q ⟨F,δ,R,EX,rel,hw,k,o⟩=>?_
 refine⟨F,δ,_,EX,rel,hw,λd hd v H1 rel1 kp1 vk=>?_,o⟩;have hd:QmU fD d _:=hd;unfold QmU at hd;split at hd
 ·rename_i ds
  obtain⟨val,hne,hf,hQ⟩:=hd;obtain⟨l,xs,rfl,e,q⟩:=DP.list vk;have ln:=QjV q;refine⟨l,xs,val,rfl,e,λz=>hne (by rw[z] at ln;exact List.eq_nil_of_length_eq_zero ln.symm),λS i x hS hx H2 kb=>?_,λx hx H' sm=>?_⟩
  ·obtain⟨d,hd,da⟩:=Qiy q i x hx;refine⟨Av F σ δ,λ_=>False,[.v d],_,XF,λa ha=>?_,λp hp=>hp.elim,.cons ?_ .nil,hf i d hd,λd' e' v H' kq da' _=>?_,λC hC=>hC.elim⟩
   ·obtain⟨ys,hy⟩:=rel1.isl ha;exact⟨ys,kb a _ (λz=>by rw[z,hS] at hy;cases hy) hy⟩
   ·exact da.mv (λa o na ha=>kb a o (λz=>by rw[z,hS] at ha;cases ha) ha) λa ha=>.inl ha
   ·subst e';cases da';exact⟨rfl,λb o hb=>kq.1 b o (λz=>z) hb⟩
  ·rw[ln] at hx;obtain⟨d,hd,da⟩:=Qiy q _ x hx;exact k d (hQ d hd) x H' (rel1.same sm) (kp1.trans (Kp.same rel1 sm)) (da.same sm)
 ·exact hd.elim
theorem QwS{k:Nat}{fa:Addr}{fd:QM}{pn y:Str}{fr:Bool}{fD:DF}{e:QV}{w:DE}{p fp kp pos:Pos}(G:FnOk X.prog X.w X.K X.mg X.base CX0 k fa fd [pn] (JH fr fD))(hr:Room (k+1) X.A)(hg:Gl X "min")(hm:X.mg "min" = none)(hgf:Gl X y)(hmf:X.mg y=some (.ref fa))(hb:Binds X.K fd [pn] [])
  (h:QE .P X E e w)(hc:X.calm=true:=by rfl)(hdb:(y == ("__debug__" : Str))=false:=by decide)(hs:notStar e=true:=by rfl):QE .D X E (.Call (.Name "min" p) [e] [⟨some "key",.Name y fp,kp⟩] pos) (Qyj fD w):=⟨Qud G hr hg hm hgf hmf hb hc h.h hdb hs⟩
end
end Dl
namespace Ko
abbrev Vx:=Bool×Int
def one(b:Bool):Nat:=if b=true then 1 else 0
def cnt(V:List Vx)(f:Vx->Bool):Nat:=(V.map λv=>one (f v)).sum
def Cov(cs:List (Int×Int))(f:Vx->Bool):Prop:=∀p∈cs,f (true,p.1)=true∨f (false,p.2)=true
def Apart(cs:List (Int×Int)):Prop:=cs.Pairwise λp q=>p.1≠q.1/\p.2≠q.2
theorem Qvn{V:List Vx}{a b c d e:Vx->Bool}(h:∀v∈V,one (a v)+one (b v)=one (c v)+one (d v)+one (e v)):cnt V a+cnt V b=cnt V c+cnt V d+cnt V e:=by
 induction V with
 |nil=>rfl
 |cons v V ih=>
  have h1:=h v (.head _);have h2:=ih λv hv=>h v (.tail _ hv)
  simp only[cnt,Js,YG] at h2 ⊢;omega
theorem Qvo{V:List Vx}(nd:V.Nodup)(x:Vx):cnt V (λv=>decide (v=x))<=1:=by
 induction V with
 |nil=>exact Jc _
 |cons v V ih=>
  have nd:=JO.mp nd;by_cases z:v=x
  ·subst z;have:cnt V (λu=>decide (u=v))=0:=by
    have:∀W:List Vx,v∉W->cnt W (λu=>decide (u=v))=0:=λW=>by
     induction W with
     |nil=>intro _;rfl
     |cons u W ih=>
      intro hw;have h1:u≠v:=λe=>hw (by rw[e];exact .head _)
      have h2:=ih λz=>hw (.tail _ z)
      simp only[cnt,Js,YG,one,h1,decide_false,Zu,if_false] at h2 ⊢;omega
    exact this V nd.1
   simp only[cnt,Js,YG,one,decide_true,if_true] at this ⊢;omega
  ·have:=ih nd.2;simp only[cnt,Js,YG,one,z,decide_false,Zu,if_false] at this ⊢;omega
theorem len_sub{α:Type}[DecidableEq α]:∀{l k:List α},l.Nodup->(∀x∈l,x∈k)->l.length<=k.length
 |[],_,_,_=>Jc _
 |x::l,k,nd,h=>by
  have nd:=JO.mp nd;have hx:=h x (.head _);have:=len_sub (l:=l) (k:=k.erase x) nd.2 λy hy=>(Qlk (λe=>nd.1 (by rw[<- e];exact hy))).mpr (h y (.tail _ hy))
  rw[Qbv hx] at this;have p:0<k.length:=ZM hx;rw[QQ];omega
theorem Qgv(V:List Vx)(f:Vx->Bool):cnt V f=(V.filter f).length:=by
 induction V with
 |nil=>rfl
 |cons v V ih=>
  cases h:f v with
  |true=>rw[Q7 h,QQ,<- ih];simp only[cnt,Js,YG,one,h,if_true];omega
  |false=>rw[Q8 (by rw[h];exact Qm),<- ih];simp only[cnt,Js,YG,one,h,Zu,if_false];omega
theorem Qsf{V:List Vx}{cs:List (Int×Int)}{t:Nat}(ht:∀f,Cov cs f->t<=cnt V f){p:Int×Int}{f:Vx->Bool}(c:Cov (cs.filter λe=>decide (e≠p)) f)(n:cnt V f<t):f (true,p.1)=false/\f (false,p.2)=false:=by
 have go:¬(f (true,p.1)=true∨f (false,p.2)=true):=λh=>by
  have:=ht f λe he=>by
   by_cases z:e=p
   ·rw[z];exact h
   ·exact c e (Qj.mpr ⟨he,decide_eq_true z⟩)
  omega
 constructor
 ·cases e:f (true,p.1) with
  |false=>rfl
  |true=>exact absurd (.inl e) go
 ·cases e:f (false,p.2) with
  |false=>rfl
  |true=>exact absurd (.inr e) go
theorem Qwx{V:List Vx}(ndV:V.Nodup){cs:List (Int×Int)}{t:Nat}(ht:∀f,Cov cs f->t<=cnt V f){p q:Int×Int}(hp:p∈cs)(hq:q∈cs)(hne:p≠q){f1 f2:Vx->Bool}
  (c1:Cov (cs.filter λe=>decide (e≠p)) f1)(n1:cnt V f1<t)(c2:Cov (cs.filter λe=>decide (e≠q)) f2)(n2:cnt V f2<t){x:Vx}(xp:x=(true,p.1)∨x=(false,p.2))(xq:x=(true,q.1)∨x=(false,q.2)):False:=by
 have a1:=Qsf ht c1 n1;have a2:=Qsf ht c2 n2;have x1:f1 x=false:=by rcases xp with rfl | rfl;exact a1.1;exact a1.2
 have x2:f2 x=false:=by rcases xq with rfl | rfl;exact a2.1;exact a2.2
 have b1:=c2 p (Qj.mpr ⟨hp,decide_eq_true hne⟩);have b2:=c1 q (Qj.mpr ⟨hq,decide_eq_true (QaQ hne)⟩)
 let D:Vx->Bool:=λv=>(f1 v != f2 v)||decide (v=x)
 let R:Vx->Bool:=λv=>(f1 v&&f2 v)||(D v&&v.1)
 let C:Vx->Bool:=λv=>(f1 v&&f2 v)||(D v && !v.1)
 have key:∀e∈cs,((f1 (true,e.1)&&f2 (true,e.1))=true∨(f1 (false,e.2)&&f2 (false,e.2))=true)∨(D (true,e.1)=true/\D (false,e.2)=true):=by
  intro e he;by_cases z:e=p
  ·subst z;refine .inr ?_
   show((f1 (true,e.1) != f2 (true,e.1))||decide ((true,e.1)=x))=true/\((f1 (false,e.2) != f2 (false,e.2))||decide ((false,e.2)=x))=true;rcases xp with rfl | rfl
   ·rcases b1 with b | b
    ·rw[x2] at b;cases b
    ·rw[a1.2,b];simp
   ·rcases b1 with b | b
    ·rw[a1.1,b];simp
    ·rw[x2] at b;cases b
  ·by_cases y:e=q
   ·subst y;refine .inr ?_
    show((f1 (true,e.1) != f2 (true,e.1))||decide ((true,e.1)=x))=true/\((f1 (false,e.2) != f2 (false,e.2))||decide ((false,e.2)=x))=true;rcases xq with rfl | rfl
    ·rcases b2 with b | b
     ·rw[x1] at b;cases b
     ·rw[a2.2,b];simp
    ·rcases b2 with b | b
     ·rw[a2.1,b];simp
     ·rw[x1] at b;cases b
   ·have h1:=c1 e (Qj.mpr ⟨he,decide_eq_true z⟩);have h2:=c2 e (Qj.mpr ⟨he,decide_eq_true y⟩);show((f1 (true,e.1)&&f2 (true,e.1))=true∨(f1 (false,e.2)&&f2 (false,e.2))=true)∨(((f1 (true,e.1) != f2 (true,e.1))||decide ((true,e.1)=x))=true/\((f1 (false,e.2) != f2 (false,e.2))||decide ((false,e.2)=x))=true);cases g1:f1 (true,e.1)<;>cases g2:f2 (true,e.1)<;>cases g3:f1 (false,e.2)<;>cases g4:f2 (false,e.2)<;>simp[g1,g2,g3,g4] at h1 h2 ⊢
 have cR:Cov cs R:=λe he=>by
  rcases key e he with(h | h) | h
  ·exact .inl (by show(_||_)=true;rw[h];rfl)
  ·exact .inr (by show(_||_)=true;rw[h];rfl)
  ·exact .inl (by show(_||(D (true,e.1)&&true))=true;rw[h.1];simp)
 have cC:Cov cs C:=λe he=>by
  rcases key e he with(h | h) | h
  ·exact .inl (by show(_||_)=true;rw[h];rfl)
  ·exact .inr (by show(_||_)=true;rw[h];rfl)
  ·exact .inr (by show(_||(D (false,e.2)&&true))=true;rw[h.2];simp)
 have tR:=ht R cR;have tC:=ht C cC;have s:=Qvn (V:=V) (a:=R) (b:=C) (c:=f1) (d:=f2) (e:=λv=>decide (v=x)) λv _=>by
  show one ((f1 v&&f2 v)||(((f1 v != f2 v)||decide (v=x))&&v.1))+one ((f1 v&&f2 v)||(((f1 v != f2 v)||decide (v=x)) && !v.1))=one (f1 v)+one (f2 v)+one (decide (v=x));by_cases z:v=x
  ·subst z;rw[x1,x2];obtain⟨b,i⟩:=v;cases b<;>simp[one]
  ·obtain⟨b,i⟩:=v;cases g1:f1 (b,i)<;>cases g2:f2 (b,i)<;>cases b<;>simp[one,z]
 have:=Qvo ndV x;omega
theorem QAq{V:List Vx}(ndV:V.Nodup):∀(n:Nat)(cs:List (Int×Int)),cs.length=n->cs.Nodup->∀t,(∀f,Cov cs f->t<=cnt V f)->∃M,M.Sublist cs/\Apart M/\t<=M.length:=by
 intro n;induction n using Nat.strongRecOn with
 |ind n ih=>
  intro cs hn nd t ht;by_cases z:∃e,e∈cs/\∀f,Cov (cs.filter λq=>decide (q≠e)) f->t<=cnt V f
  ·obtain⟨e,he,h⟩:=z;have hl:(cs.filter λq=>decide (q≠e)).length<n:=by
    rw[<- hn];exact List.length_filter_lt_length_iff_exists.mpr ⟨e,he,by simp⟩
   obtain⟨M,s,a,l⟩:=ih _ hl _ rfl (Ju _ nd) t h;exact⟨M,s.trans (Qoe),a,l⟩
  ·have ne:∀e∈cs,∃f,Cov (cs.filter λq=>decide (q≠e)) f/\cnt V f<t:=λe he=>by
    refine YA λc=>z ⟨e,he,λf hf=>YA λd=>c ⟨f,hf,by omega⟩⟩
   refine⟨cs,List.Sublist.refl _,?_,?_⟩
   ·refine(ZO (R:=λp q=>p≠q) (λ{p q} hp hq hne=>?_) nd);obtain⟨f1,c1,n1⟩:=ne p hp;obtain⟨f2,c2,n2⟩:=ne q hq;exact⟨λe=>Qwx ndV ht hp hq hne c1 n1 c2 n2 (x:=(true,p.1)) (.inl rfl) (.inl (by rw[e])),λe=>Qwx ndV ht hp hq hne c1 n1 c2 n2 (x:=(false,p.2)) (.inr rfl) (.inr (by rw[e]))⟩
   ·have:=ht (λv=>v.1&&decide (v.2∈cs.map (·.1))) λp hp=>.inl (by show(true&&decide (p.1∈cs.map (·.1)))=true;rw[YH];exact decide_eq_true (List.mem_map_of_mem hp))
    rw[Qgv] at this;have l:(V.filter λv=>v.1&&decide (v.2∈cs.map (·.1))).length<=(cs.map λp=>((true,p.1):Vx)).length:=len_sub (Ju _ ndV) λv hv=>by
     have:=QR.mp (Qj.mp hv).2;obtain⟨p,hp,e⟩:=Qh.mp (of_decide_eq_true this.2);refine Qh.mpr ⟨p,hp,?_⟩;obtain⟨b,i⟩:=v;have e1:b=true:=this.1;have e2:p.1=i:=e;rw[e1,e2]
    rw[Qd] at l;omega
theorem weak{V:List Vx}{L:List (Int×Int)}{f:Vx->Bool}(a:Apart L)(hV:∀p∈L,((true,p.1):Vx)∈V/\((false,p.2):Vx)∈V)(c:Cov L f):L.length<=cnt V f:=by
 rw[Qgv];have:L.length=(L.map λp=>if f (true,p.1)=true then((true,p.1):Vx) else(false,p.2)).length:=by rw[Qd]
 rw[this];refine len_sub (Jb.mpr (a.imp λ{p q} h=>?_)) λv hv=>?_
 ·split<;>split<;>intro e
  ·exact h.1 (JZ e).2
  ·cases(JZ e).1
  ·cases(JZ e).1
  ·exact h.2 (JZ e).2
 ·obtain⟨p,hp,rfl⟩:=Qh.mp hv;split
  ·rename_i z;exact Qj.mpr ⟨(hV p hp).1,z⟩
  ·rename_i z
   exact Qj.mpr ⟨(hV p hp).2,(c p hp).resolve_left z⟩
end Ko
namespace Rk
open L2 _root_.Rd Dl Rt
def toI:Qa->Int
 |.int i=>i
 |_=>0
theorem Ql1:∀{L:List (Int×Int)},L.Pairwise plt->QbA (L.map pairD)=true
 |[],_=>rfl
 |[_],_=>rfl
 |p::q::L,h=>by
  have h:=Qou.mp h;show(ltD (pairD p) (pairD q)&&QbA ((q::L).map pairD))=true;rw[Qp1,decide_eq_true (h.1 q (.head _)),Ql1 h.2];rfl
theorem Qth{h w:Int}{cs L:List (Int×Int)}(hb:∀p∈cs,0<=p.1/\p.1<h/\0<=p.2/\p.2<w)(hin:∀p∈L,p∈cs)(ha:apB L=true)(hp:L.Pairwise plt):Qoh h w cs (stT L)=true:=by
 show(((L.map pairD).all (QkE h w)&&QbA (L.map pairD))&&((L.map pairD).all (inC cs)&&apB ((L.map pairD).map toP)))=true;have e1:(L.map pairD).all (QkE h w)=true:=JW.mpr λd hd=>by
  obtain⟨p,hp,rfl⟩:=Qh.mp hd;have:=hb p (hin p hp);exact Qsn this.1 this.2.1 this.2.2.1 this.2.2.2
 have e2:(L.map pairD).all (inC cs)=true:=JW.mpr λd hd=>by
  obtain⟨p,hp,rfl⟩:=Qh.mp hd;unfold inC;rw[Qbd];exact decide_eq_true (hin p hp)
 rw[Qhd,ha,Ql1 hp,e1,e2];rfl
theorem QkH{α β:Type}{g:α->Option β}{p:α->Bool}{k:α->β}:∀{xs:List α},(∀x∈xs,g x=if p x=true then some (k x) else none)->xs.filterMap g=(xs.filter p).map k
 |[],_=>rfl
 |x::xs,h=>by
  have ih:=QkH (xs:=xs) λy hy=>h y (.tail _ hy)
  by_cases z:p x=true
  ·rw[List.filterMap_cons_some (by rw[h x (.head _),if_pos z]),ih,Q7 z];rfl
  ·rw[List.filterMap_cons_none (by rw[h x (.head _),if_neg z]),ih,Q8 z]
@[irreducible] def QpZ:List Qa->(Qa->Prop)->Prop:=QuS
theorem Qrp:Qbs (λxs H Q=>∃i j,xs=[.int i,.int j]/\Q (.int (if j<i then j else i)) H) QpZ:=by unfold QpZ;exact QnB
theorem QuR{i j k:Int}{Q:Qa->Prop}(e:(if j<i then j else i)=k)(h:Q (.int k)):QpZ [.int i,.int j] Q:=by
 unfold QpZ;show Q (.int (if j<i then j else i));rw[e];exact h
theorem QjN(g:Int×Int->Bool)(cs:List (Int×Int)):(cs.map pairD).filterMap (λd=>if g (toP d)=true then some d else none)=(cs.filter g).map pairD:=by
 rw[Zs];exact QkH (p:=g) (k:=pairD) λp _=>rfl
theorem Qny{items:List Qa}{wg wg2:DG}{wt wt2:DT}{wi2:DI}{we:DE}{δ:Sts}{Q:Qa->Prop}(G:Qa->List Qa)(k:Nat)(hl:(items.flatMap G).length<=k)
  (h:∀d∈items,∀(acc:List Qa)(N:List Qa->Prop),acc.length+(G d).length<=k->N (acc++G d)->wg d δ λδ4=>wt δ4 (λb=>if b=true then wi2 δ4 (λitems2=>InR items2 wg2 wt2 we δ4 acc N) XF else N acc) XF)(q:Q (.list (items.flatMap G))) :
  Qj1 items wg wt wi2 wg2 wt2 we δ Q:=by
 unfold Qj1;refine⟨λi acc=>acc=(items.take i).flatMap G,by simp,λi acc d hd e=>?_,λacc e=>by rw[e,ZQ];exact q⟩;have e:acc=(items.take i).flatMap G:=e;have hs:(items.take (i+1)).flatMap G=(items.take i).flatMap G++G d:=by
  rw[YF,hd,Qa4];simp
 refine h d (Ja hd) acc _ ?_ (by show acc++G d=_;rw[hs,e])
 have h1:(items.flatMap G).length=((items.take (i+1)).flatMap G).length+((items.drop (i+1)).flatMap G).length:=by
  rw[<- Qu,<- Qa4,Qk2]
 rw[hs,<- e,Qu] at h1;omega
end Rk
namespace Rv
theorem Qws:isSubtype (.type "range_iterator") (.type "reversed")=pure false:=by rw[Qb9];kernel_rfl
section
variable{prog:QF}{w:Jk}{A:Q9}{E:Value->Shared->Prop}{s:Shared}
def Qg9(a b:Int):Obj:={ cls:=.type "range_iterator",data:=.fields #[rawInt (a+(Za a b 1 - 1)*1),rawInt (Za a b 1),rawInt (-1)] }
theorem QkV{r:Addr}{j:Int}{t u v:Tok}{Q:Value->Shared->Prop}(hr:QvZ s.heap r 0 j 1 t u v)(h0 : -1000<=j)(h1:j<=1000)
  (h:Q (.ref s.heap.objs.size) { s with heap:=s.heap.push (Qg9 0 j) }):wpAny (model prog w) A (call (.builtin "range.__reversed__") [.ref r]) Q E s:=by
 refine JJ Qdd ⟨_,hr,rfl⟩ F.entry_range_reversed ?_ (F.args_range_reversed_1 _)
 unfold YV.«range.__reversed__»;refine wpAny_bind (ZH (a:=J7 r) rfl ?_);refine wpAny_bind ?_
 unfold Qzy;refine wpAny_bind (J9 hr rfl (x:=.int 0 t) rfl ?_);refine wpAny_bind (ZH (a:=some 0) rfl ?_);refine wpAny_bind (J9 hr rfl (x:=.int j u) rfl ?_);refine wpAny_bind (ZH (a:=some j) rfl ?_);refine wpAny_bind (J9 hr rfl (x:=.int 1 v) rfl ?_);refine wpAny_bind (ZH (a:=some 1) rfl ?_);refine wpAny_pure ?_
 dsimp only
 have hz:Za 0 j 1=if 0<j then j else 0:=by rw[QfL];split<;>omega
 have fit:∀x:Int,-2000<=x->x<=2000->JC x=true:=λx a b=>by
  unfold JC;simp only[JB,decide_eq_true_eq];omega
 have hs:(JC 0&&JC j&&JC 1&&JC (-1)&&JC (0 - 1)&&JC (Za 0 j 1))=true:=by
  rw[fit 0 (by decide) (by decide),fit j (by omega) (by omega),fit 1 (by decide) (by decide),fit (-1) (by decide) (by decide),fit (0 - 1) (by decide) (by decide),fit _ (by rw[hz];split<;>omega) (by rw[hz];split<;>omega)];rfl
 rw[hs,if_neg (by decide),if_pos rfl];exact wpAny_bind (Jx (wpAny_pure ⟨_,rfl,h⟩))
theorem Qrs{r:Addr}{j:Int}{t u v:Tok}{Q:Value->Shared->Prop}(hr:QvZ s.heap r 0 j 1 t u v)(h0 : -1000<=j)(h1:j<=1000)
  (h:Q (.ref s.heap.objs.size) { s with heap:=s.heap.push (Qg9 0 j) }):codeAny (model prog w) A (.call (.builtin "reversed.__new__") ⟨[.type "reversed",.ref r],[]⟩) (wants Q E) s:=by
 have hT:s.TypeIs (.ref r) "range" := ⟨_,hr,rfl⟩;refine Qj4 ?_
 show wpAny _ A.in1 (do checkBuiltinCall "reversed.__new__" ⟨[.type "reversed",.ref r],[]⟩;again (.builtin "reversed.__new__" ⟨[.type "reversed",.ref r],[]⟩)) _ _ s;refine wpAny_bind (ZH (F.newCall_reversed_1 _) (wpAny_pure ⟨Qav QrJ _,YU F.entry_reversed_new ?_⟩));rw[Zy QrJ _];unfold YV.«reversed.__new__»;refine wpAny_bind (ZH (newClass_reversed _) ?_)
 dsimp only
 refine wpAny_bind (ZH (a:=()) (by first | rfl | kernel_rfl) ?_);refine wpAny_bind (ZH (a:=()) (by first | rfl | kernel_rfl) ?_)
 try dsimp only
 refine wpAny_bind (wpAny_specialOf hT Qdd.lookup ?_)
 try dsimp only
 refine wpAny_bind (ZH (Qdd.bind _) ?_)
 try dsimp only
 first
 |rw[if_neg (show ¬((Qh3 "range.__reversed__" == Jz)=true) from Qm)]
 |(show wpAny _ _ (if(Qh3 "range.__reversed__" == Jz)=true then _ else _) _ _ _;rw[if_neg (show ¬((Qh3 "range.__reversed__" == Jz)=true) from Qm)])
 refine wpAny_bind (wpAny_rule ?_);refine wpAny_bind (m:=runValue (.call (.builtin "range.__reversed__") ⟨[.ref r],[]⟩)) (show wpAny _ _ (call (.builtin "range.__reversed__") [.ref r]) _ _ _ from QkV hr h0 h1 ?_)
 first
 |exact wpAny_pure h
 |exact wpAny_bind (wpAny_pure (wpAny_pure h))
theorem QnH{r:Addr}{j:Int}{t u v:Tok}{Q:Value->Shared->Prop}(hr:QvZ s.heap r 0 j 1 t u v)(h0 : -1000<=j)(h1:j<=1000)
  (h:Q (.ref s.heap.objs.size) { s with heap:=s.heap.push (Qg9 0 j) }):wpAny (model prog w) A (call (.type "reversed") [.ref r]) Q E s:=by
 refine callType_other (U := "range_iterator") (Q₁:=λobj s₁=>obj=.ref s.heap.objs.size/\s₁={ s with heap:=s.heap.push (Qg9 0 j) }) (by decide +kernel) F.create_reversed ⟨_,_,F.mro_reversed⟩ F.made_reversed Qws (F.typeCall_reversed_1 _) (Qrs hr h0 h1 ⟨rfl,rfl⟩) ?_
 rintro obj s₁ ⟨rfl,rfl⟩;exact⟨⟨_,Qr _ rfl,rfl⟩,h⟩
end
end Rv
namespace L2
def Itv(n:Nat):It:=⟨λi _=>i<n,λi H x H'=>H'=H/\x=.int ((n:Int) - 1 - i),λi _=>n<=i⟩
theorem Qlz{P:QF}{w:Jk}{K:PySem.W.Frag}{tg:QV}(it:Addr)(n:Nat):Turn P w K tg (Itv n) [it] it (λi h=>Qj7 h it ((n:Int) - 1+(i:Nat)*(-1)) ((n:Int) - (i:Nat)) (-1)) where
 mem:=by simp
 obj:=λi h st b hb=>by
  have e:b=it:=by simpa using hb
  subst e;exact⟨_,st,λv z=>by
   have z':Data.fields _=Data.cell v:=z;cases z'⟩
 keep:=λi h h' st k=>k it (by simp) _ st
 item:=by
  intro X hP hw hK hc i pins s σ H E I hf st hg;subst hP hw hK;obtain⟨f0,f1,f2,f3,f4,f5⟩:=hf it (by simp);have W:=Qzc (prog:=X.prog) (w:=X.w) (I.ok.hd hc) it ((n:Int) - 1) (-1) n;refine W.item i s _ _ hg st λv h' tk hv st' kk=>?_
  obtain⟨t,rfl⟩:=hv;have I1:Inv X pins σ H { s with heap:=h',toks:=tk }:=I.turned (λb o hb e=>kk b o (by simpa using hb) e) f0 f1 f3 f4 f5;refine⟨_,rfl,Qrb (s:={ s with heap:=h',toks:=tk }) (n := "range_iterator") st' rfl rfl (by decide) ⟨.int ((n:Int) - 1 - i),H,I1,⟨t,?_⟩,⟨rfl,rfl⟩,st',λb hb=>(hf b hb).1⟩⟩;rw[show(n:Int) - 1+(i:Int)*(-1)=(n:Int) - 1 - i by omega]
 done:=by
  intro X hP hw hK hc i pins s σ H E I hf st hg;subst hP hw hK;obtain⟨f0,f1,f2,f3,f4,f5⟩:=hf it (by simp);exact Qrz (I.ok.hd hc) st (by have:n<=i:=hg;omega) λh' eb=>⟨rfl,I.turned (t':=s.toks) (λb o hb e=>eb b o hb e) f0 f1 f3 f4 f5⟩
 self:=λ_ _ _ _ _ st h=>Qda st h
def QAE(ta:TA):TI:=λσ H R=>ta σ H λvs H1=>∃(r:Addr)(j:Int),vs=[.ref r]/\H1 r=some (.rng 0 j) /\ -1000<=j/\j<=1000/\R (Itv j.toNat) H1
section
variable{X:Cx}{tg:QV}
theorem QtQ{a:QV}{ta:TA}{p pos:Pos}(hg:Gl X "reversed")(hm:X.mg "reversed" = none)(ha:PA X [a] ta)(hs:starEach [a] X.env=[(false,eval a X.env)]:=by rfl):PI X tg (.Call (.Name "reversed" p) [a] [] pos) (QAE ta):=by
 intro pins s σ H R I h;refine Call_ (QbJ I hg hm boot_reversed (JD (thn (ha pos pins s σ H _ I h) λus s1 ⟨vs,H1,I1,r1,q1⟩=>?_) hs rfl));obtain⟨r,j,e,hr,q1,q2,q⟩:=q1;subst e;obtain⟨u,rfl,ru⟩:=vals1 r1;cases(show u=J7 r from ru);obtain⟨t1,t2,t3,e⟩:=I1.hok r _ hr;refine Rv.QnH (show QvZ s1.heap r 0 j 1 t1 t2 t3 from e) q1 q2 ?_
 have hz:Za 0 j 1=((j.toNat:Nat):Int):=by rw[QfL];split<;>omega
 have it0:Qj7 (s1.heap.push (Rv.Qg9 0 j)) s1.heap.objs.size (((j.toNat:Nat):Int) - 1+((0:Nat):Int)*(-1)) (((j.toNat:Nat):Int) - ((0:Nat):Int)) (-1):=by
  have:=Qr (h:=s1.heap) (o:=Rv.Qg9 0 j) rfl;unfold Rv.Qg9 at this;rw[hz,show(0:Int)+(((j.toNat:Nat):Int) - 1)*1=((j.toNat:Nat):Int) - 1+((0:Nat):Int)*(-1) by omega] at this;rw[show((j.toNat:Nat):Int) - ((0:Nat):Int)=((j.toNat:Nat):Int) by omega];unfold Rv.Qg9;rw[hz,show(0:Int)+(((j.toNat:Nat):Int) - 1)*1=((j.toNat:Nat):Int) - 1+((0:Nat):Int)*(-1) by omega];exact this
 refine Qda it0 ?_
 refine⟨s1.heap.objs.size,[s1.heap.objs.size],_,_,H1,rfl,I1.kept (t':=s1.toks) λb o e=>Qe _ e,Qlz _ j.toNat,it0,λb hb=>?_,q⟩;have e:b=s1.heap.objs.size:=by simpa using hb
 subst e;exact I1.fpOk (Qg _) (I1.hok.fresh (Qg _))
end
section
variable{X:Cx}
def Qje:V->List V->Hp->VK->Prop:=λx vs H Q=>∃l xs y,x=.ref l/\vs=[.int 0,y]/\H l=some (.lst xs)/\xs.length<sizeLine/\Q .non (upd H l (.lst (y::xs)))
theorem Qky:MtM X "list.insert" Qje:=by
 intro pins s σ H x vs v us Q I rx rv h;obtain⟨l,xs,y,rfl,rfl,hH,hz,q⟩:=h;cases rx;cases rv with
 |cons r0 rv=>
  obtain⟨u,rfl,ru⟩:=Vals.one rv;obtain⟨t,rfl⟩:=r0;obtain⟨z,its,n,r,hl,e⟩:=I.lstM hH;refine QgV F.slot_list_insert ⟨_,e,rfl⟩ F.entry_list_insert (F.args_list_insert_3 _ _ _) (AutoSeq1.list_insert_list_int_val_1 l its.toArray n 0 t u (by decide) (by rw[Ql];omega)) ⟨e,?_⟩;refine⟨.non,_,I.lset (its':=u::its) hH e (by simp) (.cons ru r) ?_,rfl,q⟩;rw[QQ];omega
end
end L2
namespace Dl
open L2 _root_.Rd Rk
section
variable{X:Cx}{E:XK}{st:ZY}{i:Nat}{we:DE}
def Qtt(n:Nat):List Qa:=(Qt n).map λ(i:Nat)=>.int ((n:Int) - 1 - i)
theorem Qea(n:Nat):(Qtt n).length=n:=by unfold Qtt;rw[Qd,Q1]
theorem Qf9{n i:Nat}{d:Qa}(h:(Qtt n)[i]? = some d):i<n/\d=.int ((n:Int) - 1 - i):=by
 unfold Qtt at h;rw[Qv] at h;by_cases z:i<n
 ·rw[Jo z] at h;exact⟨z,(QJ h).symm⟩
 ·rw[Q6 (by rw[Q1];omega)] at h;cases h
def QAT(w:DE):DI:=λδ Q EX=>w δ (λd=>match d with
 |.int j=>(-1000<=j/\j<=1000)/\Q (Qtt j.toNat)
 |_=>False) EX
theorem QAx{A S:Addr->Prop}{n:Nat}{H1:Hp}(h:n<=sizeLine):ItD A S (Itv n) (Qtt n) H1:=by
 refine⟨by rw[Qea];exact h,λH2 A' _ _ _=>⟨λi d hd=>?_,?_⟩⟩
 ·obtain⟨hi,rfl⟩:=Qf9 hd;refine⟨hi,λx H3 hy=>?_⟩;obtain⟨rfl,rfl⟩:=hy;exact⟨Same.refl _,.int _⟩
 ·show n<=(Qtt n).length;rw[Qea];exact Qg _
theorem Qmd{m:Md}{tg e:QV}{w:DE}{p p2 pos pos2:Pos}(hg:Gl X "reversed")(hm:X.mg "reversed" = none)(hg2:Gl X "range")(hm2:X.mg "range" = none)(h:QE .P X E e w)(hs:notStar e=true:=by rfl):QI m X E tg (.Call (.Name "reversed" p) [.Call (.Name "range" p2) [e] [] pos2] [] pos) (QAT w):=⟨by
 refine PI.imp (QtQ hg hm (QcM (Qjp hg2 hm2 (QcM h.h ZN hs) (by rw[ZD hs];rfl)) ZN)) λσ H R _ ⟨F,δ,R',EX,rel,hw,k,o⟩=>?_
 refine⟨F,δ,_,EX,rel,hw,λd hd v H' rel' kp vk=>?_,o⟩;cases d<;>first | exact(show False from hd).elim | skip
 obtain⟨⟨h1,h2⟩,hR⟩:=hd;rw[DP.int vk];exact⟨_,rfl,λr H2 s2 n2 e2=>⟨r,_,rfl,e2,h1,h2,k _ hR _ H2 (rel'.same s2) (kp.trans (Kp.same rel' s2)) (QAx (Zq (Rk.Qa1 (by omega))))⟩⟩⟩
def QAS(i:Nat)(we:DE):DS:=λD δ=>match δ[i]? with
 |some (.own ds)=>we δ (λd=>ds.length<1000000/\D.nx (δ.set i (.own (d::ds)))) D.ex
 |_=>False
theorem Qt5(h:PS X st (QlB (tBM X.K "list" Qje (QhZ i) (Qe5 (tX .D X.K E (dC (.int 0))) (Qe5 (tX .D X.K E we) Qtd))))):PS X st (tS X.K E (QAS i we)):=by
 refine PS.imp h λD σ H ⟨F,δ,DD,rel,hw,en⟩=>?_
 unfold QAS at hw;split at hw
 ·rename_i ds hd
  obtain⟨x,hx⟩:=rel.lt hd;obtain⟨l,xs,rfl,e,q,f⟩:=rel.sl i _ _ hx hd;have np:=rel.own_pot hd hx;refine⟨.ref l,hx,.inl ⟨rfl,_,SqL.of e⟩,F,δ,(λd=>d=.int 0),DD.ex,rel,rfl,λd hd0 v0 H0 rel0 kp0 vk0=>?_,en.ex⟩;subst hd0;cases vk0;refine⟨F,δ,_,DD.ex,rel0,hw,λd ⟨hl,hn⟩ v H' rel' kp vk=>?_,en.ex⟩;have kk:=kp0.trans kp;have q':=kk.das q;refine⟨l,xs,v,rfl,rfl,kk.1 _ _ np e,QP (by rw[q.length];exact hl) Qht,?_⟩;obtain⟨r2,st⟩:=rel'.mut hd hx (.cons vk q');exact en.nx.go _ hn _ _ r2 ((Stp.kp kk).trans st)
 ·exact hw.elim
theorem QwP{y:Str}{e e0:QV}{we:DE}{apos cpos pos npos:Pos}(i:Nat)(h0:QE .D X E e0 (dC (.int 0)))(he:QE .D X E e we)(hN:X.N[i]? = some y:=by rfl)(hv:Vis X.env.scope y:=by first | exact QN rfl | exact QK (QN rfl) | exact QK (QK rfl))(hd:(y == ("__debug__" : Str))=false:=by decide)(hcd:(y == ("__classdict__" : Str))=false:=by decide)(hs0:notStar e0=true:=by rfl)(hst:notStar e=true:=by rfl)(hbase:attributeBase (.Name y npos) "insert" X.env (eval (.Name y npos) X.env)=eval (.Name y npos) X.env:=by rfl)(hfew:((backTo cpos (starEach [e0,e] X.env)).all (λx => !x.1)&&(backToKw cpos (keywordEach [] X.env)).all (λx=>x.1.isSome)&&decide ([e0,e].length+([]:List QcS).length+(if([]:List QcS).isEmpty then 0 else 1)<30))=true:=by rfl)(hline:(apos.endLine == cpos.line)=true:=by rfl)(hsw:swapsWith (.Call (.Attribute (.Name y npos) "insert" apos) [e0,e] [] cpos) none pos.line X.env=pure false:=by rfl):QS X E (.Expr (.Call (.Attribute (.Name y npos) "insert" apos) [e0,e] [] cpos) pos) (QAS i we):=⟨Qt5 (Qgd (Qpd PySem.F.plainAttrs_list PySem.F.slot_list_insert PySem.F.type_list_insert Qky (pv i hN hv hd hcd) (QcM h0.h (QcM he.h ZN hst) hs0) hbase hfew hline (ZD hs0) (by rw[ZD hst];rfl)) hsw)⟩
end
end Dl
namespace Rk
open L2 _root_.Rd Dl Rt
def Qog(B:Nat->Nat->Int)(t:Nat):List Nat->Nat->Int
 |[],_=>0
 |c::cs,k=>(if t.testBit c=true then 0 else B (t ||| 2^c) k)+Qog B t cs k
theorem Qem(B:Nat->Nat->Int)(t c k:Nat):∀cs:List Nat,Qog B t (cs++[c]) k=Qog B t cs k+(if t.testBit c=true then 0 else B (t ||| 2^c) k)
 |[]=>by show _+0=0+_;omega
 |d::cs=>by
  show _+Qog B t (cs++[c]) k=_+Qog B t cs k+_;rw[Qem B t c k cs];omega
def Qd9(h:Nat)(F:Nat->Int):List Qa:=(Qt (h+1)).map λ(k:Nat)=>.int (F k)
def Qia(h w:Nat)(B:Nat->Nat->Int):List Qa:=(Qt (2^w)).map λ(t:Nat)=>.list (Qd9 h (B t))
def Qeo(B:Nat->Nat->Int)(cols:List Nat)(t k:Nat):Int:=B t k+if k=0 then 0 else Qog B t cols (k - 1)
def QkN(cs:List (Int×Int))(r:Nat):List Nat:=(QdJ cs r).map λp=>p.2.toNat
def Wc(cs:List (Int×Int))(h:Nat):Nat->Nat->Nat->Int
 |0,_,k=>if k=0 then 1 else 0
 |i+1,t,k=>Qeo (Wc cs h i) (QkN cs (h - 1 - i)) t k
def Qi3(cs:List (Int×Int))(h w:Nat):Nat->List Qa
 |0=>[.list (Qia h w (Wc cs h 0))]
 |i+1=>.list (Qia h w (Wc cs h (i+1)))::Qi3 cs h w i
def QcN(ns:List Nat):List Qa:=ns.map λ(c:Nat)=>.int (c:Int)
def QfE(cs:List (Int×Int))(h w:Nat):List Qa:=(Qt (min h w+1)).map λ(k:Nat)=>.int (Wc cs h h 0 k)
def QpY:DF:=λargs R _=>∃(h w:Nat)(cs:List (Int×Int)),args=[.v (bdD h w cs)]/\R (.int ((min h w:Nat):Int))
def Qs2:DF:=λargs R _=>∃(h w:Nat)(B:Nat->Nat->Int)(cols:List Nat)(t:Nat),args=[.v (.list (Qia h w B)),.v (.list (QcN cols)),.v (.int t)]/\t<2^w/\(∀c∈cols,c<w)/\h<=6/\w<=6/\R (.list (Qd9 h (Qeo B cols t)))
def QoA:DF:=λargs R _=>∃(h w:Nat)(cs:List (Int×Int)),args=[.v (bdD h w cs)]/\h<=6/\w<=6/\(∀p∈cs,0<=p.2/\p.2<w)/\R (.list (Qi3 cs h w h))
def QeQ:DF:=λargs R _=>∃(h w:Nat)(cs:List (Int×Int)),args=[.v (bdD h w cs)]/\h<=6/\w<=6/\(∀p∈cs,0<=p.2/\p.2<w)/\R (.list (QfE cs h w))
theorem Qbz{h k:Nat}{F:Nat->Int}(hk:k<=h):(Qd9 h F)[k]? = some (.int (F k)):=by
 unfold Qd9;rw[Qv,Jo (by omega)];rfl
theorem QbW(h:Nat)(F:Nat->Int):(Qd9 h F).length=h+1:=by unfold Qd9;rw[Qd,Q1]
theorem Qel{h w t:Nat}{B:Nat->Nat->Int}(ht:t<2^w):(Qia h w B)[t]? = some (.list (Qd9 h (B t))):=by
 unfold Qia;rw[Qv,Jo ht];rfl
theorem Qbb{h:Nat}{F G:Nat->Int}(e:∀k,k<=h->F k=G k):Qd9 h F=Qd9 h G:=by
 unfold Qd9;refine ZK λk hk=>?_
 rw[e k (by have:=Q0.mp hk;omega)]
theorem QoY{h j:Nat}{F:Nat->Int}{v:Int}(hj:j<=h):(Qd9 h F).set j (.int v)=Qd9 h (λk=>if k=j then v else F k):=by
 apply Z9
 intro k;rw[QrG];by_cases z:j=k
 ·subst z;rw[if_pos rfl,if_pos (by rw[QbW];omega),Qbz hj,if_pos rfl]
 ·rw[if_neg z];by_cases z2:k<=h
  ·rw[Qbz z2,Qbz z2,if_neg (λe=>z e.symm)]
  ·rw[Q6 (by rw[QbW];omega),Q6 (by rw[QbW];omega)]
theorem cut_last(xs:List Qa):Dl.cutD xs none (some (-1))=xs.take (xs.length - 1):=by
 unfold Dl.cutD;rw[HT.Qd7,QvY,Nat.sub_zero]
 congr 1
 have e:HT.sIx xs.length xs.length (some (-1))=((-1:Int)+(xs.length:Int)).toNat:=by unfold HT.sIx;dsimp only;rw[if_pos (by decide)]
 rw[e];omega
theorem Qvx:∀t:Fin 64,∀c:Fin 6,QcK ((t:Nat):Int) (1*2^((c:Nat):Int).toNat)=if(t:Nat).testBit c=true then 2^(c:Nat) else 0:=by decide +kernel
theorem Qyt:∀t:Fin 64,∀c:Fin 6,Qde ((t:Nat):Int) (1*2^((c:Nat):Int).toNat)=(((t:Nat) ||| 2^(c:Nat):Nat):Int):=by decide +kernel
theorem Qxk{t c w:Nat}(ht:t<2^w)(hc:c<w):t ||| 2^c<2^w:=Nat.or_lt_two_pow ht (Nat.pow_lt_pow_right (by decide) hc)
theorem Qo0(h:Nat)(F:Nat->Int):Dl.cutD (Qd9 h F) none (some (-1))=(Qt h).map λ(k:Nat)=>Qi (F k):=by
 rw[cut_last,QbW];unfold Qd9;rw[<- Qd0,Yu,QvJ,QcR (QdW h)]
theorem Qvy{t c w:Nat}(ht:t<2^w)(hc:c<w)(w6:w<=6):QcK (t:Int) (1*2^((c:Nat):Int).toNat)=if t.testBit c=true then 2^c else 0:=by
 have h64:2^w<=2^6:=Z6 (by decide) w6;exact Qvx ⟨t,by have e:2^6=64:=rfl;omega⟩ ⟨c,by omega⟩
theorem Qxl{t c w:Nat}(ht:t<2^w)(hc:c<w)(w6:w<=6):Qde (t:Int) (1*2^((c:Nat):Int).toNat)=((t ||| 2^c:Nat):Int):=by
 have h64:2^w<=2^6:=Z6 (by decide) w6;exact Qyt ⟨t,by have e:2^6=64:=rfl;omega⟩ ⟨c,by omega⟩
theorem Qge(w:Nat):(1*2^((w:Nat):Int).toNat:Int)=((2^w:Nat):Int):=by
 rw[Int.one_mul,QH];simp
theorem Qyp(cs:List (Int×Int))(r:Nat)(hb:∀p∈cs,0<=p.2):(cs.map pairD).filterMap (λd=>if(toP d).1=(r:Int) then some (.int (toP d).2) else none)=QcN (QkN cs r):=by
 unfold QcN QkN QdJ;rw[Zs,QL];refine QkH (p:=λp:Int×Int=>decide (p.1=(r:Int))) λp hp=>?_
 show(if p.1=(r:Int) then some (Qi p.2) else none)=if decide (p.1=(r:Int))=true then some (Qi ((p.2.toNat:Nat):Int)) else none
 rw[show((p.2.toNat:Nat):Int)=p.2 by have:=hb p hp;omega];by_cases z:p.1=(r:Int)
 ·rw[if_pos z,if_pos (decide_eq_true z)]
 ·rw[if_neg z,if_neg (by simpa using z)]
theorem Qvl{cs:List (Int×Int)}{w r c:Nat}(hb:∀p∈cs,0<=p.2/\p.2<w)(h:c∈QkN cs r):c<w:=by
 unfold QkN QdJ at h;obtain⟨p,hp,rfl⟩:=Qh.mp h;have:=hb p (Qj.mp hp).1;omega
theorem Qi1(cs:List (Int×Int))(h w:Nat):∀i,(Qi3 cs h w i).length=i+1
 |0=>rfl
 |i+1=>by show(Qi3 cs h w i).length+1=_;rw[Qi1 cs h w i]
theorem Qh9(cs:List (Int×Int))(h w:Nat):∀i,(Qi3 cs h w i)[0]? = some (.list (Qia h w (Wc cs h i)))
 |0=>rfl
 |_+1=>rfl
theorem QoZ(cs:List (Int×Int))(h t:Nat):Qd9 h (Wc cs h 0 t)=Qi 1::Ji h (.int 0):=by
 apply Z9
 intro k;cases k with
 |zero=>rw[Qbz (Jc _)];rfl
 |succ k=>
  by_cases z:k+1<=h
  ·rw[Qbz z,Yi,Yh,if_pos (by omega)];rfl
  ·rw[Q6 (by rw[QbW];omega),Yi,Yh,if_neg (by omega)]
theorem Qtv(h:Nat):(Ji h [Qi 0]).flatten=Ji h (.int 0):=by
 induction h with
 |zero=>rfl
 |succ h ih=>rw[Zk,Z8,ih];rfl
theorem Qr7{w:Nat}(h:w<=6) : -1000000<=(1*2^((w:Nat):Int).toNat:Int)/\(1*2^((w:Nat):Int).toNat:Int)<=1000000:=by
 have p64:2^w<=64:=Z6 (n:=2) (by decide) h;rw[Qge];generalize 2^w=x at p64;omega
def sumZ{α:Type}(f:α->Int):List α->Int
 |[]=>0
 |x::xs=>f x+sumZ f xs
theorem QfV{α:Type}(f:α->Int):∀a b:List α,sumZ f (a++b)=sumZ f a+sumZ f b
 |[],b=>by show _=0+_;rw[QaE];rfl
 |x::a,b=>by show _+sumZ f (a++b)=_+sumZ f a+_;rw[QfV f a b];omega
theorem Qg3{α β:Type}(f:β->Int)(g:α->List β):∀a:List α,sumZ f (a.flatMap g)=sumZ (λx=>sumZ f (g x)) a
 |[]=>rfl
 |x::a=>by rw[JA,QfV,Qg3 f g a];rfl
theorem J3{α:Type}{f g:α->Int}:∀{a:List α},(∀x∈a,f x=g x)->sumZ f a=sumZ g a
 |[],_=>rfl
 |x::a,h=>by show f x+_=g x+_;rw[h x (.head _),J3 λy hy=>h y (.tail _ hy)]
theorem QbT{α:Type}(f g:α->Int):∀a:List α,sumZ (λx=>f x+g x) a=sumZ f a+sumZ g a
 |[]=>rfl
 |x::a=>by show(f x+g x)+sumZ _ a=f x+sumZ f a+(g x+sumZ g a);rw[QbT f g a];omega
theorem Z2{α:Type}(f:α->Int)(p:α->Bool):∀a:List α,sumZ f (a.filter p)=sumZ (λx=>if p x=true then f x else 0) a
 |[]=>rfl
 |x::a=>by
  by_cases z:p x=true
  ·rw[Q7 z];show f x+_=(if p x=true then f x else 0)+_;rw[if_pos z,Z2 f p a]
  ·rw[Q8 z];show _=(if p x=true then f x else 0)+_;rw[if_neg z,Z2 f p a,QaE]
theorem Qi4{α β:Type}(f:β->Int)(g:α->β):∀a:List α,sumZ f (a.map g)=sumZ (λx=>f (g x)) a
 |[]=>rfl
 |x::a=>by show _+sumZ f (a.map g)=_+_;rw[Qi4 f g a]
theorem sumZ_zero{α:Type}:∀a:List α,sumZ (λ_=>0) a=0
 |[]=>rfl
 |x::a=>by show 0+sumZ _ a=0;rw[sumZ_zero a];rfl
theorem Qfe{α:Type}(p:α->Bool):∀a:List α,sumZ (λx=>if p x=true then 1 else 0) a=((a.countP p:Nat):Int)
 |[]=>rfl
 |x::a=>by
  show(if p x=true then 1 else 0)+_=_;rw[Qfe p a];by_cases z:p x=true
  ·rw[if_pos z,Qaf z];omega
  ·rw[if_neg z,Qag z];omega
theorem QcV{α:Type}(B:Nat->Nat->Int)(t k:Nat)(g:α->Nat):∀a:List α,Qog B t (a.map g) k=sumZ (λx=>if t.testBit (g x)=true then 0 else B (t ||| 2^g x) k) a
 |[]=>rfl
 |x::a=>by show _+Qog B t (a.map g) k=_+_;rw[QcV B t k g a]
def mkL(L:List (Int×Int)):Nat:=L.foldl (λt p=>t ||| 2^p.2.toNat) 0
theorem Qec(L:List (Int×Int))(p:Int×Int):mkL (L++[p])=mkL L ||| 2^p.2.toNat:=by
 unfold mkL;rw[List.foldl_append];rfl
theorem Qj0(c:Nat):∀(L:List (Int×Int))(t:Nat),(L.foldl (λt p=>t ||| 2^p.2.toNat) t).testBit c=(t.testBit c||decide (c∈L.map λp=>p.2.toNat))
 |[],t=>by simp
 |p::L,t=>by
  rw[QgQ,Qj0 c L,QyN,Qos,Bool.or_assoc]
  congr 1
  rw[Js,J8];simp only[Qa6,decide_eq_true_eq,Qy];constructor
  ·rintro(z | z)
   ·exact .inl z.symm
   ·exact .inr z
  ·rintro(z | z)
   ·exact .inl z.symm
   ·exact .inr z
theorem QgC(L:List (Int×Int))(c:Nat):(mkL L).testBit c=decide (c∈L.map λp=>p.2.toNat):=by
 unfold mkL;rw[Qj0];simp
theorem Qd4{cs:List (Int×Int)}:∀i,∀L∈Qbg cs i,∀p∈L,p∈cs
 |0,L,h,p,hp=>by rw[Qx.mp h] at hp;cases hp
 |i+1,L,h,p,hp=>by
  rcases Jf.mp (show L∈Qbg cs i++(Qbg cs i).flatMap (Qfb (QdJ cs i)) from h) with z | z
  ·exact Qd4 i L z p hp
  ·obtain⟨M,hM,hL⟩:=JV.mp z;obtain⟨c,hc,_,rfl⟩:=Qay.mp hL;rcases Jf.mp hp with y | y
   ·exact Qd4 i M hM p y
   ·rw[Qx.mp y];exact(Qj.mp hc).1
theorem Qis{L:List (Int×Int)}{c:Int×Int}(hL:∀p∈L,0<=p.2)(hc:0<=c.2):(c.2.toNat∈L.map λp=>p.2.toNat)↔c.2∈L.map (·.2):=by
 rw[Qh,Qh];constructor
 ·rintro⟨p,hp,e⟩;refine⟨p,hp,?_⟩;have:=hL p hp;have e:p.2.toNat=c.2.toNat:=e;show p.2=c.2;omega
 ·rintro⟨p,hp,e⟩;exact⟨p,hp,by show p.2.toNat=c.2.toNat;rw[show p.2=c.2 from e]⟩
def trm(cs:List (Int×Int))(h r k:Nat)(L:List (Int×Int)):Int:=if L.length<=k then Wc cs h (h - r) (mkL L) (k - L.length) else 0
theorem QoE{cs:List (Int×Int)}{h r k:Nat}(hr:r<h)(hb:∀p∈cs,0<=p.2){L:List (Int×Int)}(hL:∀p∈L,p∈cs) :
  trm cs h r k L=trm cs h (r+1) k L+sumZ (trm cs h (r+1) k) (Qfb (QdJ cs r) L):=by
 have e1:h - r=(h - (r+1))+1:=by omega
 have e2:h - 1 - (h - (r+1))=r:=by omega
 unfold Qfb;rw[Qi4,Z2];unfold trm;rw[e1];by_cases z:L.length<=k
 ·rw[if_pos z,if_pos z];show Qeo (Wc cs h (h - (r+1))) (QkN cs (h - 1 - (h - (r+1)))) (mkL L) (k - L.length)=_;rw[e2];unfold Qeo
  congr 1
  by_cases z2:k - L.length=0
  ·rw[if_pos z2];refine(Eq.trans (J3 (g:=λ_=>0) λc hc=>?_) (sumZ_zero _)).symm;rw[Qu,if_neg (show ¬(L.length+[c].length<=k) by show ¬(L.length+1<=k);omega)];split<;>rfl
  ·rw[if_neg z2];unfold QkN;rw[QcV];refine J3 λc hc=>?_
   have hc':=hb c (Qj.mp hc).1;rw[QgC,Qec,Qu,if_pos (show L.length+[c].length<=k by show L.length+1<=k;omega)];have em:=Qis (c:=c) (λp hp=>hb p (hL p hp)) hc';by_cases y:c.2∈L.map (·.2)
   ·rw[if_pos (decide_eq_true (em.mpr y)),if_neg (by simpa using y)]
   ·rw[if_neg (by rw[decide_eq_true_eq];exact λq=>y (em.mp q)),if_pos (by simpa using y)];show _=Wc cs h (h - (r+1)) _ (k - (L.length+1));rw[show k - L.length - 1=k - (L.length+1) by omega]
 ·rw[if_neg z,if_neg z,QaE];refine(Eq.trans (J3 (g:=λ_=>0) λc hc=>?_) (sumZ_zero _)).symm;rw[Qu,if_neg (show ¬(L.length+[c].length<=k) by show ¬(L.length+1<=k);omega)];split<;>rfl
theorem QiX{cs:List (Int×Int)}{h k:Nat}(hb:∀p∈cs,0<=p.2):∀r,r<=h->sumZ (trm cs h r k) (Qbg cs r)=Wc cs h h 0 k
 |0,_=>by
  show(if 0<=k then Wc cs h (h - 0) (mkL []) (k - 0) else 0)+0=_;rw[if_pos (Jc _),QcT];rfl
 |r+1,hr=>by
  rw[<- QiX hb r (by omega)];show sumZ _ (Qbg cs r++(Qbg cs r).flatMap (Qfb (QdJ cs r)))=_;rw[QfV,Qg3,<- QbT];exact(J3 λL hL=>QoE (by omega) hb (Qd4 r L hL)).symm
def QvN(cs:List (Int×Int))(h k:Nat):Int:=(((Qbg cs h).countP λL=>L.length == k:Nat):Int)
theorem Qef{cs:List (Int×Int)}{h:Nat}(hb:∀p∈cs,0<=p.2)(k:Nat):QvN cs h k=Wc cs h h 0 k:=by
 rw[<- QiX (k:=k) hb h (Qg _)];unfold QvN;rw[<- Qfe];refine J3 λL _=>?_
 unfold trm;rw[Nat.sub_self];show(if(L.length == k)=true then 1 else 0)=if L.length<=k then(if k - L.length=0 then 1 else 0) else 0
 by_cases z:L.length=k
 ·rw[if_pos (by simpa using z),if_pos (by omega),if_pos (by omega)]
 ·rw[if_neg (by simpa using z)];by_cases z2:L.length<=k
  ·rw[if_pos z2,if_neg (by omega)]
  ·rw[if_neg z2]
theorem Qgh:∀(w:Nat)(l:List Nat),l.Nodup->(∀x∈l,x<w)->l.length<=w
 |0,l,_,h=>by
  cases l with
  |nil=>exact Qg _
  |cons a l=>exact absurd (h a (.head _)) (QvV _)
 |w+1,l,nd,h=>by
  by_cases z:w∈l
  ·have h1:=Qgh w (l.erase w) (nd.erase w) λx hx=>by
    have:=h x (List.mem_of_mem_erase hx);have hne:x≠w:=λe=>by subst e;exact(List.Nodup.not_mem_erase nd) hx
    omega
   have h2:=Qbv z;omega
  ·have h1:=Qgh w l nd λx hx=>by
    have:=h x hx;have hne:x≠w:=λe=>by subst e;exact z hx
    omega
   omega
theorem Qic{cs:List (Int×Int)}:∀i,∀L∈Qbg cs i,(L.map (·.2)).Nodup
 |0,L,h=>by rw[Qx.mp h];exact .nil
 |i+1,L,h=>by
  rcases Jf.mp (show L∈Qbg cs i++(Qbg cs i).flatMap (Qfb (QdJ cs i)) from h) with z | z
  ·exact Qic i L z
  ·obtain⟨M,hM,hL⟩:=JV.mp z;obtain⟨c,_,hn,rfl⟩:=Qay.mp hL;rw[Jr];refine JP.mpr ⟨Qic i M hM,by simp,λa h1 b h2 e=>?_⟩;have h2:b=c.2:=by simpa using h2
   rw[e,h2] at h1;exact hn h1
theorem QlH{cs:List (Int×Int)}{w i:Nat}(hb:∀p∈cs,0<=p.2/\p.2<w){L:List (Int×Int)}(h:L∈Qbg cs i):L.length<=w:=by
 have nd:=Qic i L h;have hs:=Qd4 i L h;have h1:=Qgh w (L.map λp=>p.2.toNat) ?_ λx hx=>?_
 ·rwa [Qd] at h1
 ·have e:(L.map λp=>p.2.toNat)=(L.map (·.2)).map Int.toNat:=by rw[QL];rfl
  rw[e];refine Jb.mpr (ZO (λ{a b} ha hb' hne hz=>hne ?_) nd);obtain⟨p,hp,rfl⟩:=Qh.mp ha;obtain⟨q,hq,rfl⟩:=Qh.mp hb';have:=hb p (hs p hp);have:=hb q (hs q hq);show p.2=q.2;have hz:p.2.toNat=q.2.toNat:=hz;omega
 ·obtain⟨p,hp,rfl⟩:=Qh.mp hx;have:=hb p (hs p hp);omega
theorem Qro{cs:List (Int×Int)}{h w:Nat}{d:Qa}(hd:d∈QfE cs h w):∃i,d=.int i:=by
 unfold QfE at hd;obtain⟨k,_,rfl⟩:=Qh.mp hd;exact⟨_,rfl⟩
theorem Qrn(cs:List (Int×Int))(h w:Nat):(QfE cs h w).length=min h w+1:=by unfold QfE;rw[Qd,Q1]
end Rk
namespace L2
section
variable{X:Cx}
def QwM(K:PySem.W.Frag):List V->Hp->VK->Prop:=λxs H Q=>∃(p:Addr)(ns:List Int),xs=[.ref p]/\SqL K H p (ns.map V.int)/\0<ns.length/\∀m,m∈ns->(∀y∈ns,y<=m)->Q (.int m) H
theorem QnE(hc:X.calm=true):CallR X (.builtin "max") (QwM X.K):=by
 intro pins s σ H xs us Q I r h;obtain⟨p,ns,rfl,hp,hn,q⟩:=h;obtain⟨u,rfl,ru⟩:=vals1 r;cases ru;obtain⟨its,rv,pl,hz⟩:=I.list hp;have hi:Qa9 its ns:=intsAre_of rv;obtain⟨ys,hx⟩:=hi.allInts.items;have hl':s.heap.IsList p (intItems ys):=hx ▸ pl.isList;have hsz:ys.size=ns.length:=by
  have h1:its.toArray.size=(intItems ys).size:=by rw[hx]
  rw[Ql,hi.length] at h1;simp[intItems] at h1;omega
 have num:∀j m,ns[j]? = some m->numAt ys j=m:=λj m e=>by
  obtain⟨w,hw,rw'⟩:=rv.get (i:=j) (x:=V.int m) (by rw[Qv,e];rfl);have h2:(intItems ys)[j]? = some w:=by rw[<- hx,Qk4];exact hw
  unfold intItems at h2;rw[Array.getElem?_map] at h2;obtain⟨y,hy,ey⟩:=Zf.mp h2;unfold numAt;rw[hy];subst ey;obtain⟨t,et⟩:=rw';cases et;rfl
 refine max_intList (I.ok.hd hc) hl' (by omega) λv h' tk hv hk=>?_
 rw[<- hx] at hv;rw[Qk4] at hv;have ab:=argBest_gt (numAt ys) (ys.size - 1);generalize argBest (λi j=>decide (numAt ys i > numAt ys j)) (ys.size - 1)=b at *;obtain⟨x,hx2,rx⟩:∃x,(ns.map V.int)[b]? = some x/\RelV x v:=by
  have hlen:=rv.length;have hlt:=(Jd.mp hv).1;cases e:(ns.map V.int)[b]? with
  |none=>
   have:=List.getElem?_eq_none_iff.mp e
   omega
  |some x=>
   obtain⟨w,hw,rw'⟩:=rv.get e;rw[hw] at hv;cases hv;exact⟨x,rfl,rw'⟩
 rw[Qv] at hx2;obtain⟨m,hm,rfl⟩:=Zf.mp hx2;refine⟨.int m,H,I.kept hk,rx,q m (Ja hm) λy hy=>?_⟩;obtain⟨j,hj⟩:=JK.mp hy;have hjl:=(Jd.mp hj).1;have:=ab.2 j (by omega);rw[num b m hm,num j y hj] at this;exact this
end
end L2
namespace Dl
open L2 _root_.Rd Rk
@[irreducible] def Qp0:List Qa->(Qa->Prop)->Prop
 |[.list ds],Q=>∃ns,QaY ds=some ns/\0<ns.length/\∀m,m∈ns->(∀y∈ns,y<=m)->Q (.int m)
 |_,_=>False
theorem Qvr{K:PySem.W.Frag}:Qbs (QwM K) Qp0:=λA P H vs ds R Q ln dm q h k=>by
 unfold Qp0 at h;split at h
 ·obtain⟨v,rfl,hv⟩:=pd1 q;obtain⟨bs,hb,h0,hR⟩:=h;rw[Qdw hb] at hv;obtain⟨l,xs,rfl,e,qq⟩:=hv.list;rw[Qaz qq] at e;exact⟨l,bs,rfl,SqL.of e,h0,λm h1 h2=>k _ (hR m h1 h2) _ H (Same.refl H) (.int _) Yg⟩
 ·exact h.elim
theorem QuT{ns:List Int}{Q:Qa->Prop}(h:0<ns.length)(k:∀m,m∈ns->(∀y∈ns,y<=m)->Q (.int m)):Qp0 [.list (ns.map Qi)] Q:=by
 unfold Qp0;exact⟨ns,ints_map ns,h,k⟩
end Dl
namespace Rk
open L2 _root_.Rd Dl Rt
def wo(cs:List (Int×Int))(c:Int×Int):List (Int×Int):=cs.filter λp => !decide (p=c)
theorem Qv4(cs:List (Int×Int))(c:Int×Int)(r:Int):QdJ (wo cs c) r=wo (QdJ cs r) c:=by
 unfold QdJ wo;rw[Ym,Ym];refine Qaq λp _=>?_
 rw[QiV]
theorem Qx4{cells L:List (Int×Int)}{c:Int×Int}(h:c∈L):(Qfb cells L).filter (λM => !decide (c∈M))=[]:=Yl.mpr λM hM=>by
 obtain⟨d,_,_,rfl⟩:=Qay.mp hM;simp[h]
theorem Qu9{L:List (Int×Int)}{c:Int×Int}(h:c∉L):∀cells:List (Int×Int),(Qfb cells L).filter (λM => !decide (c∈M))=Qfb (wo cells c) L:=λcells=>by
 unfold Qfb wo;rw[QvL,Ym,Ym]
 congr 1
 refine Qaq λd _=>?_
 show(!decide (c∈L++[d]) && !decide (d.2∈L.map (·.2)))=(!decide (d.2∈L.map (·.2)) && !decide (d=c));have e:decide (c∈L++[d])=decide (d=c):=decide_eq_decide.mpr ⟨λz=>by
  rcases Jf.mp z with z | z
  ·exact absurd z h
  ·exact(Qx.mp z).symm,λz=>QB _ (Qx.mpr z.symm)⟩
 rw[e,QiV]
theorem Qcz{α β:Type}(p:α->Bool)(f:α->List β):∀xs:List α,(xs.filter p).flatMap f=xs.flatMap λx=>if p x=true then f x else[]
 |[]=>rfl
 |x::xs=>by
  by_cases z:p x=true
  ·rw[Q7 z,JA,JA,if_pos z,Qcz p f xs]
  ·rw[Q8 z,JA,if_neg z,Qcz p f xs];rfl
theorem QeM{α β:Type}(p:β->Bool)(f:α->List β):∀xs:List α,(xs.flatMap f).filter p=xs.flatMap λx=>(f x).filter p
 |[]=>rfl
 |x::xs=>by rw[JA,Yn,QeM p f xs,JA]
theorem Qdz{α β:Type}{f g:α->List β}:∀{xs:List α},(∀x∈xs,f x=g x)->xs.flatMap f=xs.flatMap g
 |[],_=>rfl
 |x::xs,h=>by rw[JA,JA,h x (.head _),Qdz λy hy=>h y (.tail _ hy)]
theorem QlF(cs:List (Int×Int))(c:Int×Int):∀i,Qbg (wo cs c) i=(Qbg cs i).filter λL => !decide (c∈L)
 |0=>rfl
 |i+1=>by
  show Qbg (wo cs c) i++(Qbg (wo cs c) i).flatMap (Qfb (QdJ (wo cs c) i))=(Qbg cs i++(Qbg cs i).flatMap (Qfb (QdJ cs i))).filter _;rw[Yn,QlF cs c i,QeM,Qcz,Qv4]
  congr 1
  refine Qdz λL _=>?_
  by_cases z:c∈L
  ·rw[Qx4 z,if_neg (by simpa using z)]
  ·rw[Qu9 z,if_pos (by simpa using z)]
theorem QsB(cs:List (Int×Int))(c:Int×Int)(h k:Nat):QvN (wo cs c) h k=(((Qbg cs h).countP λL=>(L.length == k) && !decide (c∈L):Nat):Int):=by
 unfold QvN;rw[QlF,List.countP_filter]
theorem Qrm{α:Type}{p:α->Bool}{xs:List α}:((xs.countP p:Nat):Int)=0↔∀x∈xs,p x=false:=by
 rw[show((xs.countP p:Nat):Int)=0↔xs.countP p=0 by omega,Qof];constructor
 ·intro h x hx;cases e:p x with
  |false=>rfl
  |true=>exact absurd e (h x hx)
 ·intro h x hx e;rw[h x hx] at e;cases e
theorem QjY{α:Type}{p q:α->Bool}:∀{xs:List α},(((xs.countP λx=>p x&&q x:Nat):Int)=((xs.countP p:Nat):Int))↔∀x∈xs,p x=true->q x=true
 |[]=>⟨λ_ x hx=>(nomatch hx),λ_=>rfl⟩
 |a::xs=>by
  have ih:=QjY (p:=p) (q:=q) (xs:=xs);have le:xs.countP (λx=>p x&&q x)<=xs.countP p:=Qk6 λx _ hx=>(QR.mp hx).1
  by_cases z:p a=true
  ·by_cases y:q a=true
   ·rw[Qaf (by rw[z,y];rfl),Qaf z];constructor
    ·intro h x hx hp;rcases Qy.mp hx with e | e
     ·rw[e];exact y
     ·exact ih.mp (by omega) x e hp
    ·intro h;have:=ih.mpr λx hx=>h x (.tail _ hx)
     omega
   ·rw[Qag (by rw[z];simpa using y),Qaf z];constructor
    ·intro h;omega
    ·intro h;exact absurd (h a (.head _) z) y
  ·rw[Qag (by simp[z]),Qag z];constructor
   ·intro h x hx hp;rcases Qy.mp hx with e | e
    ·rw[e] at hp;exact absurd hp z
    ·exact ih.mp h x e hp
   ·intro h;exact ih.mpr λx hx=>h x (.tail _ hx)
def Great(cs:List (Int×Int))(h w m:Nat):Prop:=m<=min h w/\0<Wc cs h h 0 m/\∀k,k<=min h w->0<Wc cs h h 0 k->k<=m
def inAll(cs:List (Int×Int))(h m:Nat):List (Int×Int):=cs.filter λc=>decide (Wc (wo cs c) h h 0 m=0)
def QjH(cs:List (Int×Int))(h m:Nat):List (Int×Int):=cs.filter λc=>decide (Wc (wo cs c) h h 0 m=Wc cs h h 0 m)
def QzM(cs:List (Int×Int))(h m:Nat):Qa:=.tuple [.tuple ((inAll cs h m).map pairD),.tuple ((QjH cs h m).map pairD)]
def Bds(h w:Nat)(cs:List (Int×Int)):Prop:=h<=6/\w<=6/\∀p∈cs,0<=p.1/\p.1<h/\0<=p.2/\p.2<w
def Qtw:DF:=λargs R _=>∃(h w:Nat)(cs:List (Int×Int))(p:Int×Int),args=[.v (bdD h w cs),.v (pairD p)]/\Bds h w cs/\p∈cs/\R .none
def Qd3:DF:=λargs R _=>∃(h w:Nat)(cs:List (Int×Int))(p:Int×Int),args=[.v (bdD h w cs),.v (pairD p)]/\Bds h w cs/\p∈cs/\R (bdD h w (wo cs p))
def QjL:DF:=λargs R _=>∃(h w:Nat)(cs:List (Int×Int)),args=[.v (bdD h w cs)]/\Bds h w cs/\∀m,Great cs h w m->R (.int (m:Int))
def Qte:DF:=λargs R _=>∃(h w:Nat)(cs:List (Int×Int)),args=[.v (bdD h w cs)]/\Bds h w cs/\∀m,Great cs h w m->R (QzM cs h m)
theorem Bds.wo{h w:Nat}{cs:List (Int×Int)}(b:Bds h w cs)(c:Int×Int):Bds h w (wo cs c):=⟨b.1,b.2.1,λp hp=>b.2.2 p (Qj.mp hp).1⟩
theorem Bds.col{h w:Nat}{cs:List (Int×Int)}(b:Bds h w cs):∀p∈cs,0<=p.2/\p.2<(w:Int):=λp hp=>(b.2.2 p hp).2.2
theorem Bds.nn{h w:Nat}{cs:List (Int×Int)}(b:Bds h w cs):∀p∈cs,0<=p.2:=λp hp=>(b.2.2 p hp).2.2.1
theorem QsL(cs:List (Int×Int))(h:Nat):∀i t,Wc cs h i t 0=1
 |0,_=>rfl
 |i+1,t=>by
  show Wc cs h i t 0+(if 0=0 then 0 else _)=1;rw[if_pos rfl,QsL cs h i t];rfl
theorem QnV{cs:List (Int×Int)}{h w m:Nat}(b:Bds h w cs)(c:Int×Int):Wc (wo cs c) h h 0 m=0↔∀L∈Qbg cs h,L.length=m->c∈L:=by
 rw[<- Qef (b.wo c).nn,QsB,Qrm];constructor
 ·intro q L hL e;have:=q L hL;rw[show(L.length == m)=true by simpa using e,YH] at this
  simpa using this
 ·intro q L hL;by_cases z:L.length=m
  ·have:=q L hL z;simp[this]
  ·simp[z]
theorem none_iff{cs:List (Int×Int)}{h w m:Nat}(b:Bds h w cs)(c:Int×Int):Wc (wo cs c) h h 0 m=Wc cs h h 0 m↔∀L∈Qbg cs h,L.length=m->c∉L:=by
 rw[<- Qef (b.wo c).nn,<- Qef b.nn,QsB];unfold QvN;rw[QjY];constructor
 ·intro q L hL e
  simpa using q L hL (by simpa using e)
 ·intro q L hL e
  simpa using q L hL (by simpa using e)
def Qsl:List (Int×Int)->List (Int×Int)->Prop
 |[],[]=>False
 |[],_::_=>True
 |_::_,[]=>False
 |p::L,q::M=>plt p q∨(p=q/\Qsl L M)
theorem QmY:∀L:List (Int×Int),¬Qsl L L
 |[],h=>h
 |p::L,h=>by
  rcases h with z | z
  ·rcases z with z | z<;>omega
  ·exact QmY L z.2
theorem QmZ:∀{S T:List (Int×Int)}(c d:Int×Int),S.length=T.length->Qsl S T->Qsl (S++[c]) (T++[d])
 |[],[],_,_,_,h=>h.elim
 |[],_::_,_,_,e,_=>by cases e
 |_::_,[],_,_,e,_=>by cases e
 |p::S,q::T,c,d,e,h=>by
  rcases h with z | z
  ·exact .inl z
  ·exact .inr ⟨z.1,QmZ c d (by simpa using e) z.2⟩
theorem Qjx:∀(S:List (Int×Int)){c d:Int×Int},plt c d->Qsl (S++[c]) (S++[d])
 |[],c,d,h=>.inl h
 |p::S,c,d,h=>.inr ⟨rfl,Qjx S h⟩
def rbI(S:List (Int×Int)):Int:=match S.getLast? with
 |some c=>c.1+1
 |none=>0
def fol(cs S:List (Int×Int)):List (Int×Int):=cs.filter λc=>decide (rbI S<=c.1) && !decide (c.2∈S.map (·.2))
def evS(cs:List (Int×Int)):Nat->List (List (Int×Int))
 |0=>[[]]
 |k+1=>(evS cs k).flatMap λS=>(fol cs S).map λc=>S++[c]
structure Std (cs L:List (Int×Int)):Prop where
 sub:∀p∈L,p∈cs
 rows:L.Pairwise λp q=>p.1<q.1
 cols:(L.map (·.2)).Nodup
theorem Std.nil{cs:List (Int×Int)}:Std cs []:=⟨λp hp=>(nomatch hp),.nil,.nil⟩
theorem Std.init{cs S:List (Int×Int)}{c:Int×Int}(h:Std cs (S++[c])):Std cs S/\c∈cs/\(∀p∈S,p.1<c.1)/\c.2∉S.map (·.2):=by
 have r:=YM.mp h.rows;have k:=h.cols;rw[Jr] at k;have k:=JP.mp k;refine⟨⟨λp hp=>h.sub p (ZB _ hp),r.1,k.1⟩,h.sub c (by simp),λp hp=>r.2.2 p hp c (by simp),λz=>?_⟩;exact k.2.2 c.2 z c.2 (by simp) rfl
theorem Std.snoc{cs S:List (Int×Int)}{c:Int×Int}(h:Std cs S)(h1:c∈cs)(h2:∀p∈S,p.1<c.1)(h3:c.2∉S.map (·.2)):Std cs (S++[c]):=by
 refine⟨λp hp=>?_,YM.mpr ⟨h.rows,by simp,λp hp q hq=>?_⟩,?_⟩
 ·rcases Jf.mp hp with z | z
  ·exact h.sub p z
  ·rw[Qx.mp z];exact h1
 ·rw[Qx.mp hq];exact h2 p hp
 ·rw[Jr];refine JP.mpr ⟨h.cols,by simp,λa ha b hb e=>?_⟩;have hb:b=c.2:=by simpa using hb
  rw[e,hb] at ha;exact h3 ha
theorem QjB{S:List (Int×Int)}(h:S.Pairwise λp q=>p.1<q.1){c:Int×Int}:(∀p∈S,p.1<c.1)∨¬rbI S<=c.1∨(S=[] ):=by
 by_cases z:S=[]
 ·exact .inr (.inr z)
 ·by_cases y:rbI S<=c.1
  ·refine .inl λp hp=>?_
   obtain⟨T,d,rfl⟩:∃T d,S=T++[d]:=⟨S.dropLast,S.getLast z,(QaS z).symm⟩
   have y:d.1+1<=c.1:=by unfold rbI at y;rw[Qll] at y;simpa using y
   rcases Jf.mp hp with q | q
   ·have:=(YM.mp h).2.2 p q d (by simp);omega
   ·rw[Qx.mp q];omega
  ·exact .inr (.inl y)
theorem QzS{S:List (Int×Int)}{c:Int×Int}(h:∀p∈S,p.1<c.1)(h0:0<=c.1):rbI S<=c.1:=by
 unfold rbI;cases e:S.getLast? with
 |none=>exact h0
 |some d=>
  have:=h d (Qlj e);show d.1+1<=c.1;omega
theorem QbI{cs:List (Int×Int)}(h0:∀p∈cs,0<=p.1):∀(k:Nat)(L:List (Int×Int)),L∈evS cs k↔Std cs L/\L.length=k
 |0,L=>by
  constructor
  ·intro h;rw[Qx.mp h];exact⟨.nil,rfl⟩
  ·rintro⟨_,h⟩;cases L with
   |nil=>exact .head _
   |cons a b=>cases h
 |k+1,L=>by
  show L∈(evS cs k).flatMap (λS=>(fol cs S).map λc=>S++[c])↔_;rw[JV];constructor
  ·rintro⟨S,hS,hL⟩;obtain⟨c,hc,rfl⟩:=Qh.mp hL;obtain⟨st,hl⟩:=(QbI h0 k S).mp hS;have hc:=Qj.mp hc;have hc2:=QR.mp hc.2;refine⟨st.snoc hc.1 ?_ (by simpa using hc2.2),by rw[Qu,hl];rfl⟩;rcases QjB st.rows (c:=c) with z | z | z
   ·exact z
   ·exact absurd (of_decide_eq_true hc2.1) z
   ·rw[z];exact λp hp=>(nomatch hp)
  ·rintro⟨st,hl⟩;have hne:L≠[]:=λe=>by rw[e] at hl;cases hl
   obtain⟨S,c,rfl⟩:∃T d,L=T++[d]:=⟨L.dropLast,L.getLast hne,(QaS hne).symm⟩
   obtain⟨s1,s2,s3,s4⟩:=st.init;refine⟨S,(QbI h0 k S).mpr ⟨s1,by rw[Qu] at hl;exact QhU hl⟩,Qh.mpr ⟨c,Qj.mpr ⟨s2,?_⟩,rfl⟩⟩;rw[JB];exact⟨decide_eq_true (QzS s3 (h0 c s2)),by simpa using s4⟩
theorem Qhx{cs:List (Int×Int)}(hp:cs.Pairwise plt)(h0:∀p∈cs,0<=p.1):∀k,(evS cs k).Pairwise Qsl
 |0=>QiS _ _
 |k+1=>by
  show((evS cs k).flatMap λS=>(fol cs S).map λc=>S++[c]).Pairwise Qsl;rw[Qk3];refine⟨λS _=>?_,?_⟩
  ·exact Jb.mpr ((Ju _ hp).imp λh=>Qjx S h)
  ·refine ZO (λ{S T} hS hT h=>?_) (Qhx hp h0 k);intro x hx y hy;obtain⟨c,_,rfl⟩:=Qh.mp hx;obtain⟨d,_,rfl⟩:=Qh.mp hy;exact QmZ c d (by rw[((QbI h0 k S).mp hS).2,((QbI h0 k T).mp hT).2]) h
theorem Qcw{cs:List (Int×Int)}(h0:∀p∈cs,0<=p.1):∀(i:Nat)(L:List (Int×Int)),L∈Qbg cs i↔Std cs L/\∀p∈L,p.1<(i:Int)
 |0,L=>by
  constructor
  ·intro h;rw[Qx.mp h];exact⟨.nil,λp hp=>(nomatch hp)⟩
  ·rintro⟨s,h⟩;cases L with
   |nil=>exact .head _
   |cons a b=>
    have h1:=h a (.head _);have h2:=h0 a (s.sub a (.head _));exact absurd h1 (by show ¬a.1<0;omega)
 |i+1,L=>by
  show L∈Qbg cs i++(Qbg cs i).flatMap (Qfb (QdJ cs i))↔_;rw[Jf,JV];constructor
  ·rintro(h | ⟨S,hS,hL⟩)
   ·obtain⟨a,b⟩:=(Qcw h0 i L).mp h;exact⟨a,λp hp=>by have:=b p hp;omega⟩
   ·obtain⟨c,hc,hn,rfl⟩:=Qay.mp hL;obtain⟨a,b⟩:=(Qcw h0 i S).mp hS;have hc:=Qj.mp hc;have hr:c.1=(i:Int):=of_decide_eq_true hc.2;refine⟨a.snoc hc.1 (λp hp=>by rw[hr];exact b p hp) hn,λp hp=>?_⟩;rcases Jf.mp hp with z | z
    ·have:=b p z;omega
    ·rw[Qx.mp z,hr];omega
  ·rintro⟨s,h⟩;by_cases z:L=[]
   ·left
    rw[z];exact QlI cs i
   ·obtain⟨S,c,rfl⟩:∃T d,L=T++[d]:=⟨L.dropLast,L.getLast z,(QaS z).symm⟩
    obtain⟨s1,s2,s3,s4⟩:=s.init;have hc:=h c (by simp);by_cases y:c.1=(i:Int)
    ·right
     exact⟨S,(Qcw h0 i S).mpr ⟨s1,λp hp=>by have:=s3 p hp;omega⟩,Qay.mpr ⟨c,Qj.mpr ⟨s2,decide_eq_true y⟩,s4,rfl⟩⟩
    ·left
     refine(Qcw h0 i _).mpr ⟨s,λp hp=>?_⟩;rcases Jf.mp hp with q | q
     ·have:=s3 p q;omega
     ·rw[Qx.mp q];omega
theorem QrR{cs:List (Int×Int)}(nd:cs.Nodup)(h0:∀p∈cs,0<=p.1):∀i,(Qbg cs i).Nodup
 |0=>by show[([]:List (Int×Int))].Nodup;simp
 |i+1=>by
  have ih:=QrR nd h0 i;show(Qbg cs i++(Qbg cs i).flatMap (Qfb (QdJ cs i))).Nodup;refine JP.mpr ⟨ih,?_,λL hL M hM e=>?_⟩
  ·show List.Pairwise _ _;rw[Qk3];refine⟨λS _=>?_,ih.imp λ{S T} hne x hx y hy e=>?_⟩
   ·unfold Qfb;refine Jb.mpr ((Ju _ (Ju _ nd)).imp λ{c d} hne e=>hne ?_);have:=List.append_inj_right' e rfl
    simpa using this
   ·obtain⟨c,_,_,rfl⟩:=Qay.mp hx;obtain⟨d,_,_,rfl⟩:=Qay.mp hy;exact hne (List.append_inj_left' e rfl)
  ·obtain⟨S,hS,hM⟩:=JV.mp hM;obtain⟨c,hc,_,rfl⟩:=Qay.mp hM;have hr:c.1=(i:Int):=of_decide_eq_true (Qj.mp hc).2;have:=((Qcw h0 i L).mp hL).2 c (by rw[e];simp);omega
end Rk
namespace Dl
open L2 _root_.Rd Rk
section
variable{X:Cx}{E:XK}{st:ZY}{we:DE}
end
end Dl
namespace Rk
open L2 _root_.Rd Dl Rt
structure GB (h w:Nat) (cs:List (Int×Int)):Prop where
 bds:Bds h w cs
 srt:cs.Pairwise plt
 few:(Qbg cs h).length<=200000
theorem GB.r0{h w:Nat}{cs:List (Int×Int)}(g:GB h w cs):∀p∈cs,0<=p.1:=λp hp=>(g.bds.2.2 p hp).1
theorem GB.rh{h w:Nat}{cs:List (Int×Int)}(g:GB h w cs):∀p∈cs,p.1<(h:Int):=λp hp=>(g.bds.2.2 p hp).2.1
theorem Qix{h w:Nat}{cs:List (Int×Int)}(g:GB h w cs)(k:Nat):(evS cs k).Perm ((Qbg cs h).filter λL=>L.length == k):=by
 have nd:=QrR (g.srt.imp Qjl) g.r0 h;have s2:=Qhx g.srt g.r0 k;have n2:(evS cs k).Nodup:=Qzs (R:=Qsl) (S:=λa b=>a≠b) (λ{S T} z (e:S=T)=>QmY S (by rw[<- e] at z;exact z)) s2;refine(Zg n2 (Ju _ nd)).mpr λL=>?_
 rw[Qj,QbI g.r0,Qcw g.r0];constructor
 ·rintro⟨a,b⟩;exact⟨⟨a,λp hp=>g.rh p (a.sub p hp)⟩,by simpa using b⟩
 ·rintro⟨⟨a,_⟩,b⟩;exact⟨a,by simpa using b⟩
theorem Qx5{h w:Nat}{cs:List (Int×Int)}(g:GB h w cs)(k:Nat):((evS cs k).length:Int)=Wc cs h h 0 k:=by
 rw[<- Qef g.bds.nn];unfold QvN;rw[(Qix g k).length_eq,Yo]
def QoW:DF:=λargs R _=>∃S:List (Int×Int),args=[.v (stT S)]/\R (.int (rbI S))
def QAK:DF:=λargs R _=>∃(h w:Nat)(cs S:List (Int×Int)),args=[.v (bdD h w cs),.v (stT S)]/\R (.list ((fol cs S).map pairD))
theorem QuX{S:List (Int×Int)}{c:Int×Int}(h:S.getLast? = some c):atI (S.map pairD) (-1)=some (pairD c):=by
 obtain⟨xs,rfl⟩:=List.getLast?_eq_some_iff.mp h
 rw[Jr];exact Qru _ _
end Rk
namespace L2
section
variable{X:Cx}
end
end L2
namespace Dl
open L2 _root_.Rd Rk Rt
end Dl
namespace Rk
open L2 _root_.Rd Dl Rt
end Rk
namespace L2
open _root_.Rd
section
variable{X:Cx}
end
end L2
namespace Dl
open L2 _root_.Rd Rk Rt
section
variable{X:Cx}{E:XK}
end
end Dl
namespace Rk
open L2 _root_.Rd Dl Rt
def xts(cs:List (Int×Int)):Nat->List (Int×Int)->List (List (Int×Int))
 |0,S=>[S]
 |m+1,S=>(fol cs S).flatMap λc=>xts cs m (S++[c])
theorem Qsr(cs:List (Int×Int)):∀(m j:Nat),(evS cs j).flatMap (xts cs m)=evS cs (j+m)
 |0,j=>by
  show(evS cs j).flatMap (λS=>[S])=evS cs j;rw[List.flatMap_singleton']
 |m+1,j=>by
  have h:=Qsr cs m (j+1);rw[show j+1+m=j+(m+1) by omega] at h;rw[<- h];show(evS cs j).flatMap (λS=>(fol cs S).flatMap λc=>xts cs m (S++[c]))=((evS cs j).flatMap λS=>(fol cs S).map λc=>S++[c]).flatMap (xts cs m);rw[List.flatMap_assoc];refine Qdz λS _=>?_
  rw[QsW]
theorem Qva(cs:List (Int×Int))(k:Nat):xts cs k []=evS cs k:=by
 have h:=Qsr cs k 0;rw[Qlh] at h;rw[<- h];show _=[([]:List (Int×Int))].flatMap (xts cs k);simp
theorem Qn4(cs:List (Int×Int))(h:Nat):∀(i t:Nat),Wc cs h i t 0=1
 |0,_=>rfl
 |i+1,t=>by
  show Wc cs h i t 0+0=1;rw[Qn4 cs h i t];rfl
theorem QyB{h w:Nat}{cs:List (Int×Int)}(g:GB h w cs){T:List (Int×Int)}(hT:∀p∈T,p∈cs)(m:Nat):∀i,i<=h->Wc cs h i (mkL T) (m+1)=sumZ (λc=>Wc cs h (h - (c.1+1).toNat) (mkL (T++[c])) m) (cs.filter λc=>decide (((h - i:Nat):Int)<=c.1) && !decide (c.2∈T.map (·.2)))
 |0,_=>by
  have e:cs.filter (λc=>decide (((h - 0:Nat):Int)<=c.1) && !decide (c.2∈T.map (·.2)))=[]:=by
   rw[Yl];intro c hc;have:=g.rh c hc;rw[decide_eq_false (by omega)];exact Qm
  rw[e];rfl
 |i+1,hi=>by
  show Wc cs h i (mkL T) (m+1)+(if m+1=0 then 0 else Qog (Wc cs h i) (mkL T) (QkN cs (h - 1 - i)) (m+1 - 1))=_;rw[if_neg (by omega),Yu,QyB g hT m i (by omega),Z2,Z2];unfold QkN QdJ;rw[QcV,Z2,<- QbT];refine J3 λc hc=>?_
  have h0:=g.r0 c hc;have hh:=g.rh c hc;have em:=Qis (L:=T) (c:=c) (λp hp=>g.bds.nn p (hT p hp)) (g.bds.nn c hc);by_cases y:c.2∈T.map (·.2)
  ·have bt:(mkL T).testBit c.2.toNat=true:=by rw[QgC];exact decide_eq_true (em.mpr y)
   rw[decide_eq_true y,bt];simp
  ·have bn:(mkL T).testBit c.2.toNat=false:=by rw[QgC];exact decide_eq_false λq=>y (em.mp q)
   rw[decide_eq_false y,bn];simp only[Bool.not_false,QbS,decide_eq_true_eq,Zu,if_false];rw[Qec];by_cases z:c.1=((h - 1 - i:Nat):Int)
   ·rw[if_neg (by omega),if_pos z,if_pos (by omega),show h - (c.1+1).toNat=i by omega];omega
   ·rw[if_neg z,QcT];by_cases z2:((h - i:Nat):Int)<=c.1
    ·rw[if_pos z2,if_pos (by omega)]
    ·rw[if_neg z2,if_neg (by omega)]
theorem Qjz{α β:Type}(g:α->List β):∀xs:List α,((xs.flatMap g).length:Int)=sumZ (λx=>((g x).length:Int)) xs
 |[]=>rfl
 |x::xs=>by
  rw[JA,Qu];show _=((g x).length:Int)+sumZ _ xs;rw[<- Qjz g xs];omega
theorem Qtx(S:List (Int×Int))(c:Int×Int):rbI (S++[c])=c.1+1:=by
 unfold rbI;rw[Qll];rfl
theorem QwF{h w:Nat}{cs S:List (Int×Int)}(g:GB h w cs)(st:Std cs S):0<=rbI S/\rbI S<=h:=by
 unfold rbI;cases e:S.getLast? with
 |none=>exact⟨Qow _,by show(0:Int)<=h;omega⟩
 |some d=>
  have hd:=st.sub d (Qlj e);have a:=g.r0 d hd;have b:=g.rh d hd;exact⟨by show 0<=d.1+1;omega,by show d.1+1<=h;omega⟩
theorem Qgo{cs S:List (Int×Int)}{c:Int×Int}(st:Std cs S)(hc:c∈fol cs S):Std cs (S++[c]):=by
 have hc:=Qj.mp hc;have hc2:=QR.mp hc.2;refine st.snoc hc.1 ?_ (by simpa using hc2.2)
 rcases QjB st.rows (c:=c) with z | z | z
 ·exact z
 ·exact absurd (of_decide_eq_true hc2.1) z
 ·rw[z];exact λp hp=>(nomatch hp)
theorem Qlo{h w:Nat}{cs:List (Int×Int)}(g:GB h w cs):∀(m:Nat)(S:List (Int×Int)),Std cs S->((xts cs m S).length:Int)=Wc cs h (h - (rbI S).toNat) (mkL S) m
 |0,S,_=>by rw[Qn4];rfl
 |m+1,S,st=>by
  have rb:=QwF g st;show(((fol cs S).flatMap λc=>xts cs m (S++[c])).length:Int)=_;rw[Qjz,QyB g st.sub m _ (Nat.sub_le _ _)];have e:(((h - (h - (rbI S).toNat):Nat):Nat):Int)=rbI S:=by omega
  rw[e];refine J3 λc hc=>?_
  rw[Qlo g m (S++[c]) (Qgo st hc),Qtx]
theorem QyY{h w:Nat}(f:Nat->Nat->Bool)(h6:h<=6)(w6:w<=6):GB h w (cellsF h w f):=by
 refine⟨⟨h6,w6,λp hp=>Qbc hp⟩,pw_cellsF w f h,QU (Qi6 (λr=>Qig w h f r) h) ?_⟩;have c:(w+1)^h<=7^h:=Nat.pow_le_pow_left (by omega) _;have d:7^h<=7^6:=Z6 (by decide) h6;have e:(7:Nat)^6=117649:=rfl;omega
theorem QrS{h w:Nat}{cs L:List (Int×Int)}(g:GB h w cs)(st:Std cs L):Qoh h w cs (stT L)=true:=by
 refine Qth (λp hp=>g.bds.2.2 p hp) st.sub ?_ (st.rows.imp λz=>.inl z)
 show(decide (L.map (·.1)).Nodup&&decide (L.map (·.2)).Nodup)=true;rw[decide_eq_true st.cols,QbS];exact decide_eq_true (Jb.mpr (st.rows.imp λ{a b}(z:a.1<b.1)=>by show a.1≠b.1;omega))
theorem QfX{h w:Nat}{cs L:List (Int×Int)}(g:GB h w cs)(st:Std cs L):L.length<=min h w:=by
 have m:=(Qcw g.r0 h L).mpr ⟨st,λp hp=>g.rh p (st.sub p hp)⟩;have a:=Qen h L m;have b:=QlH g.bds.col m;omega
theorem Qi2(cs:List (Int×Int))(h w:Nat):∀(i j:Nat),j<=i->(Qi3 cs h w i)[j]? = some (.list (Qia h w (Wc cs h (i - j))))
 |0,0,_=>rfl
 |i+1,0,_=>rfl
 |i+1,j+1,hj=>by
  show(Qi3 cs h w i)[j]? = _;rw[Qi2 cs h w i j (by omega),show i+1 - (j+1)=i - j by omega]
theorem Qxm:∀t:Fin 64,∀c:Fin 6,(t:Nat).testBit c=false->(t:Nat) ||| 2^(c:Nat)=t+2^(c:Nat):=by decide +kernel
theorem Qsi{w:Nat}(w6:w<=6):∀{T S:List (Int×Int)},(∀p∈T++S,0<=p.2/\p.2<w)->((T++S).map (·.2)).Nodup->mkL T<2^w->((mkL T:Nat):Int)+(S.map λp=>(1*2^p.2.toNat:Int)).sum=((mkL (T++S):Nat):Int)/\mkL (T++S)<2^w
 |T,[],_,_,h=>by rw[Zo];exact⟨by show _+0=_;omega,h⟩
 |T,c::S,hb,nd,h=>by
  have hc:=hb c (by simp);have p64:2^w<=2^6:=Z6 (by decide) w6;have e64:(2:Nat)^6=64:=rfl;have nt:(mkL T).testBit c.2.toNat=false:=by
   rw[QgC];refine decide_eq_false λq=>?_
   have:=(Qis (L:=T) (c:=c) (λp hp=>(hb p (ZB _ hp)).1) hc.1).mp q;rw[Jr,Js] at nd;exact(JP.mp nd).2.2 _ this c.2 (.head _) rfl
  have eo:mkL T ||| 2^c.2.toNat=mkL T+2^c.2.toNat:=Qxm ⟨mkL T,by omega⟩ ⟨c.2.toNat,by omega⟩ nt;have lt:mkL (T++[c])<2^w:=by rw[Qec];exact Qxk h (by omega)
  have e1:T++c::S=(T++[c])++S:=by simp
  have ih:=Qsi w6 (T:=T++[c]) (S:=S) (by rw[<- e1];exact hb) (by rw[<- e1];exact nd) lt;rw[e1];refine⟨?_,ih.2⟩;rw[<- ih.1,Js,YG,Qec,eo];have:((2^c.2.toNat:Nat):Int)=(2:Int)^c.2.toNat:=by simp
  rw[Int.one_mul,<- this];omega
def Qs3:DF:=λargs R _=>∃(h w:Nat)(cs S:List (Int×Int))(k:Nat),args=[.v (.list (Qi3 cs h w h)),.v (stT S),.v (.int k)]/\GB h w cs/\Std cs S/\k<=h/\R (.int ((xts cs k S).length:Nat))
def QiF:DF:=λargs R _=>∃(h w:Nat)(cs S:List (Int×Int))(m n:Nat),args=[.v (bdD h w cs),.v (.list (Qi3 cs h w h)),.v (stT S),.v (.int m),.v (.int n)]/\GB h w cs/\Std cs S/\m<h/\n<(xts cs (m+1) S).length/\∀c (n':Nat),c∈fol cs S->n'<(xts cs m (S++[c])).length->(xts cs (m+1) S)[n]? = (xts cs m (S++[c]))[n']? -> R (.tuple [pairD c,.int n'])
theorem QcA{h w:Nat}{cs:List (Int×Int)}(g:GB h w cs)(k:Nat):Wc cs h h 0 k=((evS cs k).length:Int):=(Qx5 g k).symm
def colK(cs:List (Int×Int))(rows:List Int):List Nat:=(Qt 6).filter λx=>cs.any λp => !decide (p.1∈rows)&&decide (p.2=(x:Int))
theorem Qb0{cs:List (Int×Int)}{rows:List Int}(h6:∀p∈cs,0<=p.2/\p.2<6)(x:Nat):x∈colK cs rows↔∃p∈cs,p.1∉rows/\p.2=(x:Int):=by
 unfold colK;rw[Qj,Q0,QaL];constructor
 ·rintro⟨_,p,hp,h⟩;have h:=QR.mp h;exact⟨p,hp,by simpa using h.1,of_decide_eq_true h.2⟩
 ·rintro⟨p,hp,h1,h2⟩;have:=h6 p hp;exact⟨by omega,p,hp,by simp[h1,h2]⟩
theorem Qgu(cs:List (Int×Int))(rows:List Int):(colK cs rows).Pairwise (· < ·):=Ju _ (Qan)
theorem Qrl{cs:List (Int×Int)}{rows:List Int}(h6:∀p∈cs,0<=p.2/\p.2<6){ms:List Nat}(pw:ms.Pairwise (· < ·))(h:∀x:Nat,x∈ms↔∃p∈cs,p.1∉rows/\p.2=(x:Int)):ms=colK cs rows:=by
 have nd1:ms.Nodup:=pw.imp λ{a b}(z:a<b)=>by omega
 have nd2:(colK cs rows).Nodup:=(Qgu cs rows).imp λ{a b}(z:a<b)=>by omega
 exact ZT (le:=λa b=>a<b) (λa b _ _ h1 h2=>by omega) pw (Qgu cs rows) ((Zg nd1 nd2).mpr λx=>by rw[h x,Qb0 h6 x])
def lotsN:Nat->List (List Int)
 |0=>[[]]
 |i+1=>lotsN i++(lotsN i).map λr=>r++[(i:Int)]
theorem Qc2:∀n,(lotsN n).length=2^n
 |0=>rfl
 |n+1=>by show(lotsN n++(lotsN n).map λr=>r++[(n:Int)]).length=_;rw[Qu,Qd,Qc2 n,Nat.pow_succ];omega
theorem Qc3:∀{n:Nat}{r:List Int},r∈lotsN n->r.Pairwise (· < ·)/\(∀x∈r,0<=x/\x<(n:Int))/\r.length<=n
 |0,r,h=>by rw[Qx.mp h];exact⟨.nil,λx hx=>(nomatch hx),Qg _⟩
 |n+1,r,h=>by
  rcases Jf.mp (show r∈lotsN n++(lotsN n).map λr=>r++[(n:Int)] from h) with h | h
  ·obtain⟨a,b,c⟩:=Qc3 h;exact⟨a,λx hx=>by have:=b x hx;omega,by omega⟩
  ·obtain⟨s,hs,rfl⟩:=Qh.mp h;obtain⟨a,b,c⟩:=Qc3 hs;refine⟨YM.mpr ⟨a,QiS _ _,λx hx y hy=>?_⟩,λx hx=>?_,by rw[Qu];show _+1<=_;omega⟩
   ·rw[Qx.mp hy];have:=b x hx;omega
   ·rcases Jf.mp hx with z | z
    ·have:=b x z;omega
    ·rw[Qx.mp z];omega
theorem QeD(f:Nat->Bool):∀n:Nat,((Qt n).filter f).map (λ(x:Nat)=>(x:Int))∈lotsN n
 |0=>by show[]∈[[]];simp
 |n+1=>by
  have ih:=QeD f n;rw[QcG,Yn];refine Jf.mpr ?_
  cases h:f n with
  |false=>rw[Q8 (by rw[h];exact Qm),QvK,Zo];exact .inl ih
  |true=>rw[Q7 h,QvK,Jr];exact .inr (Qh.mpr ⟨_,ih,rfl⟩)
def QbM(cs:List (Int×Int))(r:List Int):Nat:=r.length+(colK cs r).length
def Qhs(h w:Nat):List Ko.Vx:=((Qt h).map λ(x:Nat)=>(true,(x:Int)))++(Qt w).map λ(x:Nat)=>(false,(x:Int))
theorem Qv8(b:Bool)(n:Nat):((Qt n).map λ(x:Nat)=>((b,(x:Int)):Ko.Vx)).Nodup:=by
 refine Jb.mpr (JN.imp ?_);intro x y hne e;have e:((b,(x:Int)):Ko.Vx)=(b,(y:Int)):=e;have e:(x:Int)=(y:Int):=congrArg Prod.snd e;omega
theorem Qhr(h w:Nat):(Qhs h w).Nodup:=by
 refine JP.mpr ⟨Qv8 true h,Qv8 false w,?_⟩;intro a ha b hb e;obtain⟨x,_,rfl⟩:=Qh.mp ha;obtain⟨y,_,rfl⟩:=Qh.mp hb;cases(JZ e).1
theorem QjF{h w:Nat}{cs:List (Int×Int)}(g:GB h w cs){p:Int×Int}(hp:p∈cs):((true,p.1):Ko.Vx)∈Qhs h w/\((false,p.2):Ko.Vx)∈Qhs h w:=by
 have b:=g.bds.2.2 p hp;exact⟨ZB _ (Qh.mpr ⟨p.1.toNat,Q0.mpr (by omega),by rw[show((p.1.toNat:Nat):Int)=p.1 by omega]⟩),QB _ (Qh.mpr ⟨p.2.toNat,Q0.mpr (by omega),by rw[show((p.2.toNat:Nat):Int)=p.2 by omega]⟩)⟩
theorem QlK{cs L:List (Int×Int)}(st:Std cs L):Ko.Apart L:=by
 have c:=Jb.mp st.cols;exact(QcH.mpr ⟨st.rows,c⟩).imp λ{a b} z=>⟨by have:a.1<b.1:=z.1;omega,z.2⟩
theorem QsA{h w:Nat}{cs:List (Int×Int)}(g:GB h w cs):∀p∈cs,0<=p.2/\p.2<6:=λp hp=>by
 have:=g.bds.2.2 p hp;have:=g.bds.2.1;omega
theorem Qi7{h w:Nat}{cs L:List (Int×Int)}(g:GB h w cs)(st:Std cs L){r:List Int}(hr:r∈lotsN h):L.length<=QbM cs r:=by
 let f:Ko.Vx->Bool:=λv=>if v.1=true then decide (v.2∈r) else decide (v.2∈(colK cs r).map λ(x:Nat)=>(x:Int))
 have cov:Ko.Cov L f:=λp hp=>by
  by_cases z:p.1∈r
  ·exact .inl (by show decide (p.1∈r)=true;exact decide_eq_true z)
  ·refine .inr ?_
   show decide (p.2∈(colK cs r).map λ(x:Nat)=>(x:Int))=true;have c:=QsA g p (st.sub p hp);exact decide_eq_true (Qh.mpr ⟨p.2.toNat,(Qb0 (QsA g) _).mpr ⟨p,st.sub p hp,z,by omega⟩,by omega⟩)
 have a:=Ko.weak (V:=Qhs h w) (QlK st) (λp hp=>QjF g (st.sub p hp)) cov;rw[Ko.Qgv] at a;have b:((Qhs h w).filter f).length<=((r.map λx=>((true,x):Ko.Vx))++(colK cs r).map λ(x:Nat)=>((false,(x:Int)):Ko.Vx)).length:=Ko.len_sub (Ju _ (Qhr h w)) λv hv=>by
  have hv:=(Qj.mp hv).2;obtain⟨b,i⟩:=v;cases b with
  |true=>exact ZB _ (Qh.mpr ⟨i,of_decide_eq_true (show decide (i∈r)=true from hv),rfl⟩)
  |false=>
   obtain⟨x,hx,e⟩:=Qh.mp (of_decide_eq_true (show decide (i∈(colK cs r).map λ(x:Nat)=>(x:Int))=true from hv));exact QB _ (Qh.mpr ⟨x,hx,by rw[e]⟩)
 rw[Qu,Qd,Qd] at b;unfold QbM;omega
theorem Qrj{h w:Nat}{cs:List (Int×Int)}(g:GB h w cs){t:Nat}(ht:∀r∈lotsN h,t<=QbM cs r):∃L,Std cs L/\t<=L.length:=by
 obtain⟨M,sb,ap,l⟩:=Ko.QAq (Qhr h w) cs.length cs rfl (g.srt.imp Qjl) t λf hf=>by
  let r:List Int:=((Qt h).filter λ(x:Nat)=>f (true,(x:Int))).map λ(x:Nat)=>(x:Int)
  refine QU (ht r (QeD (λ(x:Nat)=>f (true,(x:Int))) h)) ?_
  rw[Ko.Qgv];have e:QbM cs r=((r.map λx=>((true,x):Ko.Vx))++(colK cs r).map λ(x:Nat)=>((false,(x:Int)):Ko.Vx)).length:=by
   show r.length+(colK cs r).length=_;rw[Qu];have a1:=Qd (as:=r) (λx=>((true,x):Ko.Vx));have a2:=Qd (as:=colK cs r) (λ(x:Nat)=>((false,(x:Int)):Ko.Vx));omega
  rw[e];have rpw:r.Nodup:=by
   refine Jb.mpr ((Ju _ JN).imp ?_);intro a b hne e;have e:(a:Int)=(b:Int):=e;omega
  refine Ko.len_sub (JP.mpr ⟨Jb.mpr (rpw.imp λ{a b} hne e=>hne (JZ e).2),Jb.mpr ((Qgu cs r).imp λ{a b}(z:a<b) e=>by have e:((false,(a:Int)):Ko.Vx)=(false,(b:Int)):=e;have e:(a:Int)=(b:Int):=congrArg Prod.snd e;omega),λa ha b hb e=>?_⟩) λv hv=>?_
  ·obtain⟨x,_,rfl⟩:=Qh.mp ha;obtain⟨y,_,rfl⟩:=Qh.mp hb;cases(JZ e).1
  ·rcases Jf.mp hv with z | z
   ·obtain⟨x,hx,rfl⟩:=Qh.mp z;obtain⟨y,hy,rfl⟩:=Qh.mp hx;have hy:=Qj.mp hy;exact Qj.mpr ⟨ZB _ (Qh.mpr ⟨y,hy.1,rfl⟩),hy.2⟩
   ·obtain⟨x,hx,rfl⟩:=Qh.mp z;obtain⟨p,hp,h1,h2⟩:=(Qb0 (QsA g) x).mp hx;have il:=(QjF g hp).2;rw[h2] at il;refine Qj.mpr ⟨il,?_⟩;rcases hf p hp with q | q
    ·have b:=g.bds.2.2 p hp;refine absurd (Qh.mpr ⟨p.1.toNat,Qj.mpr ⟨Q0.mpr (by omega),?_⟩,by omega⟩) h1;show f (true,((p.1.toNat:Nat):Int))=true;rw[show((p.1.toNat:Nat):Int)=p.1 by omega];exact q
    ·rw[<- h2];exact q
 refine⟨M,⟨λp hp=>sb.mem hp,?_,Jb.mpr (ap.imp λh=>h.2)⟩,l⟩;refine(QcH.mpr ⟨ap,Qzp sb g.srt⟩).imp λ{a b} z=>?_
 rcases z.2 with y | y
 ·exact y
 ·exact absurd y.1 z.1.1
end Rk
namespace L2
end L2
namespace Dl
open L2 _root_.Rd Rk
section
variable{X:Cx}{E:XK}
end
end Dl
namespace Rk
open L2 _root_.Rd Dl Rt
def wo1(C:List Nat)(c:Nat):List Nat:=C.filter λd => !decide (d=c)
def Pf(f:Nat->Nat->Bool):List Nat->List Nat->Nat->Int
 |[],_,k=>if k=0 then 1 else 0
 |r::R,C,k=>Pf f R C k+(if k=0 then 0 else sumZ (λc=>Pf f R (wo1 C c) (k - 1)) (C.filter (f r)))
theorem Qir{C:List Nat}{c d:Nat}:d∈wo1 C c↔d∈C/\d≠c:=by
 unfold wo1;rw[Qj,QrK,decide_eq_false_iff_not]
theorem Qsg{C:List Nat}(h:C.Nodup)(c:Nat):(wo1 C c).Nodup:=Ju _ h
theorem Qv5{C:List Nat}{c:Nat}(h:c∉C):wo1 C c=C:=by
 unfold wo1;rw[Zl];intro d hd;rw[decide_eq_false (λe=>h (by rw[<- e];exact hd))];rfl
theorem Qm0:∀{C:List Nat}{c:Nat},C.Nodup->c∈C->(wo1 C c).length+1=C.length
 |d::C,c,nd,hc=>by
  have nd:=JO.mp nd;by_cases z:d=c
  ·subst z;have e:wo1 (d::C) d=wo1 C d:=by unfold wo1;rw[Q8 (by simp)]
   rw[e,Qv5 nd.1];rfl
  ·have e:wo1 (d::C) c=d::wo1 C c:=by unfold wo1;rw[Q7 (by simp[z])]
   have hc:c∈C:=by
    rcases Qy.mp hc with y | y
    ·exact absurd y.symm z
    ·exact y
   rw[e,QQ,Qm0 nd.2 hc];rfl
theorem Qg2{α β:Type}(g:α->β->Int):∀(C:List α)(D:List β),sumZ (λc=>sumZ (g c) D) C=sumZ (λd=>sumZ (λc=>g c d) C) D
 |[],D=>(sumZ_zero D).symm
 |c::C,D=>by
  show sumZ (g c) D+sumZ _ C=sumZ (λd=>g c d+sumZ (λc=>g c d) C) D;rw[Qg2 g C D,QbT]
theorem Qtf{α:Type}(F:α->Int)(p q:α->Bool)(a:List α):sumZ F ((a.filter p).filter q)=sumZ (λx=>if p x=true then(if q x=true then F x else 0) else 0) a:=by
 rw[Z2 F q,Z2 _ p]
theorem QgE(f:Nat->Nat->Bool):∀(R C:List Nat),Pf f R C 0=1
 |[],_=>rfl
 |r::R,C=>by
  show Pf f R C 0+0=1;rw[QgE f R C];rfl
theorem QiP(f:Nat->Nat->Bool):∀(R C:List Nat)(k:Nat),C.Nodup->C.length<k->Pf f R C k=0
 |[],_,k,_,h=>by
  show(if k=0 then(1:Int) else 0)=0;rw[if_neg (by omega)]
 |r::R,C,k,nd,h=>by
  show Pf f R C k+(if k=0 then 0 else _)=0;rw[QiP f R C k nd h,if_neg (by omega),J3 (g:=λ_=>0) λc hc=>?_,sumZ_zero]
  ·rfl
  ·have:=Qm0 nd (Qj.mp hc).1;exact QiP f R _ (k - 1) (Qsg nd c) (by omega)
def Qk9(f:Nat->Nat->Bool):Nat->Nat->Bool:=λr c => !f r c
def Qks(h:Nat):Nat->List Nat
 |0=>[]
 |i+1=>(h - 1 - i)::Qks h i
def Qgs(w t:Nat):List Nat:=(Qt w).filter λc => !t.testBit c
theorem Qrk(w t c:Nat):Qgs w (t ||| 2^c)=wo1 (Qgs w t) c:=by
 unfold Qgs wo1;rw[Ym];refine Qaq λd _=>?_
 rw[QyN,Qos,Bool.not_or,QiV]
 congr 1
 rw[show decide (c=d)=decide (d=c) from decide_eq_decide.mpr ⟨λe=>e.symm,λe=>e.symm⟩]
theorem QkM(w:Nat):Qgs w 0=Qt w:=by
 unfold Qgs;rw[Zl];intro c _;simp
theorem QrZ(w:Nat)(f:Nat->Nat->Bool){r:Nat}:∀h,r<h->QdJ (cellsF h w f) r=QbV r w f
 |h+1,hr=>by
  unfold QdJ;rw[YL,Yn];have no:∀(q:Nat)(L:List (Int×Int)),(∀p∈L,p.1≠(r:Int))->L.filter (λp=>decide (p.1=(r:Int)))=[]:=λq L hL=>by
   rw[Yl];intro p hp;rw[decide_eq_false (hL p hp)];exact Qm
  by_cases z:r<h
  ·have ih:=QrZ w f h z;unfold QdJ at ih;rw[ih,no 0 _ λp hp=>?_,Zo];obtain⟨c,_,_,rfl⟩:=Qbk.mp hp;show(h:Int)≠r;omega
  ·have e:r=h:=by omega
   subst e;rw[no 0 (cellsF r w f) λp hp=>?_,QgL,Zl.mpr λp hp=>?_]
   ·obtain⟨c,_,_,rfl⟩:=Qbk.mp hp;exact decide_eq_true rfl
   ·have:=(Qbc hp).2.1;omega
theorem Qyq{h w r:Nat}(f:Nat->Nat->Bool)(hr:r<h):QkN (cellsF h w f) r=(Qt w).filter (f r):=by
 unfold QkN;rw[QrZ w f h hr];unfold QbV;rw[QL]
 conv=>rhs;rw[<- QgM ((Qt w).filter (f r))]
 exact ZK λc _=>by show((c:Int)).toNat=c;omega
theorem QAY{h w:Nat}(f:Nat->Nat->Bool):∀(i t k:Nat),i<=h->Wc (cellsF h w f) h i t k=Pf f (Qks h i) (Qgs w t) k
 |0,t,k,_=>rfl
 |i+1,t,k,hi=>by
  show Wc (cellsF h w f) h i t k+(if k=0 then 0 else Qog (Wc (cellsF h w f) h i) t (QkN (cellsF h w f) (h - 1 - i)) (k - 1))=Pf f (Qks h i) (Qgs w t) k+(if k=0 then 0 else sumZ (λc=>Pf f (Qks h i) (wo1 (Qgs w t) c) (k - 1)) ((Qgs w t).filter (f (h - 1 - i))));rw[QAY f i t k (by omega)]
  congr 1
  by_cases z:k=0
  ·rw[if_pos z,if_pos z]
  ·rw[if_neg z,if_neg z,Qyq f (by omega)];have e:=QcV (Wc (cellsF h w f) h i) t (k - 1) (λc:Nat=>c) ((Qt w).filter (f (h - 1 - i)));rw[List.map_id'] at e;rw[e,Z2];show _=sumZ _ (((Qt w).filter λc => !t.testBit c).filter (f (h - 1 - i)));rw[Qtf];refine J3 λc _=>?_
   cases hb:t.testBit c with
   |true=>simp
   |false=>
    rw[if_neg Qm,if_pos (show(!false)=true from rfl),QAY f i (t ||| 2^c) (k - 1) (by omega),Qrk]
theorem QgD{h w:Nat}(f:Nat->Nat->Bool)(k:Nat):Wc (cellsF h w f) h h 0 k=Pf f (Qks h h) (Qt w) k:=by
 rw[QAY f h 0 k (Qg _),QkM]
def oth(n:Nat)(o:List Nat):List Nat:=(Qt n).filter λx => !decide (x∈o)
def Qcc(n:Nat):Nat->List (List Nat)
 |0=>[[]]
 |i+1=>(Qcc n i).flatMap λo=>(oth n o).map λx=>o++[x]
theorem Qax{n:Nat}:∀{i:Nat}{o:List Nat},o∈Qcc n i->o.length=i
 |0,o,h=>by rw[Qx.mp h];rfl
 |i+1,o,h=>by
  obtain⟨p,hp,ho⟩:=JV.mp h;obtain⟨x,_,rfl⟩:=Qh.mp ho;rw[Qu,Qax hp];rfl
theorem Qul(n:Nat):oth n []=Qt n:=by
 unfold oth;rw[Zl];intro x _;simp
def tNn(o:List Nat):Qa:=.tuple (QcN o)
def Ql2:DF:=λargs R _=>∃(h w:Nat)(f:Nat->Nat->Bool),args=[.v (bdD h w (cellsF h w f))]/\h<=6/\w<=6/\R (bdD h w (cellsF h w (Qk9 f)))
theorem Qds{n:Nat}:∀{i:Nat}{o:List Nat},o∈Qcc n i->∀x∈o,x<n
 |0,o,h,x,hx=>by rw[Qx.mp h] at hx;cases hx
 |i+1,o,h,x,hx=>by
  obtain⟨p,hp,ho⟩:=JV.mp h;obtain⟨y,hy,rfl⟩:=Qh.mp ho;rcases Jf.mp hx with z | z
  ·exact Qds hp x z
  ·rw[Qx.mp z];exact Q0.mp (Qj.mp hy).1
theorem Qrg(ns:List Int):QX (.list (ns.map Qi)) (.list (ns.map Qi))=true:=by
 show QdC (ns.map Qi) (ns.map Qi)=true;induction ns with
 |nil=>rfl
 |cons x ns ih=>
  show(QX (.int x) (.int x)&&QdC (ns.map Qi) (ns.map Qi))=true;rw[ih,QbS];show decide (x=x)=true;exact decide_eq_true rfl
theorem QkJ(ns:List Int):(Ys (ns.map Qi)).depth<=50:=by
 have:∀ns:List Int,JS (ns.map Qi)<=1:=λns=>by
  induction ns with
  |nil=>decide
  |cons x ns ih=>
   show max (ZP (.int x)) (JS (ns.map Qi))<=1;have:ZP (.int x)<=1:=by unfold ZP;decide
   omega
 have:=this ns;unfold ZP;omega
end Rk
namespace HT
section
open PySem.SeqAt
open PySem.AutoSeq1 (wpAny_loadPart')
open PySem.MeetsSeq PySem.MeetsSeq2 PySem.MeetsSeq3
end
section
variable{prog:QF}{w:Jk}{A:Q9}{E:Value->Shared->Prop}{s:Shared}
end
end HT
namespace L2
end L2
namespace Rk
open L2 _root_.Rd Dl Rt
theorem QhA{A:Addr->Prop}{H:Hp}(dm:∀a,A a->∃xs,H a=some (.lst xs)):∀{ys:List V}{M:List (Int×Int)},Dats H ys (M.map pairD)->DAs A H ys (M.map pairD)
 |[],[],_=>.nil
 |y::ys,p::M,.cons q qs=>by
  refine .cons ?_ (QhA dm qs)
  cases q with
  |tup e q2=>
   refine .tup (λz=>?_) e ?_
   ·obtain⟨xs,e2⟩:=dm _ z;rw[e] at e2;cases e2
   ·cases q2 with
    |cons a b=>
     cases b with
     |cons b c=>cases c;cases a;cases b;exact .cons (.int _) (.cons (.int _) .nil)
@[irreducible] def sortPD:List Qa->(Qa->Prop)->Prop:=λds Q=>∃L:List (Int×Int),ds=[.list (L.map pairD)]/\L.Nodup/\L.length<64/\(∀p∈L,0<=p.2/\p.2<64)/\∀M:List (Int×Int),M.Perm L->M.Pairwise plt->Q (.list (M.map pairD))
theorem sortP_of{L:List (Int×Int)}{Q:Qa->Prop}(h1:L.Nodup)(h2:L.length<64)(h3:∀p∈L,0<=p.2/\p.2<64)(k:∀M:List (Int×Int),M.Perm L->M.Pairwise plt->Q (.list (M.map pairD))):sortPD [.list (L.map pairD)] Q:=by
 unfold sortPD;exact⟨L,rfl,h1,h2,h3,k⟩
theorem cd_sortP:Qbs Ql6 sortPD:=λA P H vs ds R Q ln dm q h k=>by
 unfold sortPD at h;obtain⟨L,rfl,h1,h2,h3,hR⟩:=h;obtain⟨v,rfl,hv⟩:=pd1 q;obtain⟨l,xs,rfl,e,qq⟩:=hv.list;refine⟨l,xs,L,rfl,e,QaW _ _ (Qak L) qq,h1,h2,h3,λt ys M H2 s n e2 dts pm pw=>?_⟩;have dm2:∀a,A a->∃xs,H2 a=some (.lst xs):=λa z=>by obtain⟨xs,e⟩:=dm a z;exact⟨xs,s _ _ e⟩
 have pl:M.Pairwise plt:=by
  have hb:∀p∈M,0<=p.2/\p.2<64:=λp hp=>h3 p (pm.mem_iff.mp hp)
  refine ZO (λ{a b} ha hb' hc=>?_) pw;have:=hb a ha;have:=hb b hb';have hc:64*a.1+a.2<64*b.1+b.2:=hc;show a.1<b.1∨(a.1=b.1/\a.2<b.2);omega
 refine k _ (hR M pm pl) _ H2 s (.lst (λz=>?_) e2 (QhA dm2 dts)) (Qao n);obtain⟨xs,e⟩:=dm t z;rw[n] at e;cases e
end Rk
namespace Dl
open L2 _root_.Rd Rk Rt
end Dl
namespace Rk
open L2 _root_.Rd Dl Rt
def tF(f:Nat->Nat->Bool):Nat->Nat->Bool:=λr c=>f c r
theorem Qlp{c:Nat}{C:List Nat}(h:c∉C):wo1 (c::C) c=C:=by
 have e:wo1 (c::C) c=wo1 C c:=by unfold wo1;rw[Q8 (by simp)]
 rw[e,Qv5 h]
theorem Qlq{c d:Nat}{C:List Nat}(h:c≠d):wo1 (c::C) d=c::wo1 C d:=by
 unfold wo1;rw[Q7 (by simp[h])]
theorem Qv6{c d:Nat}{C:List Nat}(h:c∉C):c∉wo1 C d:=λz=>h (Qir.mp z).1
theorem Qn6(f:Nat->Nat->Bool):∀(R:List Nat)(c:Nat)(C:List Nat)(k:Nat),R.Nodup->c∉C->Pf f R (c::C) k=Pf f R C k+(if k=0 then 0 else sumZ (λr=>Pf f (wo1 R r) C (k - 1)) (R.filter λr=>f r c))
 |[],c,C,k,_,_=>by
  show(if k=0 then(1:Int) else 0)=(if k=0 then 1 else 0)+(if k=0 then 0 else 0);split<;>rfl
 |r::R,c,C,k,nd,hc=>by
  have nd:=JO.mp nd;by_cases zk:k=0
  ·subst zk;rw[QgE,QgE];rfl
  ·obtain⟨k,rfl⟩:∃j,k=j+1:=⟨k - 1,by omega⟩
   show Pf f R (c::C) (k+1)+(if k+1=0 then 0 else sumZ (λd=>Pf f R (wo1 (c::C) d) (k+1 - 1)) ((c::C).filter (f r)))=Pf f R C (k+1)+(if k+1=0 then 0 else sumZ (λd=>Pf f R (wo1 C d) (k+1 - 1)) (C.filter (f r)))+(if k+1=0 then 0 else sumZ (λq=>Pf f (wo1 (r::R) q) C (k+1 - 1)) ((r::R).filter λq=>f q c));rw[if_neg zk,if_neg zk,if_neg zk,Yu,Qn6 f R c C (k+1) nd.2 hc,if_neg zk,Yu];have a1:sumZ (λd=>Pf f R (wo1 (c::C) d) k) ((c::C).filter (f r))=(if f r c=true then Pf f R C k else 0)+sumZ (λd=>Pf f R (wo1 C d) k+(if k=0 then 0 else sumZ (λq=>Pf f (wo1 R q) (wo1 C d) (k - 1)) (R.filter λq=>f q c))) (C.filter (f r)):=by
    have tl:sumZ (λd=>Pf f R (wo1 (c::C) d) k) (C.filter (f r))=sumZ (λd=>Pf f R (wo1 C d) k+(if k=0 then 0 else sumZ (λq=>Pf f (wo1 R q) (wo1 C d) (k - 1)) (R.filter λq=>f q c))) (C.filter (f r)):=J3 λd hd=>by
     have hd:=(Qj.mp hd).1;rw[Qlq (λe=>hc (by rw[e];exact hd)),Qn6 f R c (wo1 C d) k nd.2 (Qv6 hc)]
    by_cases z:f r c=true
    ·rw[Q7 z,if_pos z,<- tl];show Pf f R (wo1 (c::C) c) k+_=_;rw[Qlp hc]
    ·rw[Q8 z,if_neg z,QaE,tl]
   have a2:sumZ (λq=>Pf f (wo1 (r::R) q) C k) ((r::R).filter λq=>f q c)=(if f r c=true then Pf f R C k else 0)+sumZ (λq=>Pf f (wo1 R q) C k+(if k=0 then 0 else sumZ (λd=>Pf f (wo1 R q) (wo1 C d) (k - 1)) (C.filter (f r)))) (R.filter λq=>f q c):=by
    have tl:sumZ (λq=>Pf f (wo1 (r::R) q) C k) (R.filter λq=>f q c)=sumZ (λq=>Pf f (wo1 R q) C k+(if k=0 then 0 else sumZ (λd=>Pf f (wo1 R q) (wo1 C d) (k - 1)) (C.filter (f r)))) (R.filter λq=>f q c):=J3 λq hq=>by
     have hq:=(Qj.mp hq).1;rw[Qlq (λe=>nd.1 (by rw[e];exact hq))];rfl
    by_cases z:f r c=true
    ·rw[Q7 (p:=λq=>f q c) z,if_pos z,<- tl];show Pf f (wo1 (r::R) r) C k+_=_;rw[Qlp nd.1]
    ·rw[Q8 (p:=λq=>f q c) z,if_neg z,QaE,tl]
   rw[a1,a2,QbT,QbT];have sw:sumZ (λd=>if k=0 then 0 else sumZ (λq=>Pf f (wo1 R q) (wo1 C d) (k - 1)) (R.filter λq=>f q c)) (C.filter (f r))=sumZ (λq=>if k=0 then 0 else sumZ (λd=>Pf f (wo1 R q) (wo1 C d) (k - 1)) (C.filter (f r))) (R.filter λq=>f q c):=by
    by_cases z:k=0
    ·rw[J3 (g:=λ_=>0) λ_ _=>if_pos z,sumZ_zero,J3 (g:=λ_=>0) λ_ _=>if_pos z,sumZ_zero]
    ·rw[J3 λd _=>if_neg z,Qg2];exact(J3 λq _=>if_neg z).symm
   rw[sw];omega
theorem QeV(f:Nat->Nat->Bool):∀(C R:List Nat)(k:Nat),C.Nodup->R.Nodup->Pf f R C k=Pf (tF f) C R k
 |[],R,k,_,_=>by
  show _=if k=0 then(1:Int) else 0
  by_cases z:k=0
  ·subst z;rw[QgE];rfl
  ·rw[if_neg z,QiP f R [] k .nil (by show 0<k;omega)]
 |c::C,R,k,nC,nR=>by
  have nC:=JO.mp nC;rw[Qn6 f R c C k nR nC.1,QeV f C R k nC.2 nR];show _=Pf (tF f) C R k+(if k=0 then 0 else sumZ (λd=>Pf (tF f) C (wo1 R d) (k - 1)) (R.filter (tF f c)))
  congr 1
  by_cases z:k=0
  ·rw[if_pos z,if_pos z]
  ·rw[if_neg z,if_neg z];exact J3 λr _=>QeV f C (wo1 R r) (k - 1) nC.2 (Qsg nR r)
theorem Qf6:∀n:Fin 7,Qks n n=Qt n:=by decide +kernel
def iN(o:List Nat):List Int:=o.map λ(x:Nat)=>(x:Int)
theorem Qey{n:Nat}{o:List Nat}(h:o∈Qcc n n):o.Perm (Qt n):=by
 have nd:∀{i:Nat}{o:List Nat},o∈Qcc n i->o.Nodup:=λ{i}=>by
  induction i with
  |zero=>intro o h;rw[Qx.mp h];exact .nil
  |succ i ih=>
   intro o h;obtain⟨p,hp,ho⟩:=JV.mp h;obtain⟨x,hx,rfl⟩:=Qh.mp ho;refine JP.mpr ⟨ih hp,by simp,λa ha b hb e=>?_⟩;rw[Qx.mp hb] at e;have:=(Qj.mp hx).2;rw[QrK,decide_eq_false_iff_not] at this;exact this (by rw[<- e];exact ha)
 have p1:o.Perm ((Qt n).filter λx=>decide (x∈o)):=(Zg (nd h) (Ju _ JN)).mpr λx=>by
  rw[Qj,Q0];exact⟨λhx=>⟨Qds h x hx,decide_eq_true hx⟩,λhx=>of_decide_eq_true hx.2⟩
 have l1:=p1.length_eq;have l2:=List.length_eq_countP_add_countP (λx=>decide (x∈o)) (l:=Qt n);rw[Q1,Yo,<- l1,Qax h] at l2;have l3:(Qt n).countP (λx=>decide (¬decide (x∈o)=true))=0:=by omega
 have al:(Qt n).filter (λx=>decide (x∈o))=Qt n:=Zl.mpr λx hx=>by
  have:=Qof.mp l3 x hx
  simpa using this
 rw[al] at p1;exact p1
theorem Qrv(o:List Nat):QaY (QcN o)=some (iN o):=by
 have:QcN o=(iN o).map Qi:=by unfold QcN iN;rw[QL];rfl
 rw[this];exact QdB _
end Rk
namespace Dl
open L2 _root_.Rd Rk
@[irreducible] def Qy2(t:DT)(wb:DS)(D:QeX)(δ:Sts):Prop:=∃Iv:Nat->Sts->Prop,(∃m,Iv m δ)/\∀m δ,Iv m δ->t δ (λb=>if b=true then wb { D with nx:=λδ'=>∃m',m'<m/\Iv m' δ',ct:=λδ'=>∃m',m'<m/\Iv m' δ',bk:=D.nx } δ else D.nx δ) D.ex
def Qns(t:DT)(wb:DS):DS:=λD δ=>Qy2 t wb D δ
section
variable{X:Cx}{E:XK}
theorem Qmm{c:QV}{body:List ZY}{pos:Pos}{t:DT}{wb:DS}(hp:QfP (model X.prog X.w) X.A X.env X.xe)(hc:PT X c (tT X.K E t))(hb:PSs X body (tS X.K E wb)):PS X (.While c body [] pos) (tS X.K E (Qns t wb)):=by
 refine PS.imp (Qo5 hp hc hb) λD σ H ⟨F,δ,DD,rel,hw,en⟩=>?_
 unfold Qns Qy2 at hw;obtain⟨Iv,⟨m0,i0⟩,step⟩:=hw;refine⟨λm σ' H'=>∃δ',Iv m δ'/\Rel X.K F σ' H' δ'/\Stp F σ H δ σ' H' δ',⟨m0,δ,i0,rel,Stp.refl⟩,?_⟩;rintro m σ' H' ⟨δ',iv,r',st'⟩;refine⟨F,δ',_,DD.ex,r',step m δ' iv,λb hb H1 rel1 kp1=>?_,en.ex⟩;have st1:Stp F σ H δ σ' H1 δ':=st'.trans (Stp.kp kp1);cases b with
 |true=>
  rw[if_pos rfl] at hb;show if true=true then _ else _
  rw[if_pos rfl];refine⟨λσ2 H2=>∃δ2,(∃m',m'<m/\Iv m' δ2)/\Rel X.K F σ2 H2 δ2/\Stp F σ H δ σ2 H2 δ2,λσ2 H2 ⟨δ2,⟨m',hm,h2⟩,r2,s2⟩=>⟨m',hm,δ2,h2,r2,s2⟩,F,δ',_,rel1,hb,?_⟩;exact⟨⟨λδ6 h6 σ6 H6 r6 s6=>⟨δ6,h6,r6,st1.trans s6⟩⟩,en.rt,en.rtF,(en.step st1).nx,⟨λδ6 h6 σ6 H6 r6 s6=>⟨δ6,h6,r6,st1.trans s6⟩⟩,en.ex⟩
 |false=>
  rw[if_neg Qm] at hb;show if false=true then _ else _
  rw[if_neg Qm];exact(en.step st1).nx.go δ' hb σ' H1 rel1 Stp.refl
theorem Qjf{c:QV}{body:List ZY}{pos:Pos}{t:DT}{wb:DS}(hp:QfP (model X.prog X.w) X.A X.env X.xe)(hc:QT X E c t)(hb:QSs X E body wb):QS X E (.While c body [] pos) (Qns t wb):=⟨Qmm hp hc.h hb.h⟩
end
theorem QrM{t:DT}{wb:DS}{D:QeX}{δ:Sts}(Iv:Nat->Sts->Prop)(m0:Nat)(h0:Iv m0 δ)
  (hs:∀m δ,Iv m δ->t δ (λb=>if b=true then wb { D with nx:=λδ'=>∃m',m'<m/\Iv m' δ',ct:=λδ'=>∃m',m'<m/\Iv m' δ',bk:=D.nx } δ else D.nx δ) D.ex):Qy2 t wb D δ:=by
 unfold Qy2;exact⟨Iv,⟨m0,h0⟩,hs⟩
end Dl
namespace Rm
open AutoSeq1 (wpAny_loadPart')
open MeetsSeq
end Rm
namespace L2
open _root_.Rd
section
variable{X:Cx}
end
end L2
namespace Dl
open L2 _root_.Rd Rk Rt
section
variable{X:Cx}{E:XK}{st:ZY}{i:Nat}{we:DE}
end
end Dl
namespace Dl
open L2 _root_.Rd Rk
theorem DAs.eraseIdx{A:Addr->Prop}{H:Hp}:∀{xs:List V}{ds:List Qa},DAs A H xs ds->∀n:Nat,DAs A H (xs.eraseIdx n) (ds.eraseIdx n)
 |_,_,.nil,n=>.nil
 |_,_,.cons a b,0=>b
 |_,_,.cons a b,n+1=>.cons a (b.eraseIdx n)
section
variable{X:Cx}{E:XK}{st:ZY}{i j:Nat}{we:DE}
def Qiz(i j:Nat)(we:DE):DS:=λD δ=>match δ[i]? with
 |some (.own ds)=>(match δ[j]? with
  |some (.own es)=>we δ (λd=>∃(k:Nat)(e:Qa),d=.int k/\k<1000/\es[k]? = some e/\ds.length<1000000/\D.nx ((δ.set j (.own (es.eraseIdx k))).set i (.own (ds++[e])))) D.ex
  |_=>False)
 |_=>False
theorem Qmo(hij:i≠j)(h:PS X st (QlB (tBM X.K "list" Qih (QhZ i) (Qe5 (tBM X.K "list" Qr3 (QhZ j) (Qe5 (tX .P X.K E we) Qtd)) Qtd)))):PS X st (tS X.K E (Qiz i j we)):=by
 refine PS.imp h λD σ H ⟨F,δ,DD,rel,hw,en⟩=>?_
 unfold Qiz at hw;split at hw
 ·rename_i ds hi
  split at hw
  ·rename_i es hj
   obtain⟨x,hx⟩:=rel.lt hi;obtain⟨l,xs,rfl,e,q,f⟩:=rel.sl i _ _ hx hi;obtain⟨y,hy⟩:=rel.lt hj;obtain⟨m,ys,rfl,e2,q2,f2⟩:=rel.sl j _ _ hy hj;have np:=rel.own_pot hi hx;have np2:=rel.own_pot hj hy;have ne:l≠m:=λz=>by
    subst z;exact hij (rel.inj i j l ds hi hx ⟨hy,.inr ⟨es,hj⟩⟩)
   refine⟨.ref l,hx,.inl ⟨rfl,_,SqL.of e⟩,.ref m,hy,.inl ⟨rfl,_,SqL.of e2⟩,F,δ,_,DD.ex,rel,hw,λd ⟨k,e',ed,k1,hk,hl,hn⟩ v H' rel' kp vk=>?_,en.ex⟩;subst ed;rw[DP.int vk];obtain⟨yv,hyv,dyv⟩:=(kp.das q2).get k e' hk;have kl:k<ys.length:=(Jd.mp hyv).1;obtain⟨r2,st2⟩:=rel'.mut hj hy ((kp.das q2).eraseIdx k);have dy2:=st2.da dyv;have q':=st2.das (kp.das q);have hi':(δ.set j (.own (es.eraseIdx k)))[i]? = some (.own ds):=by rw[QaP (QaQ hij)];exact hi
   obtain⟨r3,st3⟩:=r2.mut hi' hx (q'.app (.cons dy2 .nil));refine⟨m,ys,(k:Int),k,yv,rfl,rfl,kp.1 _ _ np2 e2,by omega,by omega,?_,hyv,l,xs,yv,rfl,rfl,?_,QP (by rw[q.length];exact hl) Qht,en.nx.go _ hn _ _ r3 (((Stp.kp kp).trans st2).trans st3)⟩
   ·show seqIndex? (k:Int) ys.length=some k;unfold seqIndex?;simp;omega
   ·rw[JM ne];exact kp.1 _ _ np e
  ·exact hw.elim
 ·exact hw.elim
theorem Qo3{y z:Str}{e:QV}{we:DE}{apos cpos pos npos bpos dpos mpos:Pos}(i j:Nat)(he:QE .P X E e we)(hij:i≠j:=by decide)(hN:X.N[i]? = some y:=by rfl)(hM:X.N[j]? = some z:=by rfl)
  (hv:Vis X.env.scope y:=by first | exact QN rfl | exact QK (QN rfl) | exact QK (QK rfl))(hd:(y == ("__debug__" : Str))=false:=by decide)(hcd:(y == ("__classdict__" : Str))=false:=by decide)
  (hv2:Vis X.env.scope z:=by first | exact QN rfl | exact QK (QN rfl) | exact QK (QK rfl))(hd2:(z == ("__debug__" : Str))=false:=by decide)(hcd2:(z == ("__classdict__" : Str))=false:=by decide)
  (hst:notStar e=true:=by rfl)
  (hbase2:attributeBase (.Name z mpos) "pop" X.env (eval (.Name z mpos) X.env)=eval (.Name z mpos) X.env:=by rfl)
  (hfew2:((backTo dpos (starEach [e] X.env)).all (λx => !x.1)&&(backToKw dpos (keywordEach [] X.env)).all (λx=>x.1.isSome)&&decide ([e].length+([]:List QcS).length+(if([]:List QcS).isEmpty then 0 else 1)<30))=true:=by rfl)
  (hline2:(bpos.endLine == dpos.line)=true:=by rfl)
  (hbase:attributeBase (.Name y npos) "append" X.env (eval (.Name y npos) X.env)=eval (.Name y npos) X.env:=by rfl)
  (hfew:((backTo cpos (starEach [.Call (.Attribute (.Name z mpos) "pop" bpos) [e] [] dpos] X.env)).all (λx => !x.1)&&(backToKw cpos (keywordEach [] X.env)).all (λx=>x.1.isSome)&&decide ([Expr.Call (.Attribute (.Name z mpos) "pop" bpos) [e] [] dpos].length+([]:List QcS).length+(if([]:List QcS).isEmpty then 0 else 1)<30))=true:=by rfl)
  (hline:(apos.endLine == cpos.line)=true:=by rfl)
  (hsw:swapsWith (.Call (.Attribute (.Name y npos) "append" apos) [.Call (.Attribute (.Name z mpos) "pop" bpos) [e] [] dpos] [] cpos) none pos.line X.env=pure false:=by rfl) :
  QS X E (.Expr (.Call (.Attribute (.Name y npos) "append" apos) [.Call (.Attribute (.Name z mpos) "pop" bpos) [e] [] dpos] [] cpos) pos) (Qiz i j we):=
 ⟨Qmo hij (Qgd (Qpd PySem.F.plainAttrs_list PySem.F.slot_list_append PySem.F.type_list_append QeA (pv i hN hv hd hcd) (QcM (Qpd PySem.F.plainAttrs_list PySem.F.slot_list_pop PySem.F.type_list_pop QpX (pv j hM hv2 hd2 hcd2) (QcM he.h ZN hst) hbase2 hfew2 hline2 (ZD hst) rfl) ZN) hbase hfew hline rfl rfl) hsw)⟩
end
end Dl
namespace Rk
open L2 _root_.Rd Dl Rt
theorem Qum{w:Nat}{t:List Nat}(nd:t.Nodup)(hb:∀x∈t,x<w):(oth w t).length+t.length=w:=by
 have p:(oth w t++t).Perm (Qt w):=by
  refine(Zg ?_ JN).mpr λx=>?_
  ·refine JP.mpr ⟨JN.filter _,nd,λa ha b hb e=>?_⟩;have:=(Qj.mp ha).2;rw[e] at this;simp at this;exact this hb
  ·rw[Jf];unfold oth;rw[Qj];constructor
   ·rintro(z | z)
    ·exact z.1
    ·exact Q0.mpr (hb x z)
   ·intro z;by_cases y:x∈t
    ·exact .inr y
    ·exact .inl ⟨z,by simpa using y⟩
 have:=p.length_eq;rw[Qu,Q1] at this;exact this
theorem Qhy{α:Type}[DecidableEq α]:∀{l:List α}{j:Nat}{c:α},l.Nodup->l[j]? = some c->l.eraseIdx j=l.filter λx => !decide (x=c)
 |[],_,_,_,h=>by simp at h
 |x::xs,0,c,nd,h=>by
  simp at h;subst h;have hx:=(JO.mp nd).1;rw[Q8 (by simp)];show xs=_
  symm
  rw[Zl];intro y hy;have:y≠x:=λe=>hx (by rw[<- e];exact hy)
  simpa using this
 |x::xs,j+1,c,nd,h=>by
  have hx:=(JO.mp nd).1;have h':xs[j]? = some c:=by simpa using h
  have ne:x≠c:=λe=>hx (by rw[e];exact Ja h')
  rw[Q7 (by simpa using ne)];show x::xs.eraseIdx j=_;rw[Qhy (JO.mp nd).2 h']
theorem Quk{w:Nat}{t:List Nat}{c:Nat}:oth w (t++[c])=(oth w t).filter λx => !decide (x=c):=by
 unfold oth;rw[Ym];refine Qaq λx _=>?_
 rw[J8];simp[not_or,and_comm]
theorem QlC{α:Type}{F:α->Int}{l m:List α}(p:l.Perm m):sumZ F l=sumZ F m:=by
 induction p with
 |nil=>rfl
 |cons x _ ih=>show F x+sumZ F _=F x+sumZ F _;rw[ih]
 |swap x y l=>show F y+(F x+sumZ F l)=F x+(F y+sumZ F l);omega
 |trans _ _ h1 h2=>exact h1.trans h2
theorem QgF(f:Nat->Nat->Bool):∀(R C D:List Nat)(k:Nat),C.Perm D->Pf f R C k=Pf f R D k
 |[],_,_,_,_=>rfl
 |r::R,C,D,k,p=>by
  show Pf f R C k+(if k=0 then 0 else sumZ (λc=>Pf f R (wo1 C c) (k - 1)) (C.filter (f r)))=Pf f R D k+(if k=0 then 0 else sumZ (λc=>Pf f R (wo1 D c) (k - 1)) (D.filter (f r)));rw[QgF f R C D k p,QlC (p.filter (f r)),J3 λc _=>QgF f R (wo1 C c) (wo1 D c) (k - 1) (p.filter _)]
theorem Qrx(f:Nat->Nat->Bool){R S C:List Nat}(k:Nat)(p:R.Perm S)(nR:R.Nodup)(nC:C.Nodup):Pf f R C k=Pf f S C k:=by
 rw[QeV f C R k nC nR,QeV f C S k nC (p.nodup_iff.mp nR),QgF (tF f) C R S k p]
theorem QrL{g:Nat->Nat}:∀{C:List Nat}{c:Nat},(∀x∈C,∀y∈c::C,g x=g y->x=y)->(wo1 C c).map g=wo1 (C.map g) (g c)
 |[],_,_=>rfl
 |x::C,c,h=>by
  have ih:=QrL (g:=g) (C:=C) (c:=c) λa ha b hb e=>h a (.tail _ ha) b (by
   rcases Qy.mp hb with z | z
   ·rw[z];exact .head _
   ·exact .tail _ (.tail _ z)) e
  unfold wo1 at ih ⊢;by_cases z:x=c
  ·rw[Q8 (by simp[z]),Js,Q8 (by simp[z]),ih]
  ·have gz:g x≠g c:=λe=>z (h x (.head _) c (.head _) e)
   rw[Q7 (by simp[z]),Js,Js,Q7 (by simp[gz]),ih]
theorem Qn5(f:Nat->Nat->Bool)(p q:Nat->Nat):∀(R C:List Nat)(k:Nat),(∀x∈C,∀y∈C,q x=q y->x=y)->Pf (λr c=>f (p r) (q c)) R C k=Pf f (R.map p) (C.map q) k
 |[],_,_,_=>rfl
 |r::R,C,k,h=>by
  show Pf (λr c=>f (p r) (q c)) R C k+(if k=0 then 0 else sumZ (λc=>Pf (λr c=>f (p r) (q c)) R (wo1 C c) (k - 1)) (C.filter λc=>f (p r) (q c)))=Pf f (R.map p) (C.map q) k+(if k=0 then 0 else sumZ (λc=>Pf f (R.map p) (wo1 (C.map q) c) (k - 1)) ((C.map q).filter (f (p r))));rw[Qn5 f p q R C k h]
  congr 1
  by_cases z:k=0
  ·rw[if_pos z,if_pos z]
  ·rw[if_neg z,if_neg z,QvL];have e:∀l:List Nat,(∀c∈l,c∈C)->sumZ (λc=>Pf (λr c=>f (p r) (q c)) R (wo1 C c) (k - 1)) l=sumZ (λc=>Pf f (R.map p) (wo1 (C.map q) c) (k - 1)) (l.map q):=λl=>by
    induction l with
    |nil=>intro _;rfl
    |cons c l ih=>
     intro hl;have hc:=hl c (.head _);show Pf (λr c=>f (p r) (q c)) R (wo1 C c) (k - 1)+sumZ _ l=Pf f (R.map p) (wo1 (C.map q) (q c)) (k - 1)+sumZ _ (l.map q);rw[ih λd hd=>hl d (.tail _ hd),Qn5 f p q R (wo1 C c) (k - 1) λx hx y hy=>h x (Qir.mp hx).1 y (Qir.mp hy).1,QrL λx hx y hy=>h x hx y (by
      rcases Qy.mp hy with z | z
      ·rw[z];exact hc
      ·exact z)]
   exact e _ λc hc=>(Qj.mp hc).1
theorem Qrw(f:Nat->Nat->Bool){h w:Nat}(h6:h<=6)(w6:w<=6)(k:Nat):Wc (cellsF w h (tF f)) w w 0 k=Wc (cellsF h w f) h h 0 k:=by
 rw[QgD,QgD,Qf6 ⟨h,by omega⟩,Qf6 ⟨w,by omega⟩];exact(QeV f _ _ k JN JN).symm
theorem Qhq{o:List Nat}{n:Nat}(h:o.length=n):(Qt n).map (λr=>o.getD r 0)=o:=by
 subst h;refine Z9 λk=>?_
 rw[Qv];by_cases z:k<o.length
 ·rw[Jo z,Qf z];show some (o.getD k 0)=_;rw[Qo,Qf z];rfl
 ·rw[Q6 (by rw[Q1];omega),Q6 (by omega)];rfl
theorem QyA(f:Nat->Nat->Bool){h w:Nat}{rs ms:List Nat}(h6:h<=6)(w6:w<=6)(hr:rs∈Qcc h h)(hm:ms∈Qcc w w)(k:Nat):Wc (cellsF h w λr c=>f (rs.getD r 0) (ms.getD c 0)) h h 0 k=Wc (cellsF h w f) h h 0 k:=by
 have pr:=Qey hr;have pm:=Qey hm;have nm:ms.Nodup:=pm.nodup_iff.mpr JN;rw[QgD,QgD,Qf6 ⟨h,by omega⟩];show Pf (λr c=>f (rs.getD r 0) (ms.getD c 0)) (Qt h) (Qt w) k=Pf f (Qt h) (Qt w) k;rw[Qn5 f (λr=>rs.getD r 0) (λc=>ms.getD c 0) _ _ k,Qhq (Qax hr),Qhq (Qax hm),QgF f rs ms (Qt w) k pm,Qrx f k pr (pr.nodup_iff.mpr JN) JN];intro x hx y hy e;have hx:=Q0.mp hx;have hy:=Q0.mp hy;have lm:=Qax hm;rw[Qo,Qf (by omega),Qo,Qf (by omega)] at e;exact(QsV nm).mp e
def QAy:DF:=λargs R _=>∃(n:Nat)(o:List Nat),args=[.v (.int n),.v (tNn o)]/\n<=6/\o∈Qcc n n/\R (.bool true)
theorem QxV{n:Nat}{o:List Nat}(h:o∈Qcc n n){ms:List Int}(p:ms.Perm (iN o))(s:ms.Pairwise (·<=·)):ms=iN (Qt n):=by
 have p2:ms.Perm (iN (Qt n)):=p.trans ((Qey h).map _);have s2:(iN (Qt n)).Pairwise (·<=·):=Jb.mpr (Qan.imp λ{a b}(z:a<b)=>by show(a:Int)<=b;omega);exact ZT (le:=(·<=·)) (λa b _ _ h1 h2=>Qv0 h1 h2) s s2 p2
end Rk
namespace L2
section
variable{X:Cx}{pins:List (Addr×Obj)}{σ:St}{H H3:Hp}{s3:Shared}{M:List Str}{scope:Y0}{cap:List (Option Nat)}{fp:List Addr}{h4:Heap}{t4:Nat}
end
section
variable{X:Cx}{pins:List (Addr×Obj)}{σ:St}{H:Hp}
end
end L2
namespace Rk
open L2 _root_.Rd Dl
end Rk
namespace Dl
open L2
section
variable{X:Cx}{E:XK}
end
end Dl
namespace Rk
open L2 _root_.Rd
def top(i:Nat):ZY:=PySem.Challenge.pw_rooklands_k25_whole_most.main.body.getD i (.Pass ⟨0,0,0,0⟩)
abbrev Qfi:ZY:=top 7
abbrev Qdk:ZY:=top 8
abbrev Qdl:ZY:=top 9
abbrev Qfq:ZY:=top 11
abbrev Qfm:ZY:=top 12
abbrev Qkj:ZY:=top 13
abbrev Qfk:ZY:=top 14
abbrev sIsO:ZY:=top 15
abbrev sLed:ZY:=top 16
abbrev Qdm:ZY:=top 17
abbrev Qfn:ZY:=top 18
abbrev Qko:ZY:=top 19
abbrev sWo:ZY:=top 21
abbrev Qkn:ZY:=top 22
abbrev Qfj:ZY:=top 24
abbrev Qfr:ZY:=top 25
abbrev Qdn:ZY:=top 26
abbrev Qkp:ZY:=top 27
abbrev QbU:ZY:=top 28
abbrev Qfl:ZY:=top 29
abbrev sFol:ZY:=top 30
abbrev Qkm:ZY:=top 31
abbrev Qdo:ZY:=top 32
abbrev Qki:ZY:=top 33
abbrev Qkh:ZY:=top 34
abbrev sRow:ZY:=top 35
abbrev Qfo:ZY:=top 37
abbrev Qkr:ZY:=top 38
abbrev sHow:ZY:=top 39
abbrev Qkl:ZY:=top 40
abbrev Qfp:ZY:=top 41
abbrev sFew:ZY:=top 42
abbrev Qkq:ZY:=top 43
abbrev sLW:ZY:=top 44
abbrev Qkk:ZY:=top 45
abbrev Qdu:ZY:=top 47
abbrev lPot:ZY:=top 48
abbrev QkB:ZY:=top 49
abbrev QfA:ZY:=top 50
abbrev Qfz:ZY:=top 51
abbrev QfB:ZY:=top 52
abbrev QkC:ZY:=top 53
abbrev Qfy:ZY:=top 54
abbrev sLaw:ZY:=top 55
section
variable{P:QF}{w:Jk}{K:PySem.W.Frag}{mg:Str->Option Value}{base:Heap}
theorem QoV:Jm ["_law_script", "_law_k"] ["_law_script", "_law_k"] (Qq Qdu):=⟨rfl,rfl,rfl,by decide +kernel,rfl,by decide +kernel,by decide +kernel⟩
theorem QmK{f:Addr}{fd:QM}(F:Fun K "_law_cell_at" "_law_cell_at" Qdu f fd)(T:GlbA mg):FnOk P w K mg base CX0 1 f fd ["_law_script", "_law_k"] (QcW K):=by
 refine F.ok QoV (λvs H Q E h=>?_) (λcdv A outer s H vs Q E hr h=>?_)
 ·obtain⟨a,ns,k,rfl,_⟩:=h;rfl
 ·obtain⟨a,ns,n,rfl,hs,hl,h0,k⟩:=h;refine⟨_,Qai (QtI (Qgc QpB (pv 1) (QbX QbO (by rfl) T.len Qac (QbG (pv 0) ZN)) (ZA _)) (QbF (QcY (Qml Qgl (pv 0) (pv 1) (λ_ _=>rfl)))) Qik) (QbF (QcY YC)),?_⟩;refine⟨_,rfl,_,rfl,a,_,rfl,.inl hs,_,_,rfl,rfl,_,rfl,?_⟩;refine QBq (λhlt=>?_) (λ_=>k 0);have hlt':n<(ns.map V.int).length:=of_decide_eq_true hlt;rw[Qd] at hlt';obtain⟨j,rfl⟩:=Int.eq_ofNat_of_zero_le h0;have hj:j<ns.length:=by omega
  refine⟨_,rfl,_,rfl,a,_,_,.int ns[j],rfl,rfl,hs,Jq ?_,k _⟩;rw[Qv,Qf hj];rfl
theorem Qkg:Jm ["_law_cell", "_law_number", "_law_j", "_law_more"] ["_law_cell"] (Qq lPot):=⟨rfl,rfl,rfl,by decide +kernel,rfl,by decide +kernel,by decide +kernel⟩
theorem Qxx{f:Addr}{fd:QM}(F:Fun K "_law_pot" "_law_pot" lPot f fd)(T:GlbA mg):FnOk P w K mg base CX0 1 f fd ["_law_cell"] Qwt:=by
 refine F.ok Qkg (λvs H Q E h=>?_) (λcdv A outer s H vs Q E hr h=>?_)
 ·obtain⟨c,rfl,_⟩:=h;rfl
 ·obtain⟨c,rfl,k⟩:=h;refine⟨_,Qai (QtI (Qgc Qur (pv 0) (Qbj Qsd YC YC) (ZA _)) (QbF (QcY (Qsa (QbG (Qbj Qez (pv 0) (Qbj Qsd YC YC)) ZN)))) Qik)
   (Qai (QdL (i:=1) Qkg.nd rfl (QN rfl) YC)
   (Qai (Qr5 JQ rfl (Qhc (by rfl) T.range (QbG YC ZN)) (Qex (i:=2) Qkg.nd rfl (QN rfl))
    (Qai (QdL (i:=3) Qkg.nd rfl (QN rfl) (Qbj Qhh (Qbj Qfu (Qbj Qfv (Qbj Qfv (Qbj Qhh (pv 0) YC) (Qbj Qfu YC (pv 2))) YC) YC) YC))
    (Qai (QdL (i:=3) Qkg.nd rfl (QN rfl) (Qbj Qhh (Qbj Qfv (Qbj Qfv (Qbj Qfu (pv 3) (pv 3)) (Qbj Qfu YC (pv 2))) YC) YC))
    (QbF (QdL (i:=1) Qkg.nd rfl (QN rfl) (Qbj Qfv (Qbj Qfu (pv 1) YC) (pv 3)))))))
   (QbF (QcY (Qsa (QbG (pv 1) ZN)))))),?_⟩
  refine⟨_,rfl,_,_,rfl,rfl,⟨by decide,by decide,by decide⟩,_,_,rfl,rfl,_,rfl,?_⟩;refine QBq (λ_=>?_) (λ_=>?_)
  ·exact⟨_,rfl,_,_,rfl,rfl,⟨by decide,by decide,by decide⟩,_,_,rfl,rfl,by show 1<=sizeLine;decide,λp hp=>k p _ hp⟩
  ·refine⟨64,rfl,by decide,by decide,Qnf (n:=64) (λi σ H2=>∃n v u,σ=[some (.int c),some (.int n),v,u]/\H2=H) ⟨0,none,none,rfl,rfl⟩ ?_ ?_⟩
   ·rintro i σ H2 hi ⟨n,v,u,rfl,rfl⟩;have b1:=QjP ((c % 2147483629+7919*(0+(i:Int))+1)*48271) (m:=2147483647) (by decide);refine⟨_,rfl,_,_,rfl,rfl,by show(0:Int)<2147483629;decide,_,rfl,_,_,rfl,rfl,.inl ⟨by decide,by decide⟩,_,_,rfl,rfl,_,_,rfl,rfl,_,_,rfl,rfl,.inr ⟨by decide,by decide⟩,_,_,rfl,rfl,by show(0:Int)<2147483647;decide,?_⟩;refine⟨_,rfl,_,rfl,_,_,rfl,rfl,.inl ⟨by omega,by omega⟩,_,rfl,_,_,rfl,rfl,.inl ⟨by decide,by decide⟩,_,_,rfl,rfl,_,_,rfl,rfl,_,_,rfl,rfl,by show(0:Int)<2147483587;decide,?_⟩;exact⟨_,rfl,_,_,rfl,rfl,.inr ⟨by decide,by decide⟩,_,rfl,_,_,rfl,rfl,_,_,_,rfl,rfl⟩
   ·rintro σ H2 ⟨n,v,u,rfl,rfl⟩;exact⟨_,rfl,by show 1<=sizeLine;decide,λp hp=>k p _ hp⟩
theorem QrY:Jm ["_law_pot_here", "_law_far", "_law_found"] ["_law_pot_here", "_law_far"] (Qq QkB):=⟨rfl,rfl,rfl,by decide +kernel,rfl,by decide +kernel,by decide +kernel⟩
theorem Quy{f:Addr}{fd:QM}(F:Fun K "_law_take" "_law_take" QkB f fd)(T:GlbA mg):FnOk P w K mg base CX0 1 f fd ["_law_pot_here", "_law_far"] Qi9:=by
 refine F.ok QrY (λvs H Q E h=>?_) (λcdv A outer s H vs Q E hr h=>?_)
 ·obtain⟨p,n,m,rfl,_⟩:=h;rfl
 ·obtain⟨p,n,m,rfl,hp,h0,h1,k⟩:=h;refine⟨_,Qai (QdL (i:=2) QrY.nd rfl (QN rfl) (Qbj Qhh (Qml Qgl (pv 0) YC (λ_ _=>rfl)) (pv 1)))
   (Qai (Qr6 (Qbj QpC (Qml Qgl (pv 0) YC (λ_ _=>rfl)) (pv 1)) (Qw1 (pv 0) YC Qja))
   (QbF (QcY (pv 2)))),?_⟩
  have b:=QjP n h0;exact⟨_,rfl,p,_,_,_,rfl,rfl,SqL.of hp,rfl,_,rfl,_,_,rfl,rfl,h0,_,rfl,p,_,_,_,rfl,rfl,SqL.of hp,rfl,_,rfl,_,_,rfl,rfl,⟨h0,h1⟩,_,rfl,p,_,_,_,rfl,rfl,hp,rfl,_,rfl,k _ _ b.1 b.2⟩
end
end Rk
namespace Rk
open L2 _root_.Rd
open Dl
open Rt Zt
theorem QzN:∀m:Fin 64,∀c x:Fin 6,decide (x.val∈Zt.Sm (m.val ||| 2^c.val))=(decide (x.val∈Zt.Sm m.val)||decide (x=c)):=by decide +kernel
theorem QkI(ns:List Int):(ns.map V.int).all Qgp=true:=JW.mpr λv hv=>by obtain⟨n,_,rfl⟩:=Qh.mp hv;rfl
theorem QjG(x:Int):∀ns:List Int,inV (.int x) (ns.map V.int)=decide (x∈ns)
 |[]=>by simp[inV]
 |n::ns=>by
  show(eqV (.int n) (.int x)||inV (.int x) (ns.map V.int))=_;rw[QjG x ns,show eqV (.int n) (.int x)=decide (n=x) from rfl,J8];simp only[Qa6,decide_eq_true_eq,Qy];exact⟨λh=>h.elim (λe=>.inl e.symm) .inr,λh=>h.elim (λe=>.inl e.symm) .inr⟩
theorem daT{A:Addr->Prop}{H:Hp}{v:V}{ds:List Qa}(h:DA A H v (.tuple ds)):∃l xs,v=.ref l/\H l=some (.tup xs)/\DAs A H xs ds:=by
 cases h with
 |tup n e q=>exact⟨_,_,rfl,e,q⟩
theorem Qnq{A:Addr->Prop}{H:Hp}:∀{xs:List V}{ds:List Qa},DAs A H xs ds->∀(i:Nat)(d:Qa),ds[i]? = some d->∃x,xs[i]? = some x/\DA A H x d
 |_,_,.nil,i,d,h=>by simp at h
 |_,_,.cons q qs,0,d,h=>by simp at h;subst h;exact⟨_,rfl,q⟩
 |_,_,.cons q qs,i+1,d,h=>by
  simp only[Yi] at h;obtain⟨x,e,q⟩:=Qnq qs i d h;exact⟨x,by simpa using e,q⟩
def QA8:Sp:=λvs H Q _=>∃(h w:Int)(cs:List (Int×Int))(rows:List Int)(v1 v2:V),vs=[v1,v2]/\DA (λ_=>False) H v1 (bdD h w cs)/\DA (λ_=>False) H v2 (tN rows)/\(∀p∈cs,0<=p.2/\p.2<6)/\∀ms:List Nat,ms.Pairwise (· < ·)->(∀x:Nat,x∈ms↔∃p∈cs,p.1∉rows/\p.2=(x:Int))->∀v H',Same H H'->DA (λ_=>False) H' v (.tuple [tN rows,.tuple (ms.map λ(x:Nat)=>Qi x)])->Q v H'
def lnK(rows:List Int)(ms:List Nat):Qa:=.tuple [tN rows,.tuple (ms.map λ(x:Nat)=>Qi x)]
def lwD:DF:=λargs R _=>∃(h w:Int)(cs:List (Int×Int))(rows:List Int),args=[.v (bdD h w cs),.v (tN rows)]/\(∀p∈cs,0<=p.2/\p.2<6)/\R (lnK rows (colK cs rows))
def QBr:DF:=λargs R _=>∃(rows:List Int)(ms:List Nat),args=[.v (lnK rows ms)]/\R (.int ((rows.length:Int)+(ms.length:Int)))
def Qit:DF:=λargs R _=>∃h:Nat,args=[.v (.int h)]/\h<=6/\R (.list ((lotsN h).map tN))
def Qu8(cs:List (Int×Int))(h:Nat):Nat:=bstI (λi=>((QbM cs ((lotsN h).getD i []):Nat):Int)) ((lotsN h).length - 1)
def fewR(cs:List (Int×Int))(h:Nat):List Int:=(lotsN h).getD (Qu8 cs h) []
def Qng:DF:=λargs R _=>∃(h w:Nat)(cs:List (Int×Int)),args=[.v (bdD h w cs)]/\GB h w cs/\R (lnK (fewR cs h) (colK cs (fewR cs h)))
theorem QB8{vs:List V}{H:Hp}{Q:VK}{Ex:XK}(h:JH false lwD vs H Q Ex):QA8 vs H Q Ex:=by
 obtain⟨A,pt,args,R,EX,dm,hp,q,⟨h1,w1,cs,rows,rfl,hc,hR⟩,k,_⟩:=h;cases q with
 |cons q1 q2=>
 cases q2 with
 |cons q2 q3=>
 cases q3;have q1:DA A H _ (bdD h1 w1 cs):=q1;have q2:DA A H _ (tN rows):=q2;refine⟨h1,w1,cs,rows,_,_,rfl,q1.mv (λa o _ e=>e) (λa z=>z.elim),q2.mv (λa o _ e=>e) (λa z=>z.elim),hc,λms pw hm v H' sm da=>?_⟩;obtain rfl:=Qrl hc pw hm;refine k _ hR v H' ⟨λb o _ e=>sm _ _ e,λp pp=>?_⟩ ?_ (λz=>nomatch z)
 ·obtain⟨_,n,e⟩:=hp p pp;exact⟨n,sm _ _ e⟩
 ·have no:∀{a:Addr}{xs:List V},H' a=some (.tup xs)->¬A a:=λe z=>by
   obtain⟨ys,e2⟩:=dm _ z;rw[sm _ _ e2] at e;cases e
  obtain⟨t,xs,rfl,e,qq⟩:=daT da;cases qq with
  |cons p1 qq=>
  cases qq with
  |cons p2 qq=>
  cases qq;obtain⟨b,x1,rfl,e1,r1⟩:=daT p1;obtain⟨c,x2,rfl,e2,r2⟩:=daT p2;rw[Qaz r1] at e1;rw[Qrh r2] at e2;exact .tup (no e) e (.cons (.tup (no e1) e1 (Qb2 rows)) (.cons (.tup (no e2) e2 (QmT _)) .nil))
def Qdp:Qa->List Int
 |.tuple ds=>ds.map toI
 |_=>[]
theorem Qd8(r:List Int):Qdp (tN r)=r:=by
 show(r.map Qi).map toI=r;rw[QL]
 conv=>rhs;rw[<- QgM r]
 exact ZK λ_ _=>rfl
theorem Qz3{n:Nat}(h:n<=6):2^n<=64:=Z6 (n:=2) (by decide) h
section
variable{P:QF}{w:Jk}{K:PySem.W.Frag}{mg:Str->Option Value}{base:Heap}
theorem Qsh:(["row", "column", "rows"]:List Str).Nodup:=by decide +kernel
theorem Qwz:Jm ["board", "rows", "columns"] ["board", "rows"] (Qq sLW):=⟨rfl,rfl,rfl,by decide +kernel,rfl,by decide +kernel,by decide +kernel⟩
theorem QAl{f   : Addr}{fd  : QM}(F:Fun K "lines_with" "lines_with" sLW f fd)(T:GlbA mg) :
  FnOk P w K mg base CX0 1 f fd ["board", "rows"] QA8:=by
 refine F.ok Qwz (λvs H Q E h=>?_) (λcdv A outer s H vs Q E hr h=>?_)
 ·obtain⟨_,_,_,_,_,_,rfl,_⟩:=h;rfl
 ·obtain⟨h1,w1,cs,rows,v1,v2,rfl,d1,d2,hc,hR⟩:=h;have un:=hr.units;refine⟨_,Qai (Qmf (i:=2) (M:=["row", "column", "rows"]) (cap:=[none,none,some 1]) (g:=(QAI K 2 (Qrd (QdY 0) (Qrd (QdY 1) QAJ)))) (tc:=(Qwk (tOp (rIn K true) (QhZ 0) (QhZ 2)))) (te:=(QhZ 1)) Qwz.nd rfl rfl rfl (by rfl) (Qr8 (Qml Qsm (pv 0) YC (λ_ _=>rfl))) (λcl ex s3 H3 C=>⟨(Qr9 rfl (Qgf (Qex (i:=0) Qsh rfl (QN rfl) (QK rfl)) (Qgf (Qex (i:=1) Qsh rfl (QN rfl) (QK rfl)) Qmj))),(Qme (Qgc Qhg (pv 0) (pv 2) (by rfl))),(pv 1)⟩))
   (QbF (QcY (Qmk (QcM (pv 1) (QcM (QcZ Qc5 (by rfl) T.tuple ZS (QbG (QbX (QkR rfl) (by rfl) T.sorted L2.boot_sorted (QbG (pv 2) ZN)) ZN)) ZN))))),?_⟩
  obtain⟨a,xs,rfl,ea,qa⟩:=daT d1;cases qa with
  |cons qa1 qa=>
  cases qa with
  |cons qa2 qa=>
  cases qa with
  |cons qa3 qa=>
  cases qa;cases qa1;cases qa2;obtain⟨ca,ys,rfl,ec,qc⟩:=daT qa3;obtain⟨b,rs,rfl,eb,qb⟩:=daT d2;rw[Qaz qb] at eb;refine⟨_,rfl,a,_,_,_,rfl,rfl,SqT.of ea,rfl,?_⟩;refine⟨ca,rfl,⟨_,SqT.of ec⟩,λp np=>?_⟩;have pa:ca≠p:=λz=>by rw[z,np] at ec;cases ec
  have pb:b≠p:=λz=>by rw[z,np] at eb;cases eb
  have ly:ys.length=cs.length:=by have:=qc.length;rwa [Qd] at this
  refine QeE ys.length (λi H3=>∃m,m<64/\H3 p=some (.ext (smX p m (ledOf w)))/\(∀b o,b≠p->H b=some o->H3 b=some o)/\∀x:Nat,x<6->(x∈Zt.Sm m↔∃q∈cs.take i,q.1∉rows/\q.2=(x:Int))) ⟨0,by decide,Jy,λb o nb e=>by rw[JM nb];exact e,λx _=>by simp[Zt.Sm]⟩ (λi H3 hi ⟨m,hm,eP,kp,iff_⟩=>?_) λH3 ⟨m,hm,eP,kp,iff_⟩=>⟨⟨ys,SqT.of (kp _ _ pa ec),Qg _⟩,?_⟩
  ·have e3:=kp _ _ pa ec;obtain⟨q,hq⟩:∃q,cs[i]? = some q:=⟨_,Qf (by omega)⟩
   obtain⟨x,hx,dx⟩:=Qnq qc i (pairD q) (by rw[Qv,hq];rfl);refine⟨⟨ys,x,SqT.of e3,hx⟩,λy H4 ⟨eH,ey⟩ kk hk=>?_⟩;subst eH;have ey:=ey ys (SqT.of e3);rw[hx] at ey;cases ey;obtain⟨qa,qs,rfl,eq,qq⟩:=daT dx;cases qq with
   |cons q1 qq=>
   cases qq with
   |cons q2 qq=>
   cases qq;cases q1;cases q2;have e4:=kp _ _ (λz=>by rw[z,np] at eq;cases eq) eq;refine⟨qa,_,rfl,SqT.of e4,rfl,?_⟩;refine⟨_,_,rfl,_,_,rfl,rfl,by exact⟨rfl,trivial⟩,?_⟩;refine⟨_,rfl,_,rfl,b,_,rfl,.inr (SqT.of (kp _ _ pb eb)),rfl,QkI rows,_,rfl,?_⟩;show if(!inV (.int q.1) (rows.map V.int))=true then _ else _
   rw[QjG];have qm:=Ja hq;have tk:∀r,r∈cs.take (i+1)↔r∈cs.take i∨r=q:=λr=>by rw[YF,hq,Jf];simp
   by_cases z:q.1∈rows
   ·rw[decide_eq_true z];refine hk _ ⟨m,hm,eP,kp,λx h6=>?_⟩;rw[iff_ x h6];constructor
    ·rintro⟨r,hr,h1,h2⟩;exact⟨r,(tk r).mpr (.inl hr),h1,h2⟩
    ·rintro⟨r,hr,h1,h2⟩;rcases(tk r).mp hr with y | y
     ·exact⟨r,y,h1,h2⟩
     ·subst y;exact absurd z h1
   ·rw[decide_eq_false z];obtain⟨c0,c6⟩:=hc q qm;obtain⟨c,ec'⟩:∃c:Nat,q.2=(c:Int):=⟨q.2.toNat,by omega⟩
    have hc6:c<6:=by omega
    refine⟨_,rfl,c,m,by rw[ec'],hc6,hm,eP,hk _ ⟨m ||| 2^c,Zt.QA5 ⟨m,hm⟩ ⟨c,hc6⟩,Jy,λb o nb e=>by rw[JM nb];exact kp b o nb e,λx h6=>?_⟩⟩;have so:=QzN ⟨m,hm⟩ ⟨c,hc6⟩ ⟨x,h6⟩
    dsimp only at so
    have so:x∈Zt.Sm (m ||| 2^c)↔x∈Zt.Sm m∨x=c:=by
     rw[J8] at so
     simpa using so
    rw[so,iff_ x h6];constructor
    ·rintro(⟨r,hr,h1,h2⟩ | y)
     ·exact⟨r,(tk r).mpr (.inl hr),h1,h2⟩
     ·exact⟨q,(tk q).mpr (.inr rfl),z,by rw[ec',y]⟩
    ·rintro⟨r,hr,h1,h2⟩;rcases(tk r).mp hr with y | y
     ·exact .inl ⟨r,y,h1,h2⟩
     ·subst y;exact .inr (by omega)
  ·refine⟨_,rfl,_,rfl,p,m,rfl,hm,eP,λt H5 s5 nt et=>⟨t,_,rfl,.inl ⟨SqL.of et,λl nl=>⟨by show 2<=1000;decide,λt2 H6 s6 n6 e6=>?_⟩⟩⟩⟩;have sm:Same H H6:=λc o e=>by
    have h5:=s5 _ _ (kp c o (λz=>by rw[z,np] at e;cases e) e);exact s6 _ _ (by rw[JM (λz=>by rw[z,nl] at h5;cases h5)];exact h5)
   have el:H6 l=some (.tup ((Zt.Sm m).map λ(n:Nat)=>V.int (n:Int))):=s6 _ _ Jy;refine hR (Zt.Sm m) (Zt.QyD ⟨m,hm⟩) (λx=>?_) (.ref t2) H6 sm (.tup (λz=>z) e6 (.cons (.tup (λz=>z) (sm _ _ eb) (Qb2 rows)) (.cons (.tup (λz=>z) el (Dl.QmT _)) .nil)));rw[ly,ZQ] at iff_;constructor
   ·intro hx;exact(iff_ x (Zt.QyE hx)).mp hx
   ·rintro⟨q,hq,h1,h2⟩;have:=hc q hq;exact(iff_ x (by omega)).mpr ⟨q,hq,h1,h2⟩
end
end Rk
namespace Rk
open L2 _root_.Rd
open Dl
open Rt
def QyW:Qa->Int
 |.tuple ds=>ds.length
 |_=>0
def nLn:Qa->Int
 |.tuple [a,b]=>QyW a+QyW b
 |_=>0
def QyX(h w:Int)(cs:List (Int×Int)):Qa->Bool
 |.tuple [a,b]=>Qoh h w cs a&&(QjD h w cs b&&decide (QyW a=nLn b))
 |_=>false
def sh2(d:Qa):Prop:=Qfh d/\Qww d
def QrW(d:Qa):Prop:=∀ds,d=.tuple ds->∀e∈ds,sh2 e
def how22D:DF:=λargs R _=>∃rs ms:List Int,args=[.v (lnD (rs,ms))]/\R (.int (((rs.map Qi).length:Int)+((ms.map Qi).length:Int)))
def Qtn:DF:=λargs R _=>∃(h w:Int)(cs:List (Int×Int))(d:Qa),args=[.v (bdD h w cs),.v d]/\QrW d/\R (.bool (QyX h w cs d))
theorem QxY{h w:Int}{cs:List (Int×Int)}{b:Qa}(q:QjD h w cs b=true):∃rs ms,b=lnD (rs,ms):=by
 cases b<;>first | (cases q;done) | skip
 rename_i ds
 match ds,q with
 |[a,b],q=>
  have z:=QR.mp (QR.mp (show((Qdv h a&&Qdv w b)&&_)=true from q)).1;obtain⟨rs,rfl,_⟩:=QjC z.1;obtain⟨ms,rfl,_⟩:=QjC z.2;exact⟨rs,ms,rfl⟩
 |[],q=>cases q
 |[_],q=>cases q
 |_::_::_::_,q=>cases q
theorem QxW{h w:Int}{cs:List (Int×Int)}{b:Qa}(q:Qoh h w cs b=true):∃ds,b=.tuple ds:=by
 cases b<;>first | (cases q;done) | skip
 exact⟨_,rfl⟩
theorem QzO{ds:List Qa}(h:ds.length<=1000)(hd:∀d∈ds,∃p,d=pairD p):sh2 (.tuple ds):=⟨Qdh h,λes e=>by
 cases e;intro x hx;obtain⟨p,rfl⟩:=hd x hx;exact Qdh (show 2<=1000 by decide)⟩
theorem Qzz{fr:Bool}{D D':DF}(h:∀args R EX,D args R EX->D' args R EX){vs:List V}{H:Hp}{Q:VK}{Ex:XK}(q:JH fr D vs H Q Ex):JH fr D' vs H Q Ex:=by
 obtain⟨A,pt,args,R,EX,dm,hp,q,hd,k,o⟩:=q;exact⟨A,pt,args,R,EX,dm,hp,q,h _ _ _ hd,k,o⟩
theorem Qx2{vs:List V}{H:Hp}{Q:VK}{Ex:XK}(h:JH false QBr vs H Q Ex):JH false how22D vs H Q Ex:=Qzz (λargs R EX ⟨rows,ms,ea,hR⟩=>by
 refine⟨rows,ms.map λ(x:Nat)=>(x:Int),?_,?_⟩
 ·rw[ea];show[Sl.v (.tuple [tN rows,.tuple (ms.map λ(x:Nat)=>Qi x)])]=[Sl.v (.tuple [tN rows,tN (ms.map λ(x:Nat)=>(x:Int))])];rw[show(ms.map λ(x:Nat)=>Qi x)=(ms.map λ(x:Nat)=>(x:Int)).map Qi by rw[QL];rfl];rfl
 ·rw[Qd,Qd,Qd];exact hR) h
section
variable{P:QF}{w:Jk}{K:PySem.W.Frag}{mg:Str->Option Value}{base:Heap}
theorem QwC:Jm ["lines"] ["lines"] (Qq sHow):=⟨rfl,rfl,rfl,by decide +kernel,rfl,by decide +kernel,by decide +kernel⟩
theorem QxB{f   : Addr}{fd  : QM}(F:Fun K "how_many_lines" "how_many_lines" sHow f fd)(T:GlbA mg) :
  FnOk P w K mg base CX0 1 f fd ["lines"] (JH false how22D):=by
 refine okQ false F QwC (λargs R EX h=>?_) (λcdv A outer s H E hr=>?_)
 ·obtain⟨rs,ms,rfl,_⟩:=h;rfl
 ·have hU:=Room.u60 hr;have hI:=Room.i60 hr;refine⟨_,QY (ZW (Yq Z4 Y4 (QZ (Zb ZG QaJ (by rfl) T.len Qac (QaV (Q5 (Qah JF Zh (qp 0) (Q5 Jt) (λ_ _=>rfl))) Je))) (QZ (Zb ZG QaJ (by rfl) T.len Qac (QaV (Q5 (Qah JF Zh (qp 0) (Q5 Jt) (λ_ _=>rfl))) Je))))),λargs R EX h=>?_⟩;obtain⟨rs,ms,rfl,hR⟩:=h;exact⟨_,Jq (j:=0) rfl,_,Jq (j:=1) rfl,hR⟩
theorem QpW:(["rows", "row"]:List Str).Nodup:=by decide +kernel
theorem Qf2:Jm ["high", "lots", "row"] ["high"] (Qq Qkq):=⟨rfl,rfl,rfl,by decide +kernel,rfl,by decide +kernel,by decide +kernel⟩
theorem QuF{f   : Addr}{fd  : QM}(F:Fun K "lots_of_rows" "lots_of_rows" Qkq f fd)(T:GlbA mg) :
  FnOk P w K mg base CX0 1 f fd ["high"] (JH false Qit):=by
 refine okQ false F Qf2 (λargs R EX h=>?_) (λcdv A outer s H E hr=>?_)
 ·obtain⟨h,rfl,_⟩:=h;rfl
 ·have hU:=Room.u60 hr;have hI:=Room.i60 hr;refine⟨_,QC (ZI 1 (J1 (Qgb (YZ (J1 (Y7 Je)) Je))) Qf2.nd)
   (QC (Qci JQ rfl (Qbi (by rfl) T.range (qp 0)) (ZF 2 Qf2.nd rfl (by first | exact QN rfl | exact QK rfl))
    (QY (ZI 1 (J1 (Yq Z4 Y4 (qp 1) (QZ (Y9 ["rows", "row"] [none,some 2] (Qev (qp 1)) (λcl ex s3 H3 C=>⟨(ZF 0 QpW rfl (QN rfl) (QK rfl)),Z3,(J1 (Yq Z4 Y4 (qp 0) (QZ (Y7 (YZ (qv 1) Je)))))⟩))))) Qf2.nd)))
   (QY (Zz (qv 1)))),λargs R EX h=>?_⟩
  obtain⟨h,rfl,h6,hR⟩:=h;refine⟨⟨by omega,by omega⟩,QeJ (λi δ=>∃x2,δ=[.v (.int h),.v (.list ((lotsN i).map tN)),x2]) ⟨_,rfl⟩ ?_ ?_⟩
  ·rintro i δ hi ⟨x2,rfl⟩;rw[QH] at hi;have l1:=Qc2 i;have l2:=Qz3 (show i<=6 by omega);refine Qab (λd=>tN (Qdp d++[(0+(i:Int))])) (λd hd k2 hk=>?_) ?_
   ·obtain⟨r,hr,rfl⟩:=Qh.mp hd;have hk:k2 (tN (Qdp (tN r)++[(0+(i:Int))])):=hk;rw[Qd8] at hk;have rl:=(Qc3 hr).2.2;refine⟨by rw[Qd];show _+1<=_;omega,?_⟩;rw[show r.map Qi++[Qi (0+(i:Int))]=(r++[(0+(i:Int))]).map Qi by rw[Jr];rfl];exact hk
   ·refine⟨by rw[Qd,Qd,Qd];omega,.v (.int (0+(i:Int))),?_⟩;have e:((lotsN i).map tN).map (λd=>tN (Qdp d++[(0+(i:Int))]))=((lotsN i).map λr=>r++[(i:Int)]).map tN:=by
     rw[QL,QL];refine ZK λr _=>?_
     show tN (Qdp (tN r)++[(0+(i:Int))])=tN (r++[(i:Int)]);rw[Qd8,show(0:Int)+(i:Int)=(i:Int) by omega]
    rw[e,<- Jr];rfl
  ·rintro δ ⟨x2,rfl⟩;rw[QH];exact hR
theorem Qkx:(["rows", "board"]:List Str).Nodup:=by decide +kernel
theorem QlY:Jm ["board"] ["board"] (Qq sFew):=⟨rfl,rfl,rfl,by decide +kernel,rfl,by decide +kernel,by decide +kernel⟩
theorem QmH{f f1 f2 f3  : Addr}{fd fd1 fd2 fd3:QM}(F:Fun K "fewest_lines" "fewest_lines" sFew f fd)(T:GlbA mg)
  (m1:mg "lines_with" = some (.ref f1))(G1:FnOk P w K mg base CX0 1 f1 fd1 ["board", "rows"] (JH false lwD))(b1:Binds K fd1 ["board", "rows"] [])(k1:PySem.W.keepIn K (.ref f1)=true)
  (m2:mg "lots_of_rows" = some (.ref f2))(G2:FnOk P w K mg base CX0 1 f2 fd2 ["high"] (JH false Qit))(b2:Binds K fd2 ["high"] [])(k2:PySem.W.keepIn K (.ref f2)=true)
  (m3:mg "how_many_lines" = some (.ref f3))(G3:FnOk P w K mg base CX0 1 f3 fd3 ["lines"] (JH false QBr))(b3:Binds K fd3 ["lines"] [])(k3:PySem.W.keepIn K (.ref f3)=true) :
  FnOk P w K mg base CX0 3 f fd ["board"] (JH false Qng):=by
 refine okQ false F QlY (λargs R EX h=>?_) (λcdv A outer s H E hr=>?_)
 ·obtain⟨h,w,cs,rfl,_⟩:=h;rfl
 ·have hU:=Room.u60 hr;have hI:=Room.i60 hr;refine⟨_,QY (Zz (QwS G3 (hr.mono (by decide)) (by rfl) T.min (by rfl) m3 b3 (QZ (Y9 ["rows", "board"] [none,some 0] (Qev (Q5 (Jw G2 (hr.mono (by decide)) (by rfl) m2 k2 b2 JL (J5 (Qah JF Zh (qp 0) (Q5 Jt) (λ_ _=>rfl)) Jg)))) (λcl ex s3 H3 C=>⟨(ZF 0 Qkx rfl (QN rfl) (QK rfl)),Z3,(Jw G1 (hr.mono (by decide)) (by rfl) m1 k1 b1 JL (J5 (qv 1) (J5 (qv 0) Jg)))⟩))))),λargs R EX h=>?_⟩;obtain⟨h,w,cs,rfl,g,hR⟩:=h;have h6:=g.bds.1;have l1:=Qc2 h;have l0:0<2^h:=Qa7 h;refine⟨_,Jq (j:=0) rfl,h,rfl,h6,?_⟩;refine Qab (λd=>lnK (Qdp d) (colK cs (Qdp d))) (λd hd k2 hk=>?_) ?_
  ·obtain⟨r,hr,rfl⟩:=Qh.mp hd;have hk:k2 (lnK (Qdp (tN r)) (colK cs (Qdp (tN r)))):=hk;rw[Qd8] at hk;exact⟨_,_,_,r,rfl,QsA g,hk⟩
  ·have e:((lotsN h).map tN).map (λd=>lnK (Qdp d) (colK cs (Qdp d)))=(lotsN h).map λr=>lnK r (colK cs r):=by
    rw[QL];exact ZK λr _=>by show lnK (Qdp (tN r)) (colK cs (Qdp (tN r)))=_;rw[Qd8]
   rw[e];refine QuQ (λi=>((QbM cs ((lotsN h).getD i []):Nat):Int)) (λz=>by have:=congrArg List.length z;rw[Qd] at this;have:(lotsN h).length=0:=this;omega) (λi d hd=>?_) λd hd=>?_
   ·rw[Qv] at hd;obtain⟨r,hr,rfl⟩:∃r,(lotsN h)[i]? = some r/\d=lnK r (colK cs r):=by
     cases z:(lotsN h)[i]? with
     |none=>rw[z] at hd;cases hd
     |some r=>rw[z] at hd;cases hd;exact⟨r,rfl,rfl⟩
    refine⟨r,_,rfl,?_⟩;show Qi _=Qi ((QbM cs ((lotsN h).getD i []):Nat):Int);rw[Qo,hr];show Qi _=Qi ((r.length+(colK cs r).length:Nat):Int);rw[Int.natCast_add]
   ·rw[Qd,Qv] at hd;have hd:((lotsN h)[Qu8 cs h]?).map (λr=>lnK r (colK cs r))=some d:=hd;have fr:fewR cs h=((lotsN h)[Qu8 cs h]?).getD []:=by unfold fewR;rw[Qo]
    cases z:(lotsN h)[Qu8 cs h]? with
    |none=>rw[z] at hd;cases hd
    |some r=>
     rw[z] at hd fr;cases hd;have fr:fewR cs h=r:=fr;rw[fr] at hR;exact hR
end
def Ql3:DF:=λargs R _=>∃(h w:Nat)(cs:List (Int×Int))(k:Nat),args=[.v (bdD h w cs),.v (.int k)]/\k<=min h w/\R .none
def Qd5:DF:=λargs R _=>∃(h w:Nat)(cs:List (Int×Int))(k n:Nat)(L:List (Int×Int)),args=[.v (bdD h w cs),.v (.int k),.v (.int n)]/\GB h w cs/\k<=min h w/\(evS cs k)[n]? = some L/\R (stT L)
section
variable{P:QF}{w:Jk}{K:PySem.W.Frag}{mg:Str->Option Value}{base:Heap}
theorem QoO:Jm ["thing"] ["thing"] (Qq Qfi):=⟨rfl,rfl,rfl,by decide +kernel,rfl,by decide +kernel,by decide +kernel⟩
theorem QpE{f   : Addr}{fd  : QM}(F:Fun K "is_whole" "is_whole" Qfi f fd)(T:GlbA mg) :
  FnOk P w K mg base CX0 1 f fd ["thing"] (JH false Qlr):=by
 refine okQ false F QoO (λargs R EX h=>?_) (λcdv A outer s H E hr=>?_)
 ·obtain⟨d,rfl,_⟩:=h;rfl
 ·have hU:=Room.u60 hr;have hI:=Room.i60 hr;refine⟨_,QY (Zz (Qe7 (QZ (QdK .int (by rfl) T.isinstance (qp 0) (by rfl) T.int QsI)) (Qew (Qz0 (QZ (QdK .bool (by rfl) T.isinstance (qp 0) (by rfl) T.bool Qvw)))))),λargs R EX h=>?_⟩;obtain⟨d,rfl,hR⟩:=h;cases d<;>exact hR
theorem QlT:Jm ["thing", "least", "most"] ["thing", "least", "most"] (Qq Qdk):=⟨rfl,rfl,rfl,by decide +kernel,rfl,by decide +kernel,by decide +kernel⟩
theorem QmB{f f1  : Addr}{fd fd1:QM}(F:Fun K "is_whole_within" "is_whole_within" Qdk f fd)(T:GlbA mg)
  (m1:mg "is_whole" = some (.ref f1))(G1:FnOk P w K mg base CX0 1 f1 fd1 ["thing"] (JH false Qlr))(b1:Binds K fd1 ["thing"] [])(k1:PySem.W.keepIn K (.ref f1)=true) :
  FnOk P w K mg base CX0 2 f fd ["thing", "least", "most"] (JH false Qcq):=by
 refine okQ false F QlT (λargs R EX h=>?_) (λcdv A outer s H E hr=>?_)
 ·obtain⟨d,a,b,rfl,_⟩:=h;rfl
 ·have hU:=Room.u60 hr;have hI:=Room.i60 hr;refine⟨_,QY (Zz (Qe7 (Q5 (Jw G1 (hr.mono (by decide)) (by rfl) m1 k1 b1 JL (J5 (qv 0) Jg))) (Qew (J1 (QB3 Quo Quo (qp 1) (qp 0) (qp 2)))))),λargs R EX h=>?_⟩;obtain⟨d,a,b,rfl,hR⟩:=h;refine⟨d,rfl,?_⟩;cases d with
  |int i=>exact QAw (Qyy hR)
  |_=>exact hR
theorem Qts:Jm ["board"] ["board"] (Qq Qkp):=⟨rfl,rfl,rfl,by decide +kernel,rfl,by decide +kernel,by decide +kernel⟩
theorem QuE{f   : Addr}{fd  : QM}(F:Fun K "most_size" "most_size" Qkp f fd)(T:GlbA mg) :
  FnOk P w K mg base CX0 1 f fd ["board"] (JH false QpY):=by
 refine okQ false F Qts (λargs R EX h=>?_) (λcdv A outer s H E hr=>?_)
 ·obtain⟨h,w,cs,rfl,_⟩:=h;rfl
 ·have hU:=Room.u60 hr;have hI:=Room.i60 hr;refine⟨_,QY (ZW (Zb (QhJ rfl) Qrp (by rfl) T.min QsG (QaV (Q5 (Qah JF Zh (qp 0) (Q5 Jt) (λ_ _=>rfl))) (QaV (Q5 (Qah JF Zh (qp 0) (Q5 Jt) (λ_ _=>rfl))) Je)))),λargs R EX h=>?_⟩;obtain⟨h,w,cs,rfl,hR⟩:=h;exact⟨_,Jq (j:=0) rfl,_,Jq (j:=1) rfl,QuR (by split<;>omega) hR⟩
theorem Qdi:Jm ["below", "columns", "taken", "ways", "column", "bit", "size", "many"] ["below", "columns", "taken"] (Qq sRow):=⟨rfl,rfl,rfl,by decide +kernel,rfl,by decide +kernel,by decide +kernel⟩
theorem Quu{f   : Addr}{fd  : QM}(F:Fun K "ways_with_row" "ways_with_row" sRow f fd)(T:GlbA mg) :
  FnOk P w K mg base CX0 1 f fd ["below", "columns", "taken"] (JH true Qs2):=by
 refine okQ true F Qdi (λargs R EX h=>?_) (λcdv A outer s H E hr=>?_)
 ·obtain⟨h,w,B,cols,t,rfl,_⟩:=h;rfl
 ·have hU:=Room.u60 hr;have hI:=Room.i60 hr;refine⟨_,QC (Qet 3 (Y2 Qgz Qvt (by rfl) T.list QnI (QaV (Q5 (Qah JF Zh (qp 0) (qp 2) (λ_ _=>rfl))) Je)) Qdi.nd)
   (QC (Qci JQ rfl (Qev (qv 1)) (ZF 4 Qdi.nd rfl (by first | exact QN rfl | exact QK rfl))
    (QC (ZI 5 (J1 (Yq Qjq QmO (Q5 Jt) (qp 4))) Qdi.nd)
   (QY (QaI (YQ (Qma (QZ (Yq Qxw QdN (qp 2) (qp 5))))) (QY (Qci JQ rfl (Qji (by rfl) T.enumerate (J1 (Qcu (Q5 (Qah JF Zh (qp 0) (QZ (Yq QAh QdN (qp 2) (qp 5))) (λ_ _=>rfl))) Qct (Qcs (QZ (QwR (Q5 Jt))))))) (Yc rfl (Jj 6 (Jj 7 Yd Qdi.nd rfl (by first | exact QN rfl | exact QK rfl)) Qdi.nd rfl (by first | exact QN rfl | exact QK rfl)))
    (QY (QtC 3 Qso Qio (QZ (Yq Z4 Y4 (qp 6) (Q5 Jt))) (qp 7))))) ZE))))
   (QY (Qmb 3))),λargs R EX h=>?_⟩
  obtain⟨h,w,B,cols,t,rfl,ht,hc,h6,w6,hR⟩:=h;refine⟨_,Jq (Qel ht),?_⟩;refine QbL (λj δ=>∃ds x4 x5 x6 x7,δ=[.v (.list (Qia h w B)),.v (.list (QcN cols)),.v (.int t),.own ds,x4,x5,x6,x7]/\ds=Qd9 h (Qeo B (cols.take j) t)) ⟨_,_,_,_,_,rfl,Qbb λk _=>?_⟩ ?_ ?_
  ·show B t k=B t k+if k=0 then 0 else 0
   split<;>omega
  ·rintro j d δ hd ⟨ds,x4,x5,x6,x7,rfl,rfl⟩;unfold QcN at hd;rw[Qv] at hd;obtain⟨c,ec,rfl⟩:∃c:Nat,cols[j]? = some c/\d=.int (c:Int):=by
    cases e:cols[j]? with
    |none=>rw[e] at hd;cases hd
    |some p=>rw[e] at hd;cases hd;exact⟨p,rfl,rfl⟩
   have hcw:=hc c (Ja ec);have et:cols.take (j+1)=cols.take j++[c]:=by rw[YF,ec];rfl
   refine⟨⟨by omega,by omega,by decide⟩,trivial,?_⟩;show if(!tru (.int (QcK (t:Int) (1*2^((c:Nat):Int).toNat))))=true then _ else _
   rw[Qvy ht hcw w6];cases hb:t.testBit c with
   |true=>
    have np:(2:Int)^c≠0:=by
     have:(0:Int)<2^c:=Int.pow_pos (by decide);omega
    rw[if_pos rfl];refine ifF ?_ ⟨_,_,_,_,_,rfl,Qbb λk _=>?_⟩
    ·show(!((2:Int)^c != 0))=false;simp[np]
    ·unfold Qeo;rw[et,Qem,if_pos hb,QcT]
   |false=>
    refine ifT rfl ?_
    have olt:=Qxk ht hcw;refine⟨.list (Qd9 h (B (t ||| 2^c))),?_,?_⟩
    ·show atI (Qia h w B) (Qde (t:Int) (1*2^((c:Nat):Int).toNat))=_;rw[Qxl ht hcw w6];exact Jq (Qel olt)
    ·show QvA (QdA (Dl.cutD (Qd9 h (B (t ||| 2^c))) none (some (-1)))) _ _ _ _;rw[Qo0];refine QbL (λi δ=>∃ds x6 x7,δ=[.v (.list (Qia h w B)),.v (.list (QcN cols)),.v (.int t),.own ds,.v (.int c),.v (.int (1*2^((c:Nat):Int).toNat)),x6,x7]/\ds=Qd9 h (λk=>Qeo B (cols.take j) t k+if 1<=k/\k<=i then B (t ||| 2^c) (k - 1) else 0)) ⟨_,_,_,rfl,Qbb λk _=>?_⟩ ?_ ?_
     ·rw[if_neg (by omega),QcT]
     ·rintro i d δ hd ⟨ds,x6,x7,rfl,rfl⟩;obtain⟨e,he,rfl⟩:=Qb4 hd;rw[Qv] at he;have hi:i<h:=by
       by_cases z:i<h
       ·exact z
       ·rw[Q6 (by rw[Q1];omega)] at he;cases he
      rw[Jo hi] at he;cases he;refine⟨rfl,i+1,_,?_,Qbz (by omega),_,_,_,rfl,?_⟩
      ·rw[QbW];exact QuZ (k:=i+1) (by omega)
      ·rw[QoY (by omega)];refine Qbb λk hk=>?_
       show(if k=i+1 then(Qeo B (cols.take j) t (i+1)+if 1<=i+1/\i+1<=i then B (t ||| 2^c) (i+1 - 1) else 0)+B (t ||| 2^c) i else Qeo B (cols.take j) t k+if 1<=k/\k<=i then B (t ||| 2^c) (k - 1) else 0)=Qeo B (cols.take j) t k+if 1<=k/\k<=i+1 then B (t ||| 2^c) (k - 1) else 0
       by_cases z:k=i+1
       ·subst z;rw[if_pos rfl,if_neg (by omega),if_pos (by omega),Yu,QcT]
       ·rw[if_neg z];by_cases z2:1<=k/\k<=i
        ·rw[if_pos z2,if_pos (by omega)]
        ·rw[if_neg z2,if_neg (by omega)]
     ·rintro δ ⟨ds,x6,x7,rfl,rfl⟩;rw[Qb3,Qd,Q1];refine⟨_,_,_,_,_,rfl,Qbb λk hk=>?_⟩;unfold Qeo;rw[et];by_cases z:k=0
      ·subst z;rw[if_pos rfl,if_neg (by omega),if_pos rfl];omega
      ·rw[if_neg z,if_neg z,if_pos (by omega),Qem,if_neg (by rw[hb];decide)];omega
  ·rintro δ ⟨ds,x4,x5,x6,x7,rfl,rfl⟩;unfold QcN;rw[Qd,ZQ];exact hR
theorem QpT:(["taken", "high"]:List Str).Nodup:=by decide +kernel
theorem Qjt:(["at", "column", "row"]:List Str).Nodup:=by decide +kernel
theorem QpS:(["taken", "columns", "table"]:List Str).Nodup:=by decide +kernel
theorem Qcr:Jm ["board", "high", "wide", "cells", "table", "row", "columns"] ["board"] (Qq Qkh):=⟨rfl,rfl,rfl,by decide +kernel,rfl,by decide +kernel,by decide +kernel⟩
theorem Quw{f f1  : Addr}{fd fd1:QM}(F:Fun K "ways_to_go_on" "ways_to_go_on" Qkh f fd)(T:GlbA mg)
  (m1:mg "ways_with_row" = some (.ref f1))(G1:FnOk P w K mg base CX0 1 f1 fd1 ["below", "columns", "taken"] (JH true Qs2))(b1:Binds K fd1 ["below", "columns", "taken"] [])(k1:PySem.W.keepIn K (.ref f1)=true) :
  FnOk P w K mg base CX0 2 f fd ["board"] (JH true QoA):=by
 refine okQ true F Qcr (λargs R EX h=>?_) (λcdv A outer s H E hr=>?_)
 ·obtain⟨h,w,cs,rfl,_⟩:=h;rfl
 ·have hU:=Room.u60 hr;have hI:=Room.i60 hr;refine⟨_,QC (QbD (qv 0) (Yc rfl (Jj 1 (Jj 2 (Jj 3 Yd Qcr.nd rfl (by first | exact QN rfl | exact QK rfl)) Qcr.nd rfl (by first | exact QN rfl | exact QK rfl)) Qcr.nd rfl (by first | exact QN rfl | exact QK rfl))))
   (QC (Qet 4 (Qgb (YZ (J1 (Y9 ["taken", "high"] [none,some 1] (Qbi (by rfl) T.range (QZ (Yq Qjq QmO (Q5 Jt) (qp 2)))) (λcl ex s3 H3 C=>⟨(ZF 0 QpT rfl (QN rfl) (QK rfl)),Z3,(J1 (Yq Z4 Y4 (QZ (Qgb (YZ Jt Je))) (QZ (Yq QmA Qse (QZ (Qgb (YZ Jt Je))) (qp 1)))))⟩))) Je)) Qcr.nd)
   (QC (Qci JQ rfl (Qmd (by rfl) T.reversed (by rfl) T.range (qp 1)) (ZF 5 Qcr.nd rfl (by first | exact QN rfl | exact QK rfl))
    (QC (ZI 6 (J1 (Y9 ["at", "column", "row"] [none,none,some 5] (Qar (qp 3)) (λcl ex s3 H3 C=>⟨(Yc rfl (Jj 0 (Jj 1 Yd Qjt rfl (QN rfl) (QK rfl)) Qjt rfl (QN rfl) (QK rfl))),(QbB (Z1 Qck (Qe9 hU) (qp 0) (qp 2) (ZA _))),(qv 1)⟩))) Qcr.nd)
   (QY (QwP 4 Jt (J1 (Y9 ["taken", "columns", "table"] [none,some 6,some 4] (Qbi (by rfl) T.range (QZ (Yq Qjq QmO (Q5 Jt) (qp 2)))) (λcl ex s3 H3 C=>⟨(ZF 0 QpS rfl (QN rfl) (QK rfl)),Z3,(J1 (Y3 G1 (hr.mono (by decide)) (by rfl) m1 k1 b1 JL (J5 (Qah JF Zh (qp 2) (Q5 Jt) (λ_ _=>rfl)) (J5 (qv 1) (J5 (qv 0) Jg)))))⟩)))))))
   (QY (Qmb 4)))),λargs R EX h=>?_⟩
  obtain⟨h,w,cs,rfl,h6,w6,hb,hR⟩:=h;refine⟨rfl,⟨by omega,by omega,by decide⟩,?_,Qab (λ_=>.list (Qi 1::Ji h (.int 0))) (λd hd k2 hk=>?_) ?_⟩
  ·exact Qr7 w6
  ·refine⟨⟨by omega,by omega,by rw[QH];show 1*h<=_;omega⟩,?_⟩;rw[QH,Qtv];refine⟨by rw[QaB];show 1+h<=_;omega,hk⟩
  ·have e0:(Qjb 0 (1*2^((w:Nat):Int).toNat:Int).toNat).map (λ_=>Ys (Qi 1::Ji h (.int 0)))=Qia h w (Wc cs h 0):=by
    rw[Qge,QH];unfold Qjb Qia;rw[QL];refine ZK λt _=>?_
    show Ys _=Ys _;rw[QoZ]
   rw[e0];refine⟨⟨by omega,by omega⟩,QbL (λi δ=>∃ds x5 x6,δ=[.v (bdD h w cs),.v (.int h),.v (.int w),.v (.tuple (cs.map pairD)),.own ds,x5,x6]/\ds=Qi3 cs h w i) ⟨_,_,_,rfl,rfl⟩ ?_ ?_⟩
   ·rintro i d δ hd ⟨ds,x5,x6,rfl,rfl⟩;obtain⟨hi,rfl⟩:=Qf9 hd;rw[QH] at hi;have er:((((h:Nat):Int).toNat:Nat):Int) - 1 - (i:Int)=((h - 1 - i:Nat):Int):=by omega
    rw[er];refine QkP (λd=>if(toP d).1=((h - 1 - i:Nat):Int) then some (.int (toP d).2) else none) (λd hd k1 k2 h1 h2=>?_) ?_
    ·obtain⟨p,_,rfl⟩:=Qh.mp hd;have h1:(if p.1=((h - 1 - i:Nat):Int) then some (Qi p.2) else none)=none->k1:=h1;have h2:∀e,(if p.1=((h - 1 - i:Nat):Int) then some (Qi p.2) else none)=some e->k2 e:=h2
     refine⟨rfl,?_⟩;show if decide (p.1=((h - 1 - i:Nat):Int))=true then k2 (.int p.2) else k1
     by_cases z:p.1=((h - 1 - i:Nat):Int)
     ·rw[if_pos (decide_eq_true z)];exact h2 _ (if_pos z)
     ·rw[if_neg (by simpa using z)];exact h1 (if_neg z)
    ·rw[Qyp cs (h - 1 - i) λp hp=>(hb p hp).1];refine⟨⟨by omega,by omega,by decide⟩,?_,Qab (λd=>match d with | .int t=>.list (Qd9 h (Wc cs h (i+1) t.toNat)) | _=>.none) (λd hd k2 hk=>?_) ?_⟩
     ·exact Qr7 w6
     ·obtain⟨t,ht⟩:=JK.mp hd;obtain⟨htl,rfl⟩:=Qes ht;rw[Qge,QH] at htl;have hk:k2 (.list (Qd9 h (Wc cs h (i+1) (0+(t:Int)).toNat))):=hk;rw[show(0+(t:Int)).toNat=t by omega] at hk;refine⟨_,Jq (j:=0) (Qh9 cs h w i),h,w,Wc cs h i,QkN cs (h - 1 - i),t,by rw[show(0:Int)+(t:Int)=(t:Int) by omega],htl,λc hc=>Qvl hb hc,h6,w6,hk⟩
     ·refine⟨by rw[Qi1];omega,_,_,_,rfl,?_⟩;show Ys _::Qi3 cs h w i=Ys (Qia h w (Wc cs h (i+1)))::Qi3 cs h w i
      congr 2
      rw[Qge,QH];unfold Qjb Qia;rw[QL];refine ZK λt _=>?_
      show Ys (Qd9 h (Wc cs h (i+1) (0+(t:Int)).toNat))=_;rw[show(0+(t:Int)).toNat=t by omega]
   ·rintro δ ⟨ds,x5,x6,rfl,rfl⟩;rw[Qea,QH];exact hR
theorem QlZ:Jm ["board"] ["board"] (Qq Qdn):=⟨rfl,rfl,rfl,by decide +kernel,rfl,by decide +kernel,by decide +kernel⟩
theorem QmI{f f1 f2  : Addr}{fd fd1 fd2:QM}(F:Fun K "counts" "counts" Qdn f fd)(T:GlbA mg)
  (m1:mg "ways_to_go_on" = some (.ref f1))(G1:FnOk P w K mg base CX0 2 f1 fd1 ["board"] (JH true QoA))(b1:Binds K fd1 ["board"] [])(k1:PySem.W.keepIn K (.ref f1)=true)
  (m2:mg "most_size" = some (.ref f2))(G2:FnOk P w K mg base CX0 1 f2 fd2 ["board"] (JH false QpY))(b2:Binds K fd2 ["board"] [])(k2:PySem.W.keepIn K (.ref f2)=true) :
  FnOk P w K mg base CX0 3 f fd ["board"] (JH true QeQ):=by
 refine okQ true F QlZ (λargs R EX h=>?_) (λcdv A outer s H E hr=>?_)
 ·obtain⟨h,w,cs,rfl,_⟩:=h;rfl
 ·have hU:=Room.u60 hr;have hI:=Room.i60 hr;refine⟨_,QY (ZW (Qcu (Q5 (Qah JF Zh (Q5 (Qah JF Zh (QZ (Y3 G1 (hr.mono (by decide)) (by rfl) m1 k1 b1 JL (J5 (qv 0) Jg))) (Q5 Jt) (λ_ _=>rfl))) (Q5 Jt) (λ_ _=>rfl))) Qct (Qcs (QZ (Yq Z4 Y4 (Q5 (Jw G2 (hr.mono (by decide)) (by rfl) m2 k2 b2 JL (J5 (qv 0) Jg))) (Q5 Jt)))))),λargs R EX h=>?_⟩;obtain⟨h,w,cs,rfl,h6,w6,hb,hR⟩:=h;refine⟨_,_,_,rfl,h6,w6,hb,_,Jq (j:=0) (Qh9 cs h w h),_,Jq (j:=0) (Qel (Qa7 w)),_,_,_,rfl,?_⟩;have e:Dl.cutD (Qd9 h (Wc cs h h 0)) none (some (((min h w:Nat):Int)+1))=QfE cs h w:=by
   rw[QjW _ _ (by omega)];unfold Qd9 QfE;rw[<- Qd0,QvJ,show min (((min h w:Nat):Int)+1).toNat (h+1)=min h w+1 by omega]
  have hR:R (.list (QfE cs h w)):=hR;rw[<- e] at hR;exact hR
theorem Qtp:Jm ["start"] ["start"] (Qq Qkm):=⟨rfl,rfl,rfl,by decide +kernel,rfl,by decide +kernel,by decide +kernel⟩
theorem QuB{f   : Addr}{fd  : QM}(F:Fun K "row_behind" "row_behind" Qkm f fd)(T:GlbA mg) :
  FnOk P w K mg base CX0 1 f fd ["start"] (JH false QoW):=by
 refine okQ false F Qtp (λargs R EX h=>?_) (λcdv A outer s H E hr=>?_)
 ·obtain⟨S,rfl,_⟩:=h;rfl
 ·have hU:=Room.u60 hr;have hI:=Room.i60 hr;refine⟨_,QY (Zz (Qz1 (Qma (qp 0)) (J1 (Yq Z4 Y4 (Q5 (Qah JF Zh (Q5 (Qah JF Zh (qp 0) (QZ (QwR (Q5 Jt))) (λ_ _=>rfl))) (Q5 Jt) (λ_ _=>rfl))) (Q5 Jt))) Jt)),λargs R EX h=>?_⟩;obtain⟨S,rfl,hR⟩:=h;refine⟨trivial,?_⟩;unfold rbI at hR;cases e:S.getLast? with
  |none=>
   rw[e] at hR;rw[List.getLast?_eq_none_iff] at e;subst e;exact hR
  |some c=>
   rw[e] at hR;refine ifT ?_ ⟨_,QuX e,_,Jq (j:=0) rfl,hR⟩
   cases S with
   |nil=>cases e
   |cons a b=>rfl
theorem QuP:(["cell"]:List Str).Nodup:=by decide +kernel
theorem QuO:(["cell", "row", "taken"]:List Str).Nodup:=by decide +kernel
theorem QlX:Jm ["board", "start", "row", "taken"] ["board", "start"] (Qq sFol):=⟨rfl,rfl,rfl,by decide +kernel,rfl,by decide +kernel,by decide +kernel⟩
theorem QxC{f f1  : Addr}{fd fd1:QM}(F:Fun K "followers" "followers" sFol f fd)(T:GlbA mg)
  (m1:mg "row_behind" = some (.ref f1))(G1:FnOk P w K mg base CX0 1 f1 fd1 ["start"] (JH false QoW))(b1:Binds K fd1 ["start"] [])(k1:PySem.W.keepIn K (.ref f1)=true) :
  FnOk P w K mg base CX0 2 f fd ["board", "start"] (JH false QAK):=by
 refine okQ false F QlX (λargs R EX h=>?_) (λcdv A outer s H E hr=>?_)
 ·obtain⟨h,w,cs,S,rfl,_⟩:=h;rfl
 ·have hU:=Room.u60 hr;have hI:=Room.i60 hr;refine⟨_,QC (ZI 2 (Jw G1 (hr.mono (by decide)) (by rfl) m1 k1 b1 JL (J5 (qv 1) Jg)) QlX.nd)
   (QC (ZI 3 (J1 (Y9 ["cell"] [none] (Qar (qp 1)) (λcl ex s3 H3 C=>⟨(ZF 0 QuP rfl (QN rfl) (QK rfl)),Z3,(Qah JF Zh (qp 0) (Q5 Jt) (λ_ _=>rfl))⟩))) QlX.nd)
   (QY (ZW (Y9 ["cell", "row", "taken"] [none,some 2,some 3] (Qar (Q5 (Qah JF Zh (qp 0) (Q5 Jt) (λ_ _=>rfl)))) (λcl ex s3 H3 C=>⟨(ZF 0 QuO rfl (QN rfl) (QK rfl)),(QbB (Qkt (Ql9 (Z1 Qur Qc0 (Q5 (Qah JF Zh (qp 0) (Q5 Jt) (λ_ _=>rfl))) (qp 1) (ZA _)) (Qii (Z1 QbH (Qdt hI) (Q5 (Qah JF Zh (qp 0) (Q5 Jt) (λ_ _=>rfl))) (qp 2) (by rfl)))))),(qv 0)⟩))))),λargs R EX h=>?_⟩
  obtain⟨h,w,cs,S,rfl,hR⟩:=h;refine⟨_,rfl,Qab (λd=>.int (toP d).2) (λd hd k2 hk=>?_) ?_⟩
  ·obtain⟨p,_,rfl⟩:=Qh.mp hd;exact⟨_,Jq (j:=1) rfl,hk⟩
  ·rw[show(S.map pairD).map (λd=>Qi (toP d).2)=(S.map (·.2)).map Qi by rw[QL,QL];rfl];refine⟨_,Jq (j:=2) rfl,QkP (λd=>if(λc:Int×Int=>decide (rbI S<=c.1) && !decide (c.2∈S.map (·.2))) (toP d)=true then some d else none) (λd hd k1 k2 h1 h2=>?_) ?_⟩
   ·obtain⟨c,_,rfl⟩:=Qh.mp hd;have h1:(if(decide (rbI S<=c.1) && !decide (c.2∈S.map (·.2)))=true then some (pairD c) else none)=none->k1:=h1;have h2:∀e,(if(decide (rbI S<=c.1) && !decide (c.2∈S.map (·.2)))=true then some (pairD c) else none)=some e->k2 e:=h2
    refine⟨_,Jq (j:=0) rfl,?_⟩;refine ifC (λz1=>?_) λz1=>?_
    ·have z1:decide (rbI S<=c.1)=true:=z1;rw[z1,YH] at h1 h2;refine⟨_,Jq (j:=1) rfl,⟨QbY _,rfl,by show ZP (.int _)<=50;unfold ZP;decide⟩,?_⟩;show if(!((S.map (·.2)).map Qi).any λe=>QX e (.int c.2))=true then _ else k1
     rw[QnT];by_cases z:(!decide (c.2∈S.map (·.2)))=true
     ·rw[if_pos z];exact h2 _ (if_pos z)
     ·rw[if_neg z];exact h1 (if_neg z)
    ·have z1:decide (rbI S<=c.1)=false:=z1;rw[z1] at h1;exact h1 rfl
   ·rw[QjN (λc:Int×Int=>decide (rbI S<=c.1) && !decide (c.2∈S.map (·.2)))];exact hR
theorem QoP:Jm ["board", "size"] ["board", "size"] (Qq Qfl):=⟨rfl,rfl,rfl,by decide +kernel,rfl,by decide +kernel,by decide +kernel⟩
theorem QpH{f f1 f2  : Addr}{fd fd1 fd2:QM}(F:Fun K "refuse_no_size" "refuse_no_size" Qfl f fd)(T:GlbA mg)
  (m1:mg "is_whole_within" = some (.ref f1))(G1:FnOk P w K mg base CX0 2 f1 fd1 ["thing", "least", "most"] (JH false Qcq))(b1:Binds K fd1 ["thing", "least", "most"] [])(k1:PySem.W.keepIn K (.ref f1)=true)
  (m2:mg "most_size" = some (.ref f2))(G2:FnOk P w K mg base CX0 1 f2 fd2 ["board"] (JH false QpY))(b2:Binds K fd2 ["board"] [])(k2:PySem.W.keepIn K (.ref f2)=true) :
  FnOk P w K mg base CX0 3 f fd ["board", "size"] (JH false Ql3):=by
 refine okQ false F QoP (λargs R EX h=>?_) (λcdv A outer s H E hr=>?_)
 ·obtain⟨h,w,cs,k,rfl,_⟩:=h;rfl
 ·have hU:=Room.u60 hr;have hI:=Room.i60 hr;refine⟨_,QY (QaI (YQ (YO (Q5 (Jw G1 (hr.mono (by decide)) (by rfl) m1 k1 b1 JL (J5 (qv 1) (J5 Jt (J5 (Jw G2 (hr.mono (by decide)) (by rfl) m2 k2 b2 JL (J5 (qv 0) Jg)) Jg))))))) QbC ZE),λargs R EX h=>?_⟩;obtain⟨h,w,cs,k,rfl,hk,hR⟩:=h;refine⟨_,_,_,rfl,_,_,_,rfl,?_⟩;show if(!inW (.int k) 0 ((min h w:Nat):Int))=true then _ else _
  rw[QkG (by omega) (by omega)];exact hR
theorem Qjs:(["row", "column"]:List Str).Nodup:=by decide +kernel
theorem QlU:Jm ["table", "start", "more", "taken"] ["table", "start", "more"] (Qq Qki):=⟨rfl,rfl,rfl,by decide +kernel,rfl,by decide +kernel,by decide +kernel⟩
theorem Quv{f f1  : Addr}{fd fd1:QM}(F:Fun K "ways_behind" "ways_behind" Qki f fd)(T:GlbA mg)
  (m1:mg "row_behind" = some (.ref f1))(G1:FnOk P w K mg base CX0 1 f1 fd1 ["start"] (JH false QoW))(b1:Binds K fd1 ["start"] [])(k1:PySem.W.keepIn K (.ref f1)=true) :
  FnOk P w K mg base CX0 2 f fd ["table", "start", "more"] (JH false Qs3):=by
 refine okQ false F QlU (λargs R EX h=>?_) (λcdv A outer s H E hr=>?_)
 ·obtain⟨h,w,cs,S,k,rfl,_⟩:=h;rfl
 ·have hU:=Room.u60 hr;have hI:=Room.i60 hr;refine⟨_,QC (ZI 3 (J1 (Zb (QhG rfl) QsD (by rfl) T.sum QsF (QaV (QZ (Y9 ["row", "column"] [none,none] (Qar (qp 1)) (λcl ex s3 H3 C=>⟨(Yc rfl (Jj 0 (Jj 1 Yd Qjs rfl (QN rfl) (QK rfl)) Qjs rfl (QN rfl) (QK rfl))),Z3,(J1 (Yq Qjq QmO (Q5 Jt) (qp 1)))⟩))) Je))) QlU.nd)
   (QY (Zz (Qah JF Zh (Q5 (Qah JF Zh (Q5 (Qah JF Zh (qp 0) (Q5 (Jw G1 (hr.mono (by decide)) (by rfl) m1 k1 b1 JL (J5 (qv 1) Jg))) (λ_ _=>rfl))) (qp 3) (λ_ _=>rfl))) (qp 2) (λ_ _=>rfl)))),λargs R EX h=>?_⟩
  obtain⟨h,w,cs,S,k,rfl,g,st,hk,hR⟩:=h;have rb:=QwF g st;have hw:=g.bds.2.1;have hb:∀p∈S,0<=p.2/\p.2<(w:Int):=λp hp=>g.bds.col p (st.sub p hp)
  have ms:=Qsi hw (T:=[]) (S:=S) hb st.cols (Qa7 w);rw[QgL] at ms;refine Qab (λd=>.int (1*2^(toP d).2.toNat)) (λd hd k2 hk=>?_) ?_
  ·obtain⟨p,hp,rfl⟩:=Qh.mp hd;have:=hb p hp;exact⟨rfl,⟨by omega,by show p.2<=_;omega,by decide⟩,hk⟩
  ·have es:(S.map pairD).map (λd=>Qi (1*2^(toP d).2.toNat))=(S.map λp=>(1*2^p.2.toNat:Int)).map Qi:=by rw[QL,QL];rfl
   rw[es];refine QlD _ rfl ?_
   have e2:(S.map λp=>(1*2^p.2.toNat:Int)).sum=((mkL S:Nat):Int):=by
    have:=ms.1;rw[show((mkL []:Nat):Int)=0 from rfl,QaE] at this;exact this
   rw[e2];obtain⟨r,er⟩:∃r:Nat,rbI S=r:=⟨(rbI S).toNat,by omega⟩
   have xl:=Qlo g k S st;rw[er,QH] at xl;rw[xl] at hR;refine⟨_,rfl,.list (Qia h w (Wc cs h (h - r))),?_,_,Jq (Qel ms.2),_,Jq (Qbz hk),hR⟩;rw[er];exact Jq (Qi2 cs h w h r (by omega))
theorem QaH:Jm ["board", "table", "start", "more", "number", "cells", "at", "ways"] ["board", "table", "start", "more", "number"] (Qq Qdo):=⟨rfl,rfl,rfl,by decide +kernel,rfl,by decide +kernel,by decide +kernel⟩
theorem QmJ{f f1 f2  : Addr}{fd fd1 fd2:QM}(F:Fun K "cell_at" "cell_at" Qdo f fd)(T:GlbA mg)
  (m1:mg "followers" = some (.ref f1))(G1:FnOk P w K mg base CX0 2 f1 fd1 ["board", "start"] (JH false QAK))(b1:Binds K fd1 ["board", "start"] [])(k1:PySem.W.keepIn K (.ref f1)=true)
  (m2:mg "ways_behind" = some (.ref f2))(G2:FnOk P w K mg base CX0 2 f2 fd2 ["table", "start", "more"] (JH false Qs3))(b2:Binds K fd2 ["table", "start", "more"] [])(k2:PySem.W.keepIn K (.ref f2)=true) :
  FnOk P w K mg base CX0 3 f fd ["board", "table", "start", "more", "number"] (JH false QiF):=by
 refine okQ false F QaH (λargs R EX h=>?_) (λcdv A outer s H E hr=>?_)
 ·obtain⟨h,w,cs,S,m,n,rfl,_⟩:=h;rfl
 ·have hU:=Room.u60 hr;have hI:=Room.i60 hr;refine⟨_,QC (ZI 5 (Jw G1 (hr.mono (by decide)) (by rfl) m1 k1 b1 JL (J5 (qv 0) (J5 (qv 2) Jg))) QaH.nd)
   (QC (ZI 6 Jt QaH.nd)
   (QC (ZI 7 (Jw G2 (hr.mono (by decide)) (by rfl) m2 k2 b2 JL (J5 (qv 1) (J5 (J1 (Yq Z4 Y4 (qp 2) (QZ (Y7 (YZ (Qah JF Zh (qp 5) (qp 6) (λ_ _=>rfl)) Je))))) (J5 (qv 3) Jg)))) QaH.nd)
   (QC (Qjf JQ (Z1 Qur Qc0 (qp 4) (qp 7) (ZA _))
    (QC (Qr4 4 QxZ Qio (qp 7) QaH.nd)
   (QC (Qr4 6 Qso Qio (Q5 Jt) QaH.nd)
   (QY (ZI 7 (Jw G2 (hr.mono (by decide)) (by rfl) m2 k2 b2 JL (J5 (qv 1) (J5 (J1 (Yq Z4 Y4 (qp 2) (QZ (Y7 (YZ (Qah JF Zh (qp 5) (qp 6) (λ_ _=>rfl)) Je))))) (J5 (qv 3) Jg)))) QaH.nd)))))
   (QY (ZW (Y7 (YZ (Qah JF Zh (qp 5) (qp 6) (λ_ _=>rfl)) (YZ (qv 4) Je)))))))),λargs R EX h=>?_⟩
  obtain⟨h,w,cs,S,m,n,rfl,g,st,hm,hn,hR⟩:=h;have en:xts cs (m+1) S=(fol cs S).flatMap λc=>xts cs m (S++[c]):=rfl
  rw[en] at hn hR;have lS:(S.map pairD).length=S.length:=Qd _;have sl:=QfX g st;have h6:=g.bds.1;refine⟨_,_,_,_,rfl,?_⟩;have get:∀a,a<(fol cs S).length->((fol cs S).map pairD)[a]? = some (pairD ((fol cs S).getD a (0,0)))/\(fol cs S).getD a (0,0)∈fol cs S/\(fol cs S).drop a=(fol cs S).getD a (0,0)::(fol cs S).drop (a+1):=λa ha=>by
   have e:(fol cs S).getD a (0,0)=(fol cs S)[a]:=by rw[Qo,Qf ha];rfl
   refine⟨by rw[Qv,Qf ha,e];rfl,by rw[e];exact Zw ha,by rw[e];exact QhV ha⟩
  have l0:0<(fol cs S).length:=by
   cases e:fol cs S with
   |nil=>rw[e] at hn;exact absurd hn (QvV _)
   |cons a b=>rw[QQ];omega
  have wy:∀(a:Nat)(ha:a<(fol cs S).length),Yb (S.map pairD++[pairD ((fol cs S).getD a (0,0))])=stT (S++[(fol cs S).getD a (0,0)]):=λa _=>by
   show _=Yb ((S++[(fol cs S).getD a (0,0)]).map pairD);rw[Jr];rfl
  refine⟨_,Jq (get 0 l0).1,by rw[lS];show _+1<=_;omega,?_⟩;refine⟨h,w,cs,S++[(fol cs S).getD 0 (0,0)],m,by rw[wy 0 l0],g,Qgo st (get 0 l0).2.1,by omega,?_⟩;refine QrM (λz δ=>∃a n2:Nat,z=(fol cs S).length - a/\a<(fol cs S).length/\δ=[.v (bdD h w cs),.v (.list (Qi3 cs h w h)),.v (stT S),.v (.int m),.v (.int n2),.v (.list ((fol cs S).map pairD)),.v (.int a),.v (.int ((xts cs m (S++[(fol cs S).getD a (0,0)])).length:Nat))]/\n2<(((fol cs S).drop a).flatMap λc=>xts cs m (S++[c])).length/\((fol cs S).flatMap λc=>xts cs m (S++[c]))[n]? = (((fol cs S).drop a).flatMap λc=>xts cs m (S++[c]))[n2]?) _ ⟨0,n,rfl,l0,rfl,hn,rfl⟩ ?_
  rintro z δ ⟨a,n2,rfl,ha,rfl,hn2,he⟩;obtain⟨g1,g2,g3⟩:=get a ha;rw[g3,JA,Qu] at hn2;rw[g3,JA] at he;refine ifC (λy=>?_) λy=>?_
  ·have y:((xts cs m (S++[(fol cs S).getD a (0,0)])).length:Int)<=(n2:Int):=of_decide_eq_true y;have ha2:a+1<(fol cs S).length:=by
    by_cases q:a+1<(fol cs S).length
    ·exact q
    ·rw[List.drop_eq_nil_of_le (by omega)] at hn2;exact absurd hn2 (by show ¬n2<_+0;omega)
   obtain⟨f1,f2,f3⟩:=get (a+1) ha2;refine⟨pairD ((fol cs S).getD (a+1) (0,0)),by rw[show(a:Int)+1=((a+1:Nat):Int) by omega];exact Jq f1,by rw[lS];show _+1<=_;omega,?_⟩;refine⟨h,w,cs,S++[(fol cs S).getD (a+1) (0,0)],m,by rw[<- wy (a+1) ha2],g,Qgo st f2,by omega,?_⟩;refine⟨(fol cs S).length - (a+1),by omega,a+1,n2 - (xts cs m (S++[(fol cs S).getD a (0,0)])).length,rfl,ha2,?_,by omega,?_⟩
   ·rw[show((n2 - (xts cs m (S++[(fol cs S).getD a (0,0)])).length:Nat):Int)=(n2:Int) - ((xts cs m (S++[(fol cs S).getD a (0,0)])).length:Int) by omega,show((a+1:Nat):Int)=(a:Int)+1 by omega];rfl
   ·rw[he,YK (by omega)]
  ·have y:(n2:Int)<((xts cs m (S++[(fol cs S).getD a (0,0)])).length:Int):=by have:=of_decide_eq_false y;omega
   refine⟨_,Jq g1,hR _ n2 g2 (by omega) ?_⟩;rw[he,YX (by omega)]
theorem YN:Jm ["board", "size", "number", "table", "stand", "left", "more", "cell"] ["board", "size", "number"] (Qq QbU):=⟨rfl,rfl,rfl,by decide +kernel,rfl,by decide +kernel,by decide +kernel⟩
theorem Qkw{f f1 f2 f3 f4  : Addr}{fd fd1 fd2 fd3 fd4:QM}(F:Fun K "stand_at" "stand_at" QbU f fd)(T:GlbA mg)
  (m1:mg "refuse_no_size" = some (.ref f1))(G1:FnOk P w K mg base CX0 3 f1 fd1 ["board", "size"] (JH false Ql3))(b1:Binds K fd1 ["board", "size"] [])(k1:PySem.W.keepIn K (.ref f1)=true)
  (m2:mg "ways_to_go_on" = some (.ref f2))(G2:FnOk P w K mg base CX0 2 f2 fd2 ["board"] (JH true QoA))(b2:Binds K fd2 ["board"] [])(k2:PySem.W.keepIn K (.ref f2)=true)
  (m3:mg "is_whole_within" = some (.ref f3))(G3:FnOk P w K mg base CX0 2 f3 fd3 ["thing", "least", "most"] (JH false Qcq))(b3:Binds K fd3 ["thing", "least", "most"] [])(k3:PySem.W.keepIn K (.ref f3)=true)
  (m4:mg "cell_at" = some (.ref f4))(G4:FnOk P w K mg base CX0 3 f4 fd4 ["board", "table", "start", "more", "number"] (JH false QiF))(b4:Binds K fd4 ["board", "table", "start", "more", "number"] [])(k4:PySem.W.keepIn K (.ref f4)=true) :
  FnOk P w K mg base CX0 4 f fd ["board", "size", "number"] (JH false Qd5):=by
 refine okQ false F YN (λargs R EX h=>?_) (λcdv A outer s H E hr=>?_)
 ·obtain⟨h,w,cs,k,n,L,rfl,_⟩:=h;rfl
 ·have hU:=Room.u60 hr;have hI:=Room.i60 hr;refine⟨_,QC (Qmc (Q5 (Jw G1 (hr.mono (by decide)) (by rfl) m1 k1 b1 JL (J5 (qv 0) (J5 (qv 1) Jg)))))
   (QC (ZI 3 (J1 (Y3 G2 (hr.mono (by decide)) (by rfl) m2 k2 b2 JL (J5 (qv 0) Jg))) YN.nd)
   (QC (QaI (YQ (YO (Q5 (Jw G3 (hr.mono (by decide)) (by rfl) m3 k3 b3 JL (J5 (qv 2) (J5 Jt (J5 (J1 (Yq Qez QdN (Q5 (Qah JF Zh (Q5 (Qah JF Zh (Q5 (Qah JF Zh (qp 3) (Q5 Jt) (λ_ _=>rfl))) (Q5 Jt) (λ_ _=>rfl))) (qp 1) (λ_ _=>rfl))) (Q5 Jt))) Jg))))))) QbC ZE)
   (QC (ZI 4 (J1 (Y7 Je)) YN.nd)
   (QC (ZI 5 (qv 2) YN.nd)
   (QC (Qci JQ rfl (Qmd (by rfl) T.reversed (by rfl) T.range (qp 1)) (ZF 6 YN.nd rfl (by first | exact QN rfl | exact QK rfl))
    (QC (QbD (Jw G4 (hr.mono (by decide)) (by rfl) m4 k4 b4 JL (J5 (qv 0) (J5 (qv 3) (J5 (qv 4) (J5 (qv 6) (J5 (qv 5) Jg)))))) (Yc rfl (Jj 7 (Jj 5 Yd YN.nd rfl (by first | exact QN rfl | exact QK rfl)) YN.nd rfl (by first | exact QN rfl | exact QK rfl))))
   (QY (ZI 4 (J1 (Yq Z4 Y4 (qp 4) (QZ (Y7 (YZ (qv 7) Je))))) YN.nd))))
   (QY (Zz (qv 4)))))))),λargs R EX h=>?_⟩
  obtain⟨h,w,cs,k,n,L,rfl,g,hk,eL,hR⟩:=h;refine⟨_,_,_,_,rfl,hk,?_⟩;have h6:=g.bds.1;have w6:=g.bds.2.1;refine⟨_,_,_,rfl,h6,w6,g.bds.col,?_⟩;refine⟨_,Jq (j:=0) (Qh9 cs h w h),_,Jq (j:=0) (Qel (Qa7 w)),_,Jq (Qbz (show k<=h by omega)),?_⟩;refine⟨_,_,_,rfl,?_⟩;show if(!inW (.int n) 0 (Wc cs h h 0 k - 1))=true then _ else _
  rw[QcA g];have hn:=(Jd.mp eL).1;rw[QkG (by omega) (by omega)];refine ifF rfl ?_
  ·rw[<- Qva] at eL hn;refine⟨⟨by omega,by omega⟩,QbL (λi δ=>∃(S:List (Int×Int))(n2:Nat)(x6 x7:Sl),δ=[.v (bdD h w cs),.v (.int k),.v (.int n),.v (.list (Qi3 cs h w h)),.v (stT S),.v (.int n2),x6,x7]/\Std cs S/\S.length=i/\n2<(xts cs (k - i) S).length/\(xts cs (k - i) S)[n2]? = some L) ⟨[],n,_,_,rfl,.nil,rfl,hn,eL⟩ ?_ ?_⟩
   ·rintro i d δ hd ⟨S,n2,x6,x7,rfl,st,lS,hn2,e2⟩;obtain⟨hi,rfl⟩:=Qf9 hd;rw[QH] at hi;have er:((((k:Nat):Int).toNat:Nat):Int) - 1 - (i:Int)=((k - i - 1:Nat):Int):=by omega
    rw[er];have ek:k - i=(k - i - 1)+1:=by omega
    rw[ek] at hn2 e2;refine⟨_,_,_,_,_,_,rfl,g,st,by omega,hn2,λc n3 hc hc3 ee3=>⟨rfl,?_⟩⟩;have es:stT (S++[c])=.tuple (S.map pairD++[pairD c]):=by unfold stT;rw[Jr];rfl
    refine⟨by rw[Qd];show _+1<=_;omega,S++[c],n3,.v (.int ((k - i - 1:Nat):Int)),.v (pairD c),by rw[es];rfl,Qgo st hc,by rw[Qu,lS];rfl,?_,?_⟩
    ·rw[show k - (i+1)=k - i - 1 by omega];exact hc3
    ·rw[show k - (i+1)=k - i - 1 by omega,<- ee3];exact e2
   ·rintro δ ⟨S,n2,x6,x7,rfl,st,lS,hn2,e2⟩;rw[Qea,QH,Nat.sub_self] at hn2 e2;have hn2:n2<1:=hn2;obtain rfl:n2=0:=by omega
    have e2:=QJ e2;rw[e2];exact hR
theorem Qhk:(["size", "many"]:List Str).Nodup:=by decide +kernel
theorem QoT:Jm ["board"] ["board"] (Qq Qfp):=⟨rfl,rfl,rfl,by decide +kernel,rfl,by decide +kernel,by decide +kernel⟩
theorem QpM{f f1  : Addr}{fd fd1:QM}(F:Fun K "greatest_size" "greatest_size" Qfp f fd)(T:GlbA mg)
  (m1:mg "counts" = some (.ref f1))(G1:FnOk P w K mg base CX0 3 f1 fd1 ["board"] (JH true QeQ))(b1:Binds K fd1 ["board"] [])(k1:PySem.W.keepIn K (.ref f1)=true) :
  FnOk P w K mg base CX0 4 f fd ["board"] (JH false QjL):=by
 refine okQ false F QoT (λargs R EX h=>?_) (λcdv A outer s H E hr=>?_)
 ·obtain⟨h,w,cs,rfl,_⟩:=h;rfl
 ·have hU:=Room.u60 hr;have hI:=Room.i60 hr;refine⟨_,QY (ZW (Zb (QnE rfl) Qvr (by rfl) T.max QsH (QaV (QZ (Y9 ["size", "many"] [none,none] (Qji (by rfl) T.enumerate (QZ (Y3 G1 (hr.mono (by decide)) (by rfl) m1 k1 b1 JL (J5 (qv 0) Jg)))) (λcl ex s3 H3 C=>⟨(Yc rfl (Jj 0 (Jj 1 Yd Qhk rfl (QN rfl) (QK rfl)) Qhk rfl (QN rfl) (QK rfl))),(QbB (Z1 Quq Qc0 (qp 1) (Q5 Jt) (ZA _))),(qv 0)⟩))) Je))),λargs R EX h=>?_⟩;obtain⟨h,w,cs,rfl,b,hR⟩:=h;refine⟨_,_,_,rfl,b.1,b.2.1,b.col,QkP (λd=>match d with | .tuple [.int k,.int n]=>if 0<n then some (.int k) else none | _=>none) (λd hd k1 k2 h1 h2=>?_) ?_⟩
  ·obtain⟨k,hk⟩:=JK.mp hd;obtain⟨e,he,rfl⟩:=Qb4 hk;obtain⟨n,rfl⟩:=Qro (Ja he);have h1:(if 0<n then some (Qi (k:Int)) else none)=none->k1:=h1;have h2:∀e,(if 0<n then some (Qi (k:Int)) else none)=some e->k2 e:=h2
   refine⟨rfl,?_⟩;show if decide (0<n)=true then k2 (.int (k:Int)) else k1
   by_cases z:0<n
   ·rw[if_pos (decide_eq_true z)];exact h2 _ (if_pos z)
   ·rw[if_neg (by simpa using z)];exact h1 (if_neg z)
  ·have e:(QdA (QfE cs h w)).filterMap (λd=>match d with | .tuple [.int k,.int n]=>if 0<n then some (Qi k) else none | _=>none)=(((Qt (min h w+1)).filter λk=>decide (0<Wc cs h h 0 k)).map λ(k:Nat)=>(k:Int)).map Qi:=by
    unfold QdA;rw[Zs,QL,Qrn];refine QkH λk hk=>?_
    have hk:=Q0.mp hk;have e1:(QfE cs h w).getD k .none=.int (Wc cs h h 0 k):=by
     unfold QfE;rw[Qo,Qv,Jo hk];rfl
    show(match Yb [.int (k:Int),(QfE cs h w).getD k .none] with | .tuple [.int k,.int n]=>if 0<n then some (Qi k) else none | _=>none)=_;rw[e1];show(if 0<Wc cs h h 0 k then some (Qi (k:Int)) else none)=if decide (0<Wc cs h h 0 k)=true then _ else _
    by_cases z:0<Wc cs h h 0 k
    ·rw[if_pos z,if_pos (decide_eq_true z)];rfl
    ·rw[if_neg z,if_neg (by simpa using z)]
   rw[e];have mem:∀{k:Nat},k<=min h w->0<Wc cs h h 0 k->(k:Int)∈((Qt (min h w+1)).filter λk=>decide (0<Wc cs h h 0 k)).map λ(k:Nat)=>(k:Int):=λ{k} h1 h2=>Qh.mpr ⟨k,Qj.mpr ⟨Q0.mpr (by omega),decide_eq_true h2⟩,rfl⟩
   refine QuT (ZM (mem (Jc _) (by rw[QsL];decide))) λm hm hmx=>?_
   obtain⟨k,hk,rfl⟩:=Qh.mp hm;have hk:=Qj.mp hk;refine hR k ⟨by have:=Q0.mp hk.1;omega,of_decide_eq_true hk.2,λj hj hp=>?_⟩;have:=hmx _ (mem hj hp);omega
end
def Qf0:DF:=λargs R _=>∃(h w m:Nat)(cs L:List (Int×Int)),args=[.v (bdD h w cs)]/\GB h w cs/\Great cs h w m/\(evS cs m)[0]? = some L/\R (.tuple [stT L,lnK (fewR cs h) (colK cs (fewR cs h))])
theorem Qhw{cs:List (Int×Int)}{h w m n:Nat}(a:Great cs h w m)(b:Great cs h w n):m=n:=Nat.le_antisymm (b.2.2 m a.1 a.2.1) (a.2.2 n b.1 b.2.1)
theorem Qgn{h w:Nat}{cs:List (Int×Int)}(g:GB h w cs){m:Nat}(gm:Great cs h w m):∃L,(evS cs m)[0]? = some L/\Std cs L/\L.length=m:=by
 have:=gm.2.1;rw[QcA g] at this;have hl:0<(evS cs m).length:=by omega
 have e:(evS cs m)[0]? = some (evS cs m)[0]:=Qf hl;obtain⟨st,lk⟩:=(QbI g.r0 m _).mp (Ja e);exact⟨_,e,st,lk⟩
theorem QrO(P:Nat->Prop):∀n:Nat,(∃k,k<=n/\P k)->∃m,m<=n/\P m/\∀k,k<=n->P k->k<=m
 |0,⟨k,hk,hp⟩=>by
  obtain rfl:k=0:=by omega
  exact⟨0,Qg _,hp,λk hk _=>hk⟩
 |n+1,⟨k,hk,hp⟩=>by
  by_cases z:P (n+1)
  ·exact⟨n+1,Qg _,z,λk hk _=>hk⟩
  ·have hk2:k<=n:=by
    rcases Nat.lt_or_ge k (n+1) with y | y
    ·omega
    ·obtain rfl:k=n+1:=by omega
     exact absurd hp z
   obtain⟨m,h1,h2,h3⟩:=QrO P n ⟨k,hk2,hp⟩;refine⟨m,by omega,h2,λk hk hp=>?_⟩;rcases Nat.lt_or_ge k (n+1) with y | y
   ·exact h3 k (by omega) hp
   ·obtain rfl:k=n+1:=by omega
    exact absurd hp z
theorem Qiw{h w:Nat}{cs:List (Int×Int)}(g:GB h w cs):∃m,Great cs h w m:=
 let ⟨m,h1,h2,h3⟩:=QrO (λk=>0<Wc cs h h 0 k) (min h w) ⟨0,Jc _,by rw[QcA g];show(0:Int)<((1:Nat):Int);decide⟩
 ⟨m,h1,h2,h3⟩
theorem QkK{h w:Nat}{cs:List (Int×Int)}(g:GB h w cs){m:Nat}(gm:Great cs h w m){r:List Int}(hr:r∈lotsN h)(hm:∀q∈lotsN h,QbM cs r<=QbM cs q):QbM cs r=m:=by
 obtain⟨L,_,st,lk⟩:=Qgn g gm;have a:=Qi7 g st hr;obtain⟨M,stM,l⟩:=Qrj g hm;have b:M.length<=m:=by
  refine gm.2.2 _ (QfX g stM) ?_
  rw[QcA g];have:=ZM ((QbI g.r0 M.length M).mpr ⟨stM,rfl⟩);omega
 omega
theorem Qx3(cs:List (Int×Int))(h:Nat):fewR cs h∈lotsN h/\∀q∈lotsN h,QbM cs (fewR cs h)<=QbM cs q:=by
 have l0:0<(lotsN h).length:=by rw[Qc2];exact Qa7 h
 obtain⟨a,b⟩:=argBest_lt (λi=>((QbM cs ((lotsN h).getD i []):Nat):Int)) ((lotsN h).length - 1);have a:Qu8 cs h<=(lotsN h).length - 1:=a;have hl:Qu8 cs h<(lotsN h).length:=by omega
 refine⟨?_,λq hq=>?_⟩
 ·unfold fewR;rw[Qo,Qf hl];exact Zw hl
 ·obtain⟨j,hj⟩:=JK.mp hq;have:=b j (by have:=(Jd.mp hj).1;omega);have this:((QbM cs ((lotsN h).getD (Qu8 cs h) []):Nat):Int)<=((QbM cs ((lotsN h).getD j []):Nat):Int):=this;rw[show(lotsN h).getD j []=q by rw[Qo,hj];rfl] at this;unfold fewR;omega
theorem Qjc:∀{ns:List Int},ns.Pairwise (· < ·)->QbA (ns.map Qi)=true
 |[],_=>rfl
 |[_],_=>rfl
 |x::y::r,h=>by
  have h:=Qou.mp h;show(ltD (.int x) (.int y)&&QbA ((y::r).map Qi))=true;rw[Qjc h.2,QbS];have:x<y:=h.1 y (.head _);show isL (Qok x y)=true;unfold Qok;rw[if_pos this];rfl
theorem QxF{n:Int}{ns:List Int}(pw:ns.Pairwise (· < ·))(b:∀x∈ns,0<=x/\x<n):Qdv n (tN ns)=true:=by
 show((ns.map Qi).all (λd=>inW d 0 (n - 1))&&QbA (ns.map Qi))=true;rw[Qjc pw,QbS];refine JW.mpr λd hd=>?_
 obtain⟨x,hx,rfl⟩:=Qh.mp hd;have:=b x hx;exact QkG (by omega) (by omega)
theorem Qgi(ms:List Nat):(ms.map λ(x:Nat)=>Qi x)=(ms.map λ(x:Nat)=>(x:Int)).map Qi:=by rw[QL];rfl
theorem Qdx(x:Int)(ns:List Int):inT x (tN ns)=decide (x∈ns):=QnT ns x
theorem QAF{h w:Nat}{cs:List (Int×Int)}(g:GB h w cs){r:List Int}(hr:r∈lotsN h):QjD h w cs (lnK r (colK cs r))=true:=by
 obtain⟨pw,b,_⟩:=Qc3 hr;have cw:∀x∈(colK cs r).map (λ(x:Nat)=>(x:Int)),0<=x/\x<(w:Int):=λx hx=>by
  obtain⟨y,hy,rfl⟩:=Qh.mp hx;obtain⟨p,hp,_,e⟩:=(Qb0 (QsA g) y).mp hy;have:=g.bds.2.2 p hp;omega
 have cpw:((colK cs r).map λ(x:Nat)=>(x:Int)).Pairwise (· < ·):=Jb.mpr ((Qgu cs r).imp λ{a b}(z:a<b)=>by show(a:Int)<(b:Int);omega);have e:lnK r (colK cs r)=.tuple [tN r,tN ((colK cs r).map λ(x:Nat)=>(x:Int))]:=by unfold lnK;rw[Qgi];rfl
 rw[e];show((Qdv h (tN r)&&Qdv w (tN ((colK cs r).map λ(x:Nat)=>(x:Int))))&&(cs.map pairD).all λd=>inT (toP d).1 (tN r)||inT (toP d).2 (tN ((colK cs r).map λ(x:Nat)=>(x:Int))))=true;rw[QxF pw b,QxF cpw cw,YH,YH];refine JW.mpr λd hd=>?_
 obtain⟨p,hp,rfl⟩:=Qh.mp hd;show(inT p.1 (tN r)||inT p.2 (tN ((colK cs r).map λ(x:Nat)=>(x:Int))))=true;rw[Qdx,Qdx];by_cases z:p.1∈r
 ·rw[decide_eq_true z];rfl
 ·have c:=QsA g p hp;rw[decide_eq_true (p:=p.2∈(colK cs r).map λ(x:Nat)=>(x:Int)) (Qh.mpr ⟨p.2.toNat,(Qb0 (QsA g) _).mpr ⟨p,hp,z,by omega⟩,by omega⟩),Bool.or_true]
theorem Qp4(cs:List (Int×Int))(r:List Int):(colK cs r).length<=6:=by
 have:=Yy (λ(x:Nat)=>cs.any λp => !decide (p.1∈r)&&decide (p.2=(x:Int))) (Qt 6);rw[Q1] at this;exact this
section
variable{P:QF}{w:Jk}{K:PySem.W.Frag}{mg:Str->Option Value}{base:Heap}
theorem Qto:Jm ["board"] ["board"] (Qq Qkl):=⟨rfl,rfl,rfl,by decide +kernel,rfl,by decide +kernel,by decide +kernel⟩
theorem QuA{f f1 f2 f3  : Addr}{fd fd1 fd2 fd3:QM}(F:Fun K "showing" "showing" Qkl f fd)(T:GlbA mg)
  (m1:mg "stand_at" = some (.ref f1))(G1:FnOk P w K mg base CX0 4 f1 fd1 ["board", "size", "number"] (JH false Qd5))(b1:Binds K fd1 ["board", "size", "number"] [])(k1:PySem.W.keepIn K (.ref f1)=true)
  (m2:mg "greatest_size" = some (.ref f2))(G2:FnOk P w K mg base CX0 4 f2 fd2 ["board"] (JH false QjL))(b2:Binds K fd2 ["board"] [])(k2:PySem.W.keepIn K (.ref f2)=true)
  (m3:mg "fewest_lines" = some (.ref f3))(G3:FnOk P w K mg base CX0 3 f3 fd3 ["board"] (JH false Qng))(b3:Binds K fd3 ["board"] [])(k3:PySem.W.keepIn K (.ref f3)=true) :
  FnOk P w K mg base CX0 5 f fd ["board"] (JH false Qf0):=by
 refine okQ false F Qto (λargs R EX h=>?_) (λcdv A outer s H E hr=>?_)
 ·obtain⟨h,w,m,cs,L,rfl,_⟩:=h;rfl
 ·have hU:=Room.u60 hr;have hI:=Room.i60 hr;refine⟨_,QY (ZW (Y7 (YZ (Jw G1 (hr.mono (by decide)) (by rfl) m1 k1 b1 JL (J5 (qv 0) (J5 (Jw G2 (hr.mono (by decide)) (by rfl) m2 k2 b2 JL (J5 (qv 0) Jg)) (J5 Jt Jg)))) (YZ (Jw G3 (hr.mono (by decide)) (by rfl) m3 k3 b3 JL (J5 (qv 0) Jg)) Je)))),λargs R EX h=>?_⟩;obtain⟨h,w,m,cs,L,rfl,g,gm,eL,hR⟩:=h;refine⟨_,_,_,rfl,g.bds,λm2 gm2=>?_⟩;obtain rfl:=Qhw gm gm2;refine⟨h,w,cs,m,0,L,rfl,g,gm.1,eL,?_⟩;exact⟨_,_,_,rfl,g,hR⟩
theorem Qfw:(["one", "other"]:List Str).Nodup:=by decide +kernel
theorem QlV:Jm ["things"] ["things"] (Qq Qdl):=⟨rfl,rfl,rfl,by decide +kernel,rfl,by decide +kernel,by decide +kernel⟩
theorem QmC{f   : Addr}{fd  : QM}(F:Fun K "is_rising" "is_rising" Qdl f fd)(T:GlbA mg) :
  FnOk P w K mg base CX0 1 f fd ["things"] (JH false Qga):=by
 refine okQ false F QlV (λargs R EX h=>?_) (λcdv A outer s H E hr=>?_)
 ·obtain⟨ds,rfl | rfl,_⟩:=h<;>rfl
 ·have hU:=Room.u60 hr;have hI:=Room.i60 hr;refine⟨_,QY (ZW (Zb Qb7 (QfG rfl) (by rfl) T.all QfI (QaV (QZ (Y9 ["one", "other"] [none,none] (QzY (QtD (by rfl) T.zip (qp 0) (QZ (Qcu (qp 0) (Qcs (Q5 Jt)) Qct))) (QtE (by rfl) T.zip (qp 0) (QZ (Qcu (qp 0) (Qcs (Q5 Jt)) Qct)))) (λcl ex s3 H3 C=>⟨(Yc rfl (Jj 0 (Jj 1 Yd Qfw rfl (QN rfl) (QK rfl)) Qfw rfl (QN rfl) (QK rfl))),Z3,(J1 (QbE (Qxq hU) QxD (qp 0) (qp 1) (ZA _)))⟩))) Je))),λargs R EX h=>?_⟩;obtain⟨ds,h,hc,hR⟩:=h;have go:∀d∈Qj9 ds (Dl.cutD ds (some 1) none),∃a b,d=.tuple [a,b]/\(okK a=true/\okK b=true/\Qoj a b=true/\a.depth<=20):=λd hd=>by
   obtain⟨i,hi⟩:=JK.mp hd;obtain⟨a,b,ha,hb,rfl⟩:=Dl.zip_get hi;have ma:=Ja ha;have mb:=Qri (Ja hb);exact⟨a,b,rfl,(hc a ma).1,(hc b mb).1,(hc a ma).2.2 b mb,(hc a ma).2.1⟩
  rcases h with rfl | rfl
  ·refine .inl (Qab (λd=>.bool (QxJ d)) (λd hd k2 hk=>?_) (QcD (items:=Qj9 ds (Dl.cutD ds (some 1) none)) rfl (by rw[Qek];exact hR)));obtain⟨a,b,rfl,q⟩:=go d hd;exact⟨rfl,q,hk⟩
  ·refine .inr (Qab (λd=>.bool (QxJ d)) (λd hd k2 hk=>?_) (QcD (items:=Qj9 ds (Dl.cutD ds (some 1) none)) rfl (by rw[Qek];exact hR)));obtain⟨a,b,rfl,q⟩:=go d hd;exact⟨rfl,q,hk⟩
theorem QoQ:Jm ["high", "wide", "thing"] ["high", "wide", "thing"] (Qq Qfm):=⟨rfl,rfl,rfl,by decide +kernel,rfl,by decide +kernel,by decide +kernel⟩
theorem QpI{f f1  : Addr}{fd fd1:QM}(F:Fun K "is_place" "is_place" Qfm f fd)(T:GlbA mg)
  (m1:mg "is_whole_within" = some (.ref f1))(G1:FnOk P w K mg base CX0 2 f1 fd1 ["thing", "least", "most"] (JH false Qcq))(b1:Binds K fd1 ["thing", "least", "most"] [])(k1:PySem.W.keepIn K (.ref f1)=true) :
  FnOk P w K mg base CX0 3 f fd ["high", "wide", "thing"] (JH false Qjm):=by
 refine okQ false F QoQ (λargs R EX h=>?_) (λcdv A outer s H E hr=>?_)
 ·obtain⟨h,w,d,rfl,_⟩:=h;rfl
 ·have hU:=Room.u60 hr;have hI:=Room.i60 hr;refine⟨_,QC (QaI (Qkt (QdX (YQ (YO (QZ (QdK .tuple (by rfl) T.isinstance (qp 2) (by rfl) T.tuple ZS)))) (Qcg (Z1 Qcj (Qe8 hU) (QZ (Zb ZG QaJ (by rfl) T.len Qac (QaV (qp 2) Je))) (Q5 Jt) (ZA _))))) (QY (Zz QgT)) ZE)
   (QY (Zz (Qe7 (Q5 (Jw G1 (hr.mono (by decide)) (by rfl) m1 k1 b1 JL (J5 (Qah JF Zh (qp 2) (Q5 Jt) (λ_ _=>rfl)) (J5 Jt (J5 (J1 (Yq Qez QdN (qp 0) (Q5 Jt))) Jg))))) (Qew (Jw G1 (hr.mono (by decide)) (by rfl) m1 k1 b1 JL (J5 (Qah JF Zh (qp 2) (Q5 Jt) (λ_ _=>rfl)) (J5 Jt (J5 (J1 (Yq Qez QdN (qp 1) (Q5 Jt))) Jg)))))))),λargs R EX h=>?_⟩
  obtain⟨h,w,d,rfl,hR⟩:=h;cases d with
  |tuple ds=>
   match ds,hR with
   |[a,b],hR=>
    refine⟨a,rfl,_,_,_,rfl,?_⟩;refine QbQ hR λ_ hR=>?_
    exact⟨b,rfl,_,_,_,rfl,hR⟩
   |[],hR=>exact hR
   |[_],hR=>exact hR
   |a::b::c::r,hR=>
    exact hR
  |_=>exact hR
theorem QmS:(["part", "high", "wide"]:List Str).Nodup:=by decide +kernel
theorem QoU:Jm ["high", "wide", "thing"] ["high", "wide", "thing"] (Qq Qfq):=⟨rfl,rfl,rfl,by decide +kernel,rfl,by decide +kernel,by decide +kernel⟩
theorem QpN{f f1 f2  : Addr}{fd fd1 fd2:QM}(F:Fun K "is_cells" "is_cells" Qfq f fd)(T:GlbA mg)
  (m1:mg "is_place" = some (.ref f1))(G1:FnOk P w K mg base CX0 3 f1 fd1 ["high", "wide", "thing"] (JH false Qjm))(b1:Binds K fd1 ["high", "wide", "thing"] [])(k1:PySem.W.keepIn K (.ref f1)=true)
  (m2:mg "is_rising" = some (.ref f2))(G2:FnOk P w K mg base CX0 1 f2 fd2 ["things"] (JH false Qga))(b2:Binds K fd2 ["things"] [])(k2:PySem.W.keepIn K (.ref f2)=true) :
  FnOk P w K mg base CX0 4 f fd ["high", "wide", "thing"] (JH false QnA):=by
 refine okQ false F QoU (λargs R EX h=>?_) (λcdv A outer s H E hr=>?_)
 ·obtain⟨h,w,d,rfl,_⟩:=h;rfl
 ·have hU:=Room.u60 hr;have hI:=Room.i60 hr;refine⟨_,QC (QaI (YQ (YO (QZ (QdK .tuple (by rfl) T.isinstance (qp 2) (by rfl) T.tuple ZS)))) (QY (Zz QgT)) ZE)
   (QY (Zz (Qe7 (QZ (Zb Qb7 (QfG rfl) (by rfl) T.all QfI (QaV (QZ (Y9 ["part", "high", "wide"] [none,some 0,some 1] (Qar (qp 2)) (λcl ex s3 H3 C=>⟨(ZF 0 QmS rfl (QN rfl) (QK rfl)),Z3,(Jw G1 (hr.mono (by decide)) (by rfl) m1 k1 b1 JL (J5 (qv 1) (J5 (qv 2) (J5 (qv 0) Jg))))⟩))) Je))) (Qew (Jw G2 (hr.mono (by decide)) (by rfl) m2 k2 b2 JL (J5 (qv 2) Jg)))))),λargs R EX h=>?_⟩
  obtain⟨h,w,d,rfl,hR⟩:=h;cases d with
  |tuple ds=>
   refine Qab (λd=>.bool (QkE h w d)) (λd hd k2 hk=>⟨_,_,_,rfl,hk⟩) (QcD (items:=ds) rfl ?_);refine QbQ hR λha hR=>?_
   obtain⟨L,rfl,_⟩:=Qjn ha;exact⟨_,.inl rfl,QhE L,hR⟩
  |_=>exact hR
theorem Qhm:(["row", "column"]:List Str).Nodup:=by decide +kernel
theorem Qhl:(["row", "column"]:List Str).Nodup:=by decide +kernel
theorem Qf4:Jm ["cells", "rows", "columns"] ["cells"] (Qq Qfr):=⟨rfl,rfl,rfl,by decide +kernel,rfl,by decide +kernel,by decide +kernel⟩
theorem QpO{f   : Addr}{fd  : QM}(F:Fun K "are_apart" "are_apart" Qfr f fd)(T:GlbA mg) :
  FnOk P w K mg base CX0 1 f fd ["cells"] (JH false QnS):=by
 refine okQ false F Qf4 (λargs R EX h=>?_) (λcdv A outer s H E hr=>?_)
 ·obtain⟨L,rfl,_⟩:=h;rfl
 ·have hU:=Room.u60 hr;have hI:=Room.i60 hr;refine⟨_,QC (Qeu ["row", "column"] [none,none] 1 Qf4.nd (Qar (qp 0)) (λcl ex s3 H3 C=>⟨(Yc rfl (Jj 0 (Jj 1 Yd Qhm rfl (QN rfl) (QK rfl)) Qhm rfl (QN rfl) (QK rfl))),Z3,(qv 0)⟩))
   (QC (Qeu ["row", "column"] [none,none] 2 Qf4.nd (Qar (qp 0)) (λcl ex s3 H3 C=>⟨(Yc rfl (Jj 0 (Jj 1 Yd Qhl rfl (QN rfl) (QK rfl)) Qhl rfl (QN rfl) (QK rfl))),Z3,(qv 1)⟩))
   (QY (Zz (Qe7 (QZ (QbE Qck (Qe9 hU) (QZ (Qjk (by rfl) T.len (by rfl) T.set (qp 1))) (QZ (Zb ZG QaJ (by rfl) T.len Qac (QaV (qp 1) Je))) (ZA _))) (Qew (J1 (QbE Qck (Qe9 hU) (QZ (Qjk (by rfl) T.len (by rfl) T.set (qp 2))) (QZ (Zb ZG QaJ (by rfl) T.len Qac (QaV (qp 2) Je))) (ZA _)))))))),λargs R EX h=>?_⟩
  obtain⟨L,rfl,hl,hR⟩:=h;have e1:(L.map pairD).map (λd=>Qi (toP d).1)=(L.map (λp=>p.1)).map Qi:=by rw[QL,QL];rfl
  have e2:(L.map pairD).map (λd=>Qi (toP d).2)=(L.map (λp=>p.2)).map Qi:=by rw[QL,QL];rfl
  refine Qab (λd=>.int (toP d).1) (λd hd k2 hk=>?_) ?_
  ·obtain⟨p,_,rfl⟩:=Qh.mp hd;exact⟨rfl,hk⟩
  ·refine Qab (λd=>.int (toP d).2) (λd hd k2 hk=>?_) ?_
   ·obtain⟨p,_,rfl⟩:=Qh.mp hd;exact⟨rfl,hk⟩
   ·rw[e1,e2];refine⟨_,QdB _,by rw[Qd];exact hl,?_⟩;have c1:∀ns:List Int,decide (((ddI ns).length:Int)=(((ns.map Qi).length:Nat):Int))=decide ns.Nodup:=λns=>by
     rw[Qd];refine decide_eq_decide.mpr ⟨λz=>(QjQ ns).mp (by omega),λz=>by have:=(QjQ ns).mpr z;omega⟩
    show if decide _=true then _ else _
    rw[c1];refine QbQ hR λ_ hR=>?_
    refine⟨_,QdB _,by rw[Qd];exact hl,?_⟩;show R (.bool (decide _));rw[c1];exact hR
theorem QmR:(["cell", "cells"]:List Str).Nodup:=by decide +kernel
theorem Qd6:Jm ["board", "thing", "high", "wide", "cells"] ["board", "thing"] (Qq Qfj):=⟨rfl,rfl,rfl,by decide +kernel,rfl,by decide +kernel,by decide +kernel⟩
theorem QpF{f f1 f2  : Addr}{fd fd1 fd2:QM}(F:Fun K "is_stand" "is_stand" Qfj f fd)(T:GlbA mg)
  (m1:mg "is_cells" = some (.ref f1))(G1:FnOk P w K mg base CX0 4 f1 fd1 ["high", "wide", "thing"] (JH false QnA))(b1:Binds K fd1 ["high", "wide", "thing"] [])(k1:PySem.W.keepIn K (.ref f1)=true)
  (m2:mg "are_apart" = some (.ref f2))(G2:FnOk P w K mg base CX0 1 f2 fd2 ["cells"] (JH false QnS))(b2:Binds K fd2 ["cells"] [])(k2:PySem.W.keepIn K (.ref f2)=true) :
  FnOk P w K mg base CX0 5 f fd ["board", "thing"] (JH false Qi8):=by
 refine okQ false F Qd6 (λargs R EX h=>?_) (λcdv A outer s H E hr=>?_)
 ·obtain⟨h,w,cs,d,rfl,_⟩:=h;rfl
 ·have hU:=Room.u60 hr;have hI:=Room.i60 hr;refine⟨_,QC (QbD (qv 0) (Yc rfl (Jj 2 (Jj 3 (Jj 4 Yd Qd6.nd rfl (by first | exact QN rfl | exact QK rfl)) Qd6.nd rfl (by first | exact QN rfl | exact QK rfl)) Qd6.nd rfl (by first | exact QN rfl | exact QK rfl))))
   (QC (QaI (YQ (YO (Q5 (Jw G1 (hr.mono (by decide)) (by rfl) m1 k1 b1 JL (J5 (qv 2) (J5 (qv 3) (J5 (qv 1) Jg))))))) (QY (Zz QgT)) ZE)
   (QY (Zz (Qe7 (QZ (Zb Qb7 (QfG rfl) (by rfl) T.all QfI (QaV (QZ (Y9 ["cell", "cells"] [none,some 4] (Qar (qp 1)) (λcl ex s3 H3 C=>⟨(ZF 0 QmR rfl (QN rfl) (QK rfl)),Z3,(J1 (QbE QdM (Qdt hI) (qp 0) (qp 1) (by rfl)))⟩))) Je))) (Qew (Jw G2 (hr.mono (by decide)) (by rfl) m2 k2 b2 JL (J5 (qv 1) Jg))))))),λargs R EX h=>?_⟩
  obtain⟨h,w,cs,d,rfl,hs,hR⟩:=h;refine⟨rfl,_,_,_,rfl,?_⟩;cases d with
  |tuple ds=>
   show if(!(ds.all (QkE h w)&&QbA ds))=true then _ else _
   cases hc:(ds.all (QkE h w)&&QbA ds) with
   |false=>
    rw[show Qoh h w cs (.tuple ds)=false by show((ds.all (QkE h w)&&QbA ds)&&_)=false;rw[hc];rfl] at hR;exact hR
   |true=>
    rw[show Qoh h w cs (.tuple ds)=(ds.all (inC cs)&&apB (ds.map toP)) by show((ds.all (QkE h w)&&QbA ds)&&_)=_;rw[hc];rfl] at hR;obtain⟨L,rfl,hL⟩:=Qjn (QR.mp hc).1;have hl:=hs _ rfl;rw[Qd] at hl;refine Qab (λd=>.bool (inC cs d)) (λd hd k2 hk=>?_) (QcD (items:=L.map pairD) rfl ?_)
    ·obtain⟨p,_,rfl⟩:=Qh.mp hd;exact⟨⟨Qak cs,rfl,by have:=Qb5 p;omega⟩,hk⟩
    ·rw[Qhd] at hR;refine QbQ hR λ_ hR=>⟨L,rfl,by omega,hR⟩
  |_=>exact hR
theorem QpV:(["part", "many"]:List Str).Nodup:=by decide +kernel
theorem Qtr:Jm ["many", "thing"] ["many", "thing"] (Qq Qko):=⟨rfl,rfl,rfl,by decide +kernel,rfl,by decide +kernel,by decide +kernel⟩
theorem QuD{f f1 f2  : Addr}{fd fd1 fd2:QM}(F:Fun K "is_numbers_rising" "is_numbers_rising" Qko f fd)(T:GlbA mg)
  (m1:mg "is_whole_within" = some (.ref f1))(G1:FnOk P w K mg base CX0 2 f1 fd1 ["thing", "least", "most"] (JH false Qcq))(b1:Binds K fd1 ["thing", "least", "most"] [])(k1:PySem.W.keepIn K (.ref f1)=true)
  (m2:mg "is_rising" = some (.ref f2))(G2:FnOk P w K mg base CX0 1 f2 fd2 ["things"] (JH false Qga))(b2:Binds K fd2 ["things"] [])(k2:PySem.W.keepIn K (.ref f2)=true) :
  FnOk P w K mg base CX0 3 f fd ["many", "thing"] (JH false QuJ):=by
 refine okQ false F Qtr (λargs R EX h=>?_) (λcdv A outer s H E hr=>?_)
 ·obtain⟨n,d,rfl,_⟩:=h;rfl
 ·have hU:=Room.u60 hr;have hI:=Room.i60 hr;refine⟨_,QC (QaI (YQ (YO (QZ (QdK .tuple (by rfl) T.isinstance (qp 1) (by rfl) T.tuple ZS)))) (QY (Zz QgT)) ZE)
   (QY (Zz (Qe7 (QZ (Zb Qb7 (QfG rfl) (by rfl) T.all QfI (QaV (QZ (Y9 ["part", "many"] [none,some 0] (Qar (qp 1)) (λcl ex s3 H3 C=>⟨(ZF 0 QpV rfl (QN rfl) (QK rfl)),Z3,(Jw G1 (hr.mono (by decide)) (by rfl) m1 k1 b1 JL (J5 (qv 0) (J5 Jt (J5 (J1 (Yq Qez QdN (qp 1) (Q5 Jt))) Jg))))⟩))) Je))) (Qew (Jw G2 (hr.mono (by decide)) (by rfl) m2 k2 b2 JL (J5 (qv 1) Jg)))))),λargs R EX h=>?_⟩
  obtain⟨n,d,rfl,hR⟩:=h;cases d with
  |tuple ds=>
   refine Qab (λd=>.bool (inW d 0 (n - 1))) (λd hd k2 hk=>⟨_,_,_,rfl,hk⟩) (QcD (items:=ds) rfl ?_);refine QbQ hR λha hR=>?_
   obtain⟨ns,rfl,_⟩:=Qiq ha;exact⟨_,.inl rfl,QiC ns,hR⟩
  |_=>exact hR
theorem QoS:Jm ["board", "thing"] ["board", "thing"] (Qq Qfn):=⟨rfl,rfl,rfl,by decide +kernel,rfl,by decide +kernel,by decide +kernel⟩
theorem QpK{f f1  : Addr}{fd fd1:QM}(F:Fun K "is_lines" "is_lines" Qfn f fd)(T:GlbA mg)
  (m1:mg "is_numbers_rising" = some (.ref f1))(G1:FnOk P w K mg base CX0 3 f1 fd1 ["many", "thing"] (JH false QuJ))(b1:Binds K fd1 ["many", "thing"] [])(k1:PySem.W.keepIn K (.ref f1)=true) :
  FnOk P w K mg base CX0 4 f fd ["board", "thing"] (JH false QmX):=by
 refine okQ false F QoS (λargs R EX h=>?_) (λcdv A outer s H E hr=>?_)
 ·obtain⟨h,w,cs,d,rfl,_⟩:=h;rfl
 ·have hU:=Room.u60 hr;have hI:=Room.i60 hr;refine⟨_,QC (QaI (Qkt (QdX (YQ (YO (QZ (QdK .tuple (by rfl) T.isinstance (qp 1) (by rfl) T.tuple ZS)))) (Qcg (Z1 Qcj (Qe8 hU) (QZ (Zb ZG QaJ (by rfl) T.len Qac (QaV (qp 1) Je))) (Q5 Jt) (ZA _))))) (QY (Zz QgT)) ZE)
   (QY (Zz (Qe7 (Q5 (Jw G1 (hr.mono (by decide)) (by rfl) m1 k1 b1 JL (J5 (Qah JF Zh (qp 0) (Q5 Jt) (λ_ _=>rfl)) (J5 (Qah JF Zh (qp 1) (Q5 Jt) (λ_ _=>rfl)) Jg)))) (Qew (Jw G1 (hr.mono (by decide)) (by rfl) m1 k1 b1 JL (J5 (Qah JF Zh (qp 0) (Q5 Jt) (λ_ _=>rfl)) (J5 (Qah JF Zh (qp 1) (Q5 Jt) (λ_ _=>rfl)) Jg))))))),λargs R EX h=>?_⟩
  obtain⟨h,w,cs,d,rfl,hR⟩:=h;cases d with
  |tuple ds=>
   match ds,hR with
   |[a,b],hR=>
    refine⟨_,Jq (j:=0) rfl,a,rfl,_,_,rfl,?_⟩;refine QbQ hR λ_ hR=>?_
    exact⟨_,Jq (j:=1) rfl,b,rfl,_,_,rfl,hR⟩
   |[],hR=>exact hR
   |[_],hR=>exact hR
   |a::b::c::r,hR=>exact hR
  |_=>exact hR
theorem Qhj:(["row", "column", "columns", "rows"]:List Str).Nodup:=by decide +kernel
theorem Qf3:Jm ["board", "thing", "rows", "columns"] ["board", "thing"] (Qq Qfo):=⟨rfl,rfl,rfl,by decide +kernel,rfl,by decide +kernel,by decide +kernel⟩
theorem QpL{f f1  : Addr}{fd fd1:QM}(F:Fun K "holds" "holds" Qfo f fd)(T:GlbA mg)
  (m1:mg "is_lines" = some (.ref f1))(G1:FnOk P w K mg base CX0 4 f1 fd1 ["board", "thing"] (JH false QmX))(b1:Binds K fd1 ["board", "thing"] [])(k1:PySem.W.keepIn K (.ref f1)=true) :
  FnOk P w K mg base CX0 5 f fd ["board", "thing"] (JH false QjJ):=by
 refine okQ false F Qf3 (λargs R EX h=>?_) (λcdv A outer s H E hr=>?_)
 ·obtain⟨h,w,cs,d,rfl,_⟩:=h;rfl
 ·have hU:=Room.u60 hr;have hI:=Room.i60 hr;refine⟨_,QC (QaI (YQ (YO (Q5 (Jw G1 (hr.mono (by decide)) (by rfl) m1 k1 b1 JL (J5 (qv 0) (J5 (qv 1) Jg)))))) (QY (Zz QgT)) ZE)
   (QC (QbD (qv 1) (Yc rfl (Jj 2 (Jj 3 Yd Qf3.nd rfl (by first | exact QN rfl | exact QK rfl)) Qf3.nd rfl (by first | exact QN rfl | exact QK rfl))))
   (QY (ZW (Zb Qb7 (QfG rfl) (by rfl) T.all QfI (QaV (QZ (Y9 ["row", "column", "columns", "rows"] [none,none,some 3,some 2] (Qar (Q5 (Qah JF Zh (qp 0) (Q5 Jt) (λ_ _=>rfl)))) (λcl ex s3 H3 C=>⟨(Yc rfl (Jj 0 (Jj 1 Yd Qhj rfl (QN rfl) (QK rfl)) Qhj rfl (QN rfl) (QK rfl))),Z3,(QzZ (QZ (QbE QdM (Qdt hI) (qp 0) (qp 3) (by rfl))) (Qew (J1 (QbE QdM (Qdt hI) (qp 1) (qp 2) (by rfl)))))⟩))) Je))))),λargs R EX h=>?_⟩
  obtain⟨h,w,cs,d,rfl,hR⟩:=h;refine⟨_,_,_,_,rfl,?_⟩;have no:QAz h w d=false->R (.bool false):=λz=>by
   have:QjD h w cs d=false:=by
    cases d<;>first | rfl | skip
    rename_i ds
    match ds,z with
    |[a,b],z=>show((Qdv h a&&Qdv w b)&&_)=false;rw[show(Qdv h a&&Qdv w b)=false from z];rfl
    |[],_=>rfl
    |[_],_=>rfl
    |a::b::c::r,_=>rfl
   rw[<- this];exact hR
  cases z:QAz h w d with
  |false=>exact no z
  |true=>
   cases d<;>first | (cases z;done) | skip
   rename_i ds
   match ds,z,hR with
   |[a,b],z,hR=>
    have hR:R (.bool ((Qdv h a&&Qdv w b)&&(cs.map pairD).all λd=>inT (toP d).1 a||inT (toP d).2 b)):=hR;have z:(Qdv h a&&Qdv w b)=true:=z;rw[z,YH] at hR;have z2:=QR.mp z;obtain⟨ns,rfl,_⟩:=QjC z2.1;obtain⟨ms,rfl,_⟩:=QjC z2.2;refine⟨rfl,_,Jq (j:=2) rfl,Qab (λd=>.bool (inT (toP d).1 (tN ns)||inT (toP d).2 (tN ms))) (λd hd k2 hk=>?_) (QcD (items:=cs.map pairD) rfl hR)⟩;obtain⟨p,_,rfl⟩:=Qh.mp hd;have hk:k2 (.bool (inT p.1 (tN ns)||inT p.2 (tN ms))):=hk;refine⟨rfl,⟨QbY ns,rfl,by show 0<=_;omega⟩,?_⟩;refine ifC (λz=>?_) λz=>?_
    ·rw[show inT p.1 (tN ns)=true from z,Bool.true_or] at hk;exact hk
    ·rw[show inT p.1 (tN ns)=false from z,Bool.false_or] at hk;exact⟨⟨QbY ms,rfl,by show 0<=_;omega⟩,hk⟩
   |[],z,_=>cases z
   |[_],z,_=>cases z
   |a::b::c::r,z,_=>cases z
theorem Qer:Jm ["board", "thing", "stand", "lines"] ["board", "thing"] (Qq Qkr):=⟨rfl,rfl,rfl,by decide +kernel,rfl,by decide +kernel,by decide +kernel⟩
theorem QmG{f f1 f2 f3  : Addr}{fd fd1 fd2 fd3:QM}(F:Fun K "is_showing" "is_showing" Qkr f fd)(T:GlbA mg)
  (m1:mg "is_stand" = some (.ref f1))(G1:FnOk P w K mg base CX0 5 f1 fd1 ["board", "thing"] (JH false Qi8))(b1:Binds K fd1 ["board", "thing"] [])(k1:PySem.W.keepIn K (.ref f1)=true)
  (m2:mg "holds" = some (.ref f2))(G2:FnOk P w K mg base CX0 5 f2 fd2 ["board", "thing"] (JH false QjJ))(b2:Binds K fd2 ["board", "thing"] [])(k2:PySem.W.keepIn K (.ref f2)=true)
  (m3:mg "how_many_lines" = some (.ref f3))(G3:FnOk P w K mg base CX0 1 f3 fd3 ["lines"] (JH false how22D))(b3:Binds K fd3 ["lines"] [])(k3:PySem.W.keepIn K (.ref f3)=true) :
  FnOk P w K mg base CX0 6 f fd ["board", "thing"] (JH false Qtn):=by
 refine okQ false F Qer (λargs R EX h=>?_) (λcdv A outer s H E hr=>?_)
 ·obtain⟨h,w,cs,d,rfl,_⟩:=h;rfl
 ·have hU:=Room.u60 hr;have hI:=Room.i60 hr;refine⟨_,QC (QaI (Qkt (QdX (YQ (YO (QZ (QdK .tuple (by rfl) T.isinstance (qp 1) (by rfl) T.tuple ZS)))) (Qcg (Z1 Qcj (Qe8 hU) (QZ (Zb ZG QaJ (by rfl) T.len Qac (QaV (qp 1) Je))) (Q5 Jt) (ZA _))))) (QY (Zz QgT)) ZE)
   (QC (QbD (qv 1) (Yc rfl (Jj 2 (Jj 3 Yd Qer.nd rfl (by first | exact QN rfl | exact QK rfl)) Qer.nd rfl (by first | exact QN rfl | exact QK rfl))))
   (QY (Zz (Qe7 (Q5 (Jw G1 (hr.mono (by decide)) (by rfl) m1 k1 b1 JL (J5 (qv 0) (J5 (qv 2) Jg)))) (Qe7 (Q5 (Jw G2 (hr.mono (by decide)) (by rfl) m2 k2 b2 JL (J5 (qv 0) (J5 (qv 3) Jg)))) (Qew (J1 (QbE Qck (Qe9 hU) (QZ (Zb ZG QaJ (by rfl) T.len Qac (QaV (qp 2) Je))) (Q5 (Jw G3 (hr.mono (by decide)) (by rfl) m3 k3 b3 JL (J5 (qv 3) Jg))) (ZA _))))))))),λargs R EX h=>?_⟩
  obtain⟨h,w,cs,d,rfl,hs,hR⟩:=h;cases d with
  |tuple ds=>
   match ds,hs,hR with
   |[a,b],hs,hR=>
    have sa:Qfh a:=(hs _ rfl a (.head _)).1;have hR:R (.bool (Qoh h w cs a&&(QjD h w cs b&&decide (QyW a=nLn b)))):=hR;refine⟨rfl,_,_,_,_,rfl,sa,QbQ hR λza hR=>⟨_,_,_,_,rfl,QbQ hR λzb hR=>?_⟩⟩;obtain⟨as,rfl⟩:=QxW za;obtain⟨rs,ms,rfl⟩:=QxY zb;exact⟨rs,ms,rfl,hR⟩
   |[],_,hR=>exact hR
   |[_],_,hR=>exact hR
   |a::b::c::r,_,hR=>exact hR
  |_=>exact hR
end
def Qs7:DF:=λargs R _=>∃(h w:Nat)(f:Nat->Nat->Bool),args=[.v (bdD h w (cellsF h w f))]/\h<=6/\w<=6/\R (bdD w h (cellsF w h (tF f)))
def QxO(f:Nat->Nat->Bool)(rs ms:List Nat):Nat->Nat->Bool:=λr c=>f (rs.getD r 0) (ms.getD c 0)
def Qdq:DF:=λargs R _=>∃(h w:Nat)(f:Nat->Nat->Bool)(rs ms:List Nat),args=[.v (bdD h w (cellsF h w f)),.v (tNn rs),.v (tNn ms)]/\h<=6/\w<=6/\rs∈Qcc h h/\ms∈Qcc w w/\R (bdD h w (cellsF h w (QxO f rs ms)))
theorem QAo{h w:Nat}{f:Nat->Nat->Bool}{r c:Nat}(hr:r<h)(hc:c<w):decide (((r:Int),(c:Int))∈cellsF h w f)=f r c:=by
 rw[J8,decide_eq_true_eq,Yr];constructor
 ·rintro⟨r',c',_,_,hf,e⟩;have e1:(r:Int)=(r':Int):=(JZ e).1;have e2:(c:Int)=(c':Int):=(JZ e).2;rw[show r=r' by omega,show c=c' by omega];exact hf
 ·intro hf;exact⟨r,c,hr,hc,hf,rfl⟩
def Qm1(cs:List (Int×Int))(cols:List Int)(r:Nat)(row:Int):List (Int×Int):=((Qt cols.length).filter λc=>decide ((row,cols.getD c 0)∈cs)).map λ(c:Nat)=>((r:Int),(c:Int))
def QvM(cs:List (Int×Int))(rows cols:List Int):List (Int×Int):=(Qt rows.length).flatMap λr=>Qm1 cs cols r (rows.getD r 0)
def QxN(cs:List (Int×Int))(r:Int)(i:Nat):Qa->Option Qa
 |.tuple [.int c,.int col]=>if(r,col)∈cs then some (pairD ((i:Int),c)) else none
 |_=>none
theorem QxM(cs:List (Int×Int))(cols:List Int)(i:Nat)(r:Int):(QdA (cols.map Qi)).filterMap (QxN cs r i)=(Qm1 cs cols i r).map pairD:=by
 unfold QdA Qm1;rw[Zs,Qd,QL];have key:∀l:List Nat,(∀j∈l,j<cols.length)->l.filterMap (QxN cs r i∘λ(j:Nat)=>Yb [Qi j,(cols.map Qi).getD j .none])=(l.filter λc=>decide ((r,cols.getD c 0)∈cs)).map (pairD∘λ(c:Nat)=>((i:Int),(c:Int))):=λl=>by
  induction l with
  |nil=>intro _;rfl
  |cons j l ih=>
   intro hl;have hj:=hl j (.head _);have e:(cols.map Qi).getD j .none=Qi (cols.getD j 0):=by
    rw[Qo,Qv,Qo,Qf hj];rfl
   have e2:(QxN cs r i∘λ(j:Nat)=>Yb [Qi j,(cols.map Qi).getD j .none]) j=if(r,cols.getD j 0)∈cs then some (pairD ((i:Int),(j:Int))) else none:=by
    show QxN cs r i (Yb [Qi j,(cols.map Qi).getD j .none])=_;rw[e];rfl
   rw[Qa5,e2];by_cases z:(r,cols.getD j 0)∈cs
   ·rw[if_pos z,Q7 (by simpa using z),Js,ih λk hk=>hl k (.tail _ hk)];rfl
   ·rw[if_neg z,Q8 (by simpa using z),ih λk hk=>hl k (.tail _ hk)]
 exact key _ λj hj=>Q0.mp hj
theorem Qp5(cs:List (Int×Int))(cols:List Int)(i:Nat)(r:Int):(Qm1 cs cols i r).length<=cols.length:=by
 unfold Qm1;rw[Qd];have:=Yy (λc=>decide ((r,cols.getD c 0)∈cs)) (Qt cols.length);rw[Q1] at this;exact this
theorem QjA(cs:List (Int×Int))(cols:List Int)(g:Nat->Int):∀n,((Qt n).flatMap λr=>Qm1 cs cols r (g r)).length<=n*cols.length
 |0=>by simp
 |n+1=>by
  rw[QcG,Qa4,Qu];have h1:=QjA cs cols g n;have h2:=Qp5 cs cols n (g n);have h3:([n].flatMap λr=>Qm1 cs cols r (g r)).length=(Qm1 cs cols n (g n)).length:=by simp
  rw[h3,Nat.add_mul];omega
def QtM(cs:List (Int×Int))(cols:List Int):Qa->List Qa
 |.tuple [.int i,.int r]=>(Qm1 cs cols i.toNat r).map pairD
 |_=>[]
theorem Qmi(cs:List (Int×Int))(rows cols:List Int):(QdA (rows.map Qi)).flatMap (QtM cs cols)=(QvM cs rows cols).map pairD:=by
 unfold QdA QvM;rw[Qd];have key:∀l:List Nat,(∀j∈l,j<rows.length)->(l.map λ(i:Nat)=>Yb [Qi i,(rows.map Qi).getD i .none]).flatMap (QtM cs cols)=(l.flatMap λr=>Qm1 cs cols r (rows.getD r 0)).map pairD:=λl=>by
  induction l with
  |nil=>intro _;rfl
  |cons j l ih=>
   intro hl;have hj:=hl j (.head _);have e:(rows.map Qi).getD j .none=Qi (rows.getD j 0):=by
    rw[Qo,Qv,Qo,Qf hj];rfl
   rw[Js,JA,ih λk hk=>hl k (.tail _ hk),e,JA,Jr];rfl
 exact key _ λj hj=>Q0.mp hj
theorem QAp{h w:Nat}{f:Nat->Nat->Bool}{rs ms:List Nat}(hr:∀x∈rs,x<h)(hm:∀x∈ms,x<w):QvM (cellsF h w f) (rs.map λ(x:Nat)=>(x:Int)) (ms.map λ(x:Nat)=>(x:Int))=cellsF rs.length ms.length (QxO f rs ms):=by
 have e:QvM (cellsF h w f) (rs.map λ(x:Nat)=>(x:Int)) (ms.map λ(x:Nat)=>(x:Int))=cellsF (rs.map λ(x:Nat)=>(x:Int)).length (ms.map λ(x:Nat)=>(x:Int)).length λr c=>decide (((rs.map λ(x:Nat)=>(x:Int)).getD r 0,(ms.map λ(x:Nat)=>(x:Int)).getD c 0)∈cellsF h w f):=rfl
 rw[e,Qd,Qd];refine QdO λr c hr' hc'=>?_
 have g:∀(l:List Nat)(i:Nat),i<l.length->(l.map λ(x:Nat)=>(x:Int)).getD i 0=((l.getD i 0:Nat):Int)/\l.getD i 0∈l:=λl i hi=>by
  rw[Qo,Qv,Qo,Qf hi];exact⟨rfl,Zw hi⟩
 rw[(g rs r hr').1,(g ms c hc').1,QAo (hr _ (g rs r hr').2) (hm _ (g ms c hc').2)];rfl
theorem Qu5(t:List Nat):QcN t=(t.map λ(y:Nat)=>(y:Int)).map Qi:=by unfold QcN;rw[QL];rfl
section
variable{P:QF}{w:Jk}{K:PySem.W.Frag}{mg:Str->Option Value}{base:Heap}
theorem Qtq:Jm ["board", "cell"] ["board", "cell"] (Qq Qkn):=⟨rfl,rfl,rfl,by decide +kernel,rfl,by decide +kernel,by decide +kernel⟩
theorem QuC{f f1  : Addr}{fd fd1:QM}(F:Fun K "refuse_no_cell" "refuse_no_cell" Qkn f fd)(T:GlbA mg)
  (m1:mg "is_place" = some (.ref f1))(G1:FnOk P w K mg base CX0 3 f1 fd1 ["high", "wide", "thing"] (JH false Qjm))(b1:Binds K fd1 ["high", "wide", "thing"] [])(k1:PySem.W.keepIn K (.ref f1)=true) :
  FnOk P w K mg base CX0 4 f fd ["board", "cell"] (JH false Qtw):=by
 refine okQ false F Qtq (λargs R EX h=>?_) (λcdv A outer s H E hr=>?_)
 ·obtain⟨h,w,cs,p,rfl,_⟩:=h;rfl
 ·have hU:=Room.u60 hr;have hI:=Room.i60 hr;refine⟨_,QY (QaI (Qkt (QdX (YQ (YO (Q5 (Jw G1 (hr.mono (by decide)) (by rfl) m1 k1 b1 JL (J5 (Qah JF Zh (qp 0) (Q5 Jt) (λ_ _=>rfl)) (J5 (Qah JF Zh (qp 0) (Q5 Jt) (λ_ _=>rfl)) (J5 (qv 1) Jg))))))) (Qcg (Z1 QbH (Qdt hI) (qp 1) (Q5 (Qah JF Zh (qp 0) (Q5 Jt) (λ_ _=>rfl))) (by rfl))))) QbC ZE),λargs R EX h=>?_⟩;obtain⟨h,w,cs,p,rfl,b,hp,hR⟩:=h;have q:=b.2.2 p hp;refine⟨_,Jq (j:=0) rfl,_,Jq (j:=1) rfl,_,_,_,rfl,?_⟩;rw[Qsn q.1 q.2.1 q.2.2.1 q.2.2.2];refine⟨_,Jq (j:=2) rfl,⟨Qak cs,rfl,by have:=Qb5 p;omega⟩,?_⟩;have e:((cs.map pairD).any λe=>QX e (pairD p))=true:=by rw[Qbd];exact decide_eq_true hp
  refine ifF ?_ hR
  show(!((cs.map pairD).any λe=>QX e (pairD p)))=false;rw[e];rfl
theorem QuM:(["other", "cell"]:List Str).Nodup:=by decide +kernel
theorem QoN:Jm ["board", "cell", "high", "wide", "cells"] ["board", "cell"] (Qq sWo):=⟨rfl,rfl,rfl,by decide +kernel,rfl,by decide +kernel,by decide +kernel⟩
theorem QAk{f f1  : Addr}{fd fd1:QM}(F:Fun K "without" "without" sWo f fd)(T:GlbA mg)
  (m1:mg "refuse_no_cell" = some (.ref f1))(G1:FnOk P w K mg base CX0 4 f1 fd1 ["board", "cell"] (JH false Qtw))(b1:Binds K fd1 ["board", "cell"] [])(k1:PySem.W.keepIn K (.ref f1)=true) :
  FnOk P w K mg base CX0 5 f fd ["board", "cell"] (JH false Qd3):=by
 refine okQ false F QoN (λargs R EX h=>?_) (λcdv A outer s H E hr=>?_)
 ·obtain⟨h,w,cs,p,rfl,_⟩:=h;rfl
 ·have hU:=Room.u60 hr;have hI:=Room.i60 hr;refine⟨_,QC (Qmc (Q5 (Jw G1 (hr.mono (by decide)) (by rfl) m1 k1 b1 JL (J5 (qv 0) (J5 (qv 1) Jg)))))
   (QC (QbD (qv 0) (Yc rfl (Jj 2 (Jj 3 (Jj 4 Yd QoN.nd rfl (by first | exact QN rfl | exact QK rfl)) QoN.nd rfl (by first | exact QN rfl | exact QK rfl)) QoN.nd rfl (by first | exact QN rfl | exact QK rfl))))
   (QY (ZW (Y7 (YZ (qv 2) (YZ (qv 3) (YZ (J1 (Y2 Zi QaA (by rfl) T.tuple ZS (QaV (QZ (Y9 ["other", "cell"] [none,some 1] (Qar (qp 4)) (λcl ex s3 H3 C=>⟨(ZF 0 QuM rfl (QN rfl) (QK rfl)),(QbB (Z1 Qcj (Qe8 hU) (qp 0) (qp 1) (ZA _))),(qv 0)⟩))) Je))) Je))))))),λargs R EX h=>?_⟩
  obtain⟨h,w,cs,p,rfl,b,hp,hR⟩:=h;refine⟨_,_,_,_,rfl,b,hp,?_⟩;refine⟨rfl,QkP (λd=>if(λq:Int×Int => !decide (q=p)) (toP d)=true then some d else none) (λd hd k1 k2 h1 h2=>?_) ?_⟩
  ·obtain⟨q,_,rfl⟩:=Qh.mp hd;have h1:(if(!decide (q=p))=true then some (pairD q) else none)=none->k1:=h1;have h2:∀e,(if(!decide (q=p))=true then some (pairD q) else none)=some e->k2 e:=h2
   refine⟨⟨rfl,rfl,.inl (by have:=Qb5 q;omega)⟩,?_⟩;show if(!QX (pairD q) (pairD p))=true then k2 (pairD q) else k1
   rw[QeN];by_cases z:(!decide (q=p))=true
   ·rw[if_pos z];exact h2 _ (if_pos z)
   ·rw[if_neg z];exact h1 (if_neg z)
  ·rw[QjN (λq:Int×Int => !decide (q=p))];exact hR
theorem QpU:(["cell", "board", "size"]:List Str).Nodup:=by decide +kernel
theorem Qjw:(["cell", "others"]:List Str).Nodup:=by decide +kernel
theorem Qjv:(["cell", "others", "many"]:List Str).Nodup:=by decide +kernel
theorem Qdj:Jm ["board", "size", "many", "left", "in_all", "in_none"] ["board"] (Qq Qkk):=⟨rfl,rfl,rfl,by decide +kernel,rfl,by decide +kernel,by decide +kernel⟩
theorem Quz{f f1 f2 f3  : Addr}{fd fd1 fd2 fd3:QM}(F:Fun K "sure" "sure" Qkk f fd)(T:GlbA mg)
  (m1:mg "greatest_size" = some (.ref f1))(G1:FnOk P w K mg base CX0 4 f1 fd1 ["board"] (JH false QjL))(b1:Binds K fd1 ["board"] [])(k1:PySem.W.keepIn K (.ref f1)=true)
  (m2:mg "counts" = some (.ref f2))(G2:FnOk P w K mg base CX0 3 f2 fd2 ["board"] (JH true QeQ))(b2:Binds K fd2 ["board"] [])(k2:PySem.W.keepIn K (.ref f2)=true)
  (m3:mg "without" = some (.ref f3))(G3:FnOk P w K mg base CX0 5 f3 fd3 ["board", "cell"] (JH false Qd3))(b3:Binds K fd3 ["board", "cell"] [])(k3:PySem.W.keepIn K (.ref f3)=true) :
  FnOk P w K mg base CX0 6 f fd ["board"] (JH false Qte):=by
 refine okQ false F Qdj (λargs R EX h=>?_) (λcdv A outer s H E hr=>?_)
 ·obtain⟨h,w,cs,rfl,_⟩:=h;rfl
 ·have hU:=Room.u60 hr;have hI:=Room.i60 hr;refine⟨_,QC (ZI 1 (Jw G1 (hr.mono (by decide)) (by rfl) m1 k1 b1 JL (J5 (qv 0) Jg)) Qdj.nd)
   (QC (ZI 2 (Qah JF Zh (QZ (Y3 G2 (hr.mono (by decide)) (by rfl) m2 k2 b2 JL (J5 (qv 0) Jg))) (qp 1) (λ_ _=>rfl)) Qdj.nd)
   (QC (Qeu ["cell", "board", "size"] [none,some 0,some 1] 3 Qdj.nd (Qar (Q5 (Qah JF Zh (qp 0) (Q5 Jt) (λ_ _=>rfl)))) (λcl ex s3 H3 C=>⟨(ZF 0 QpU rfl (QN rfl) (QK rfl)),Z3,(J1 (Y7 (YZ (qv 0) (YZ (Qah JF Zh (QZ (Y3 G2 (hr.mono (by decide)) (by rfl) m2 k2 b2 JL (J5 (Jw G3 (hr.mono (by decide)) (by rfl) m3 k3 b3 JL (J5 (qv 1) (J5 (qv 0) Jg))) Jg))) (qp 2) (λ_ _=>rfl)) Je))))⟩))
   (QC (Qeu ["cell", "others"] [none,none] 4 Qdj.nd (Qev (qp 3)) (λcl ex s3 H3 C=>⟨(Yc rfl (Jj 0 (Jj 1 Yd Qjw rfl (QN rfl) (QK rfl)) Qjw rfl (QN rfl) (QK rfl))),(QbB (Z1 Qck (Qe9 hU) (qp 1) (Q5 Jt) (ZA _))),(qv 0)⟩))
   (QC (Qeu ["cell", "others", "many"] [none,none,some 2] 5 Qdj.nd (Qev (qp 3)) (λcl ex s3 H3 C=>⟨(Yc rfl (Jj 0 (Jj 1 Yd Qjv rfl (QN rfl) (QK rfl)) Qjv rfl (QN rfl) (QK rfl))),(QbB (Z1 Qck (Qe9 hU) (qp 1) (qp 2) (ZA _))),(qv 0)⟩))
   (QY (ZW (Y7 (YZ (J1 (Y2 Zi QaA (by rfl) T.tuple ZS (QaV (qp 4) Je))) (YZ (J1 (Y2 Zi QaA (by rfl) T.tuple ZS (QaV (qp 5) Je))) Je))))))))),λargs R EX h=>?_⟩
  obtain⟨h,w,cs,rfl,b,hR⟩:=h;refine⟨_,_,_,rfl,b,λm g=>?_⟩;have hR:=hR m g;have hm:=g.1;have at_:∀cs,atI (QfE cs h w) (m:Int)=some (.int (Wc cs h h 0 m)):=λcs=>Jq (by unfold QfE;rw[Qv,Jo (by omega)];rfl)
  refine⟨_,_,_,rfl,b.1,b.2.1,b.col,_,at_ cs,_,Jq (j:=2) rfl,Qab (λd=>.tuple [d,.int (Wc (Rk.wo cs (toP d)) h h 0 m)]) (λd hd k2 hk=>?_) ?_⟩
  ·obtain⟨p,hp,rfl⟩:=Qh.mp hd;exact⟨_,_,_,_,rfl,b,hp,_,_,_,rfl,b.1,b.2.1,(b.wo p).col,_,at_ _,hk⟩
  ·have fil:∀(v:Int),((cs.map pairD).map λd=>Yb [d,.int (Wc (Rk.wo cs (toP d)) h h 0 m)]).filterMap (λd=>match d with | .tuple [c,.int n]=>if n=v then some c else none | _=>none)=(cs.filter λc=>decide (Wc (Rk.wo cs c) h h 0 m=v)).map pairD:=λv=>by
    rw[Zs,Zs];refine QkH λc _=>?_
    show(if Wc (Rk.wo cs c) h h 0 m=v then some (pairD c) else none)=if decide (Wc (Rk.wo cs c) h h 0 m=v)=true then some (pairD c) else none
    by_cases z:Wc (Rk.wo cs c) h h 0 m=v
    ·rw[if_pos z,if_pos (decide_eq_true z)]
    ·rw[if_neg z,if_neg (by simpa using z)]
   refine QkP (λd=>match d with | .tuple [c,.int n]=>if n=0 then some c else none | _=>none) (λd hd k1 k2 h1 h2=>?_) ?_
   ·obtain⟨d',hd',rfl⟩:=Qh.mp hd;obtain⟨p,hp,rfl⟩:=Qh.mp hd';have h1:(if Wc (Rk.wo cs p) h h 0 m=0 then some (pairD p) else none)=none->k1:=h1;have h2:∀e,(if Wc (Rk.wo cs p) h h 0 m=0 then some (pairD p) else none)=some e->k2 e:=h2
    refine⟨rfl,?_⟩;show if decide (Wc (Rk.wo cs p) h h 0 m=0)=true then k2 (pairD p) else k1
    by_cases z:Wc (Rk.wo cs p) h h 0 m=0
    ·rw[if_pos (decide_eq_true z)];exact h2 _ (if_pos z)
    ·rw[if_neg (by simpa using z)];exact h1 (if_neg z)
   ·rw[fil 0];refine QkP (λd=>match d with | .tuple [c,.int n]=>if n=Wc cs h h 0 m then some c else none | _=>none) (λd hd k1 k2 h1 h2=>?_) ?_
    ·obtain⟨d',hd',rfl⟩:=Qh.mp hd;obtain⟨p,hp,rfl⟩:=Qh.mp hd';have h1:(if Wc (Rk.wo cs p) h h 0 m=Wc cs h h 0 m then some (pairD p) else none)=none->k1:=h1;have h2:∀e,(if Wc (Rk.wo cs p) h h 0 m=Wc cs h h 0 m then some (pairD p) else none)=some e->k2 e:=h2
     refine⟨rfl,?_⟩;show if decide (Wc (Rk.wo cs p) h h 0 m=Wc cs h h 0 m)=true then k2 (pairD p) else k1
     by_cases z:Wc (Rk.wo cs p) h h 0 m=Wc cs h h 0 m
     ·rw[if_pos (decide_eq_true z)];exact h2 _ (if_pos z)
     ·rw[if_neg (by simpa using z)];exact h1 (if_neg z)
    ·rw[fil];exact hR
theorem Qhi:(["row", "column", "cells", "wide"]:List Str).Nodup:=by decide +kernel
theorem QcX:Jm ["board", "high", "wide", "cells", "left"] ["board"] (Qq Qfk):=⟨rfl,rfl,rfl,by decide +kernel,rfl,by decide +kernel,by decide +kernel⟩
theorem QpG{f   : Addr}{fd  : QM}(F:Fun K "rest" "rest" Qfk f fd)(T:GlbA mg) :
  FnOk P w K mg base CX0 1 f fd ["board"] (JH false Ql2):=by
 refine okQ false F QcX (λargs R EX h=>?_) (λcdv A outer s H E hr=>?_)
 ·obtain⟨h,w,f,rfl,_⟩:=h;rfl
 ·have hU:=Room.u60 hr;have hI:=Room.i60 hr;refine⟨_,QC (QbD (qv 0) (Yc rfl (Jj 1 (Jj 2 (Jj 3 Yd QcX.nd rfl (by first | exact QN rfl | exact QK rfl)) QcX.nd rfl (by first | exact QN rfl | exact QK rfl)) QcX.nd rfl (by first | exact QN rfl | exact QK rfl))))
   (QC (Qjg ["row", "column", "cells", "wide"] [none,none,some 3,some 2] 4 QcX.nd (Qra 0) (Qbi (by rfl) T.range (qp 1)) (λcl ex s3 H3 C=>⟨(ZF 0 Qhi rfl (QN rfl) (QK rfl)),Z3,(Qbi (by rfl) T.range (qp 3)),(ZF 1 Qhi rfl (QN rfl) (QK rfl)),(QbB (Z1 QbH (Qdt hI) (QZ (Y7 (YZ (qv 0) (YZ (qv 1) Je)))) (qp 2) (by rfl))),(J1 (Y7 (YZ (qv 0) (YZ (qv 1) Je))))⟩))
   (QY (ZW (Y7 (YZ (qv 1) (YZ (qv 2) (YZ (J1 (Y2 Zi QaA (by rfl) T.tuple ZS (QaV (qp 4) Je))) Je))))))),λargs R EX h=>?_⟩
  obtain⟨h,w,f,rfl,h6,w6,hR⟩:=h;have fl:∀i,(cellsF i w (Qk9 f)).length<=i*w:=Qb6 w (Qk9 f)
  have e0:∀n:Nat,(Qjb 0 n).flatMap (λd=>match d with | .int r=>(QbV r.toNat w (Qk9 f)).map pairD | _=>[])=(cellsF n w (Qk9 f)).map pairD:=λn=>by
   unfold Qjb cellsF;rw[QsW,List.map_flatMap]
   congr 1
   funext r
   show(QbV (0+(r:Int)).toNat w (Qk9 f)).map pairD=_;rw[show(0+(r:Int)).toNat=r by omega]
  refine⟨rfl,⟨by omega,by omega⟩,Qny (λd=>match d with | .int r=>(QbV r.toNat w (Qk9 f)).map pairD | _=>[]) 36 ?_ (λd hd acc N hb hN=>?_) ?_⟩
  ·rw[QH,e0,Qd];exact QU (fl h) (QdD h6 w6)
  ·obtain⟨i,hi⟩:=JK.mp hd;obtain⟨hi2,rfl⟩:=Qes hi;rw[QH] at hi2;have hN:N (acc++(QbV (0+(i:Int)).toNat w (Qk9 f)).map pairD):=hN;have hb:acc.length+((QbV (0+(i:Int)).toNat w (Qk9 f)).map pairD).length<=36:=hb;rw[show(0+(i:Int)).toNat=i by omega] at hN hb;refine⟨⟨by omega,by omega⟩,Qx0 (λd=>match d with | .int c=>if(!f i c.toNat)=true then some (pairD ((i:Int),c)) else none | _=>none) ?_ (λd hd k1 k2 h1 h2=>?_) ?_⟩
   ·rw[Qf8];exact Qbl (show acc.length+((w:Nat):Int).toNat<=42 by omega) (by decide)
   ·obtain⟨c,hc⟩:=JK.mp hd;obtain⟨hc2,rfl⟩:=Qes hc;rw[QH] at hc2;have h1:(if(!f i (0+(c:Int)).toNat)=true then some (pairD ((i:Int),0+(c:Int))) else none)=none->k1:=h1;have h2:∀e,(if(!f i (0+(c:Int)).toNat)=true then some (pairD ((i:Int),0+(c:Int))) else none)=some e->k2 e:=h2
    rw[show(0+(c:Int)).toNat=c by omega] at h1 h2;refine⟨⟨Qak _,rfl,by have:=Qb5 ((0+(i:Int)),(0+(c:Int)));exact QU (Nat.le_of_eq this) (by decide)⟩,?_⟩;show if(!((cellsF h w f).map pairD).any λe=>QX e (pairD (0+(i:Int),0+(c:Int))))=true then k2 (pairD (0+(i:Int),0+(c:Int))) else k1
    rw[Qbd];have em:decide ((0+(i:Int),0+(c:Int))∈cellsF h w f)=f i c:=by
     rw[show(0:Int)+(i:Int)=(i:Int) by omega,show(0:Int)+(c:Int)=(c:Int) by omega,J8,decide_eq_true_eq,Yr];constructor
     ·rintro⟨r,d,_,_,hf,e⟩;have e1:(i:Int)=r:=(JZ e).1;have e2:(c:Int)=d:=(JZ e).2;rw[show i=r by omega,show c=d by omega];exact hf
     ·intro hf;exact⟨i,c,hi2,hc2,hf,rfl⟩
    rw[em,show(0:Int)+(i:Int)=(i:Int) by omega];by_cases z:(!f i c)=true
    ·rw[if_pos z];exact h2 _ (if_pos z)
    ·rw[if_neg z];exact h1 (if_neg z)
   ·have er:(Qjb 0 ((w:Nat):Int).toNat).filterMap (λd=>match d with | .int c=>if(!f i c.toNat)=true then some (pairD ((i:Int),c)) else none | _=>none)=(QbV i w (Qk9 f)).map pairD:=by
     unfold Qjb QbV;rw[QH,Zs,QL];refine QkH (p:=Qk9 f i) λc _=>?_
     show(if(!f i (0+(c:Int)).toNat)=true then some (pairD ((i:Int),0+(c:Int))) else none)=if(!f i c)=true then some (pairD ((i:Int),(c:Int))) else none
     rw[show(0+(c:Int)).toNat=c by omega,show(0:Int)+(c:Int)=(c:Int) by omega]
    rw[er];exact hN
  ·rw[QH,e0];exact hR
theorem QuN:(["part", "many"]:List Str).Nodup:=by decide +kernel
theorem QwB:Jm ["many", "thing"] ["many", "thing"] (Qq sIsO):=⟨rfl,rfl,rfl,by decide +kernel,rfl,by decide +kernel,by decide +kernel⟩
theorem QxA{f f1  : Addr}{fd fd1:QM}(F:Fun K "is_order" "is_order" sIsO f fd)(T:GlbA mg)
  (m1:mg "is_whole_within" = some (.ref f1))(G1:FnOk P w K mg base CX0 2 f1 fd1 ["thing", "least", "most"] (JH false Qcq))(b1:Binds K fd1 ["thing", "least", "most"] [])(k1:PySem.W.keepIn K (.ref f1)=true) :
  FnOk P w K mg base CX0 3 f fd ["many", "thing"] (JH false QAy):=by
 refine okQ false F QwB (λargs R EX h=>?_) (λcdv A outer s H E hr=>?_)
 ·obtain⟨n,o,rfl,_⟩:=h;rfl
 ·have hU:=Room.u60 hr;have hI:=Room.i60 hr;refine⟨_,QC (QaI (Qkt (QdX (YQ (YO (QZ (QdK .tuple (by rfl) T.isinstance (qp 1) (by rfl) T.tuple ZS)))) (Qcg (Z1 Qcj (Qe8 hU) (QZ (Zb ZG QaJ (by rfl) T.len Qac (QaV (qp 1) Je))) (qp 0) (ZA _))))) (QY (Zz QgT)) ZE)
   (QC (QaI (YQ (YO (QZ (Zb Qb7 (QfG rfl) (by rfl) T.all QfI (QaV (QZ (Y9 ["part", "many"] [none,some 0] (Qar (qp 1)) (λcl ex s3 H3 C=>⟨(ZF 0 QuN rfl (QN rfl) (QK rfl)),Z3,(Jw G1 (hr.mono (by decide)) (by rfl) m1 k1 b1 JL (J5 (qv 0) (J5 Jt (J5 (J1 (Yq Qez QdN (qp 1) (Q5 Jt))) Jg))))⟩))) Je))))) (QY (Zz QgT)) ZE)
   (QY (ZW (QbE Qck (Qe9 hU) (QZ (Zb QkT Qvq (by rfl) T.sorted QeR (QaV (qp 1) Je))) (QZ (Qjj (by rfl) T.list (by rfl) T.range (qp 0))) (ZA _))))),λargs R EX h=>?_⟩
  obtain⟨n,o,rfl,n6,ho,hR⟩:=h;have lo:=Qax ho;have li:(QcN o).length=o.length:=by unfold QcN;exact Qd _
  refine ifF (by show(!decide ((((QcN o).length:Nat):Int)=(n:Int)))=false;rw[li,lo,decide_eq_true rfl];rfl) ?_
  refine Qab (λ_=>.bool true) (λd hd k2 hk=>?_) (QcD (g:=λ_=>true) (items:=QcN o) rfl ?_)
  ·unfold QcN at hd;obtain⟨x,hx,rfl⟩:=Qh.mp hd;have:=Qds ho x hx;refine⟨_,_,_,rfl,?_⟩;rw[show inW (.int (x:Int)) 0 ((n:Int) - 1)=true from QkG (by omega) (by omega)];exact hk
  ·rw[JW.mpr λ_ _=>rfl];refine((Qtj (Qrv o) (by unfold iN;rw[Qd];omega) λms pm pw=>?_).2);refine⟨⟨by omega,by omega⟩,?_⟩;have er:(Qt n).map (λ(i:Nat)=>Qi (i:Int))=(iN (Qt n)).map Qi:=by unfold iN;rw[QL];rfl
   rw[QxV ho pm pw,QH,er];refine⟨⟨QbY _,QbY _,.inl (QkJ _)⟩,?_⟩;rw[Qrg];exact hR
theorem Qju:(["row", "column"]:List Str).Nodup:=by decide +kernel
theorem Qf1:Jm ["board", "high", "wide", "cells"] ["board"] (Qq Qkj):=⟨rfl,rfl,rfl,by decide +kernel,rfl,by decide +kernel,by decide +kernel⟩
theorem Qux{f   : Addr}{fd  : QM}(F:Fun K "turned" "turned" Qkj f fd)(T:GlbA mg) :
  FnOk P w K mg base CX0 2 f fd ["board"] (JH false Qs7):=by
 refine okQ false F Qf1 (λargs R EX h=>?_) (λcdv A outer s H E hr=>?_)
 ·obtain⟨h,w,f,rfl,_⟩:=h;rfl
 ·have hU:=Room.u60 hr;have hI:=Room.i60 hr;refine⟨_,QC (QbD (qv 0) (Yc rfl (Jj 1 (Jj 2 (Jj 3 Yd Qf1.nd rfl (by first | exact QN rfl | exact QK rfl)) Qf1.nd rfl (by first | exact QN rfl | exact QK rfl)) Qf1.nd rfl (by first | exact QN rfl | exact QK rfl))))
   (QY (ZW (Y7 (YZ (qv 2) (YZ (qv 1) (YZ (J1 (Y2 Zi QaA (by rfl) T.tuple ZS (QaV (QZ (Zb QfH cd_sortP (by rfl) T.sorted QeR (QaV (QZ (Y9 ["row", "column"] [none,none] (Qar (qp 3)) (λcl ex s3 H3 C=>⟨(Yc rfl (Jj 0 (Jj 1 Yd Qju rfl (QN rfl) (QK rfl)) Qju rfl (QN rfl) (QK rfl))),Z3,(J1 (Y7 (YZ (qv 1) (YZ (qv 0) Je))))⟩))) Je))) Je))) Je)))))),λargs R EX h=>?_⟩
  obtain⟨h,w,f,rfl,h6,w6,hR⟩:=h;have hb:∀p∈cellsF h w f,0<=p.1/\p.1<h/\0<=p.2/\p.2<w:=λp hp=>Qbc hp
  have nd1:(cellsF h w f).Nodup:=(pw_cellsF w f h).imp Qjl;have nd2:(cellsF w h (tF f)).Nodup:=(pw_cellsF h (tF f) w).imp Qjl;have ln:(cellsF h w f).length<=36:=QU (Qb6 w f h) (QdD h6 w6);have es:((cellsF h w f).map pairD).map (λd=>pairD ((toP d).2,(toP d).1))=((cellsF h w f).map λp=>(p.2,p.1)).map pairD:=by rw[QL,QL];rfl
  have nd3:((cellsF h w f).map λp=>(p.2,p.1)).Nodup:=Jb.mpr (nd1.imp λ{a b} hne e=>hne (QfO (JZ e).2 (JZ e).1));refine⟨rfl,Qab (λd=>pairD ((toP d).2,(toP d).1)) (λd hd k2 hk=>?_) ?_⟩
  ·obtain⟨p,_,rfl⟩:=Qh.mp hd;exact⟨rfl,hk⟩
  ·rw[es];refine sortP_of nd3 (by rw[Qd];omega) (λp hp=>?_) λM pM pw=>?_
   ·obtain⟨q,hq,rfl⟩:=Qh.mp hp;have:=hb q hq;show 0<=q.1/\q.1<64;omega
   ·have pc:M.Perm (cellsF w h (tF f)):=pM.trans ((Zg nd3 nd2).mpr λp=>by
     rw[Qh,Yr];constructor
     ·rintro⟨q,hq,rfl⟩;obtain⟨r,c,hr,hc,hf,rfl⟩:=Yr.mp hq;exact⟨c,r,hc,hr,hf,rfl⟩
     ·rintro⟨r,c,hr,hc,hf,rfl⟩;exact⟨((c:Int),(r:Int)),Yr.mpr ⟨c,r,hc,hr,hf,rfl⟩,rfl⟩)
    have eM:M=cellsF w h (tF f):=ZT (le:=plt) (λa b _ _ h1 h2=>by rcases h1 with x | x<;>rcases h2 with y | y<;>omega) pw (pw_cellsF h (tF f) w) pc;rw[eM];exact hR
theorem QbZ:(["new_row", "row", "new_column", "column", "cells", "columns"]:List Str).Nodup:=by decide +kernel
theorem Qeq:Jm ["board", "rows", "columns", "cells", "kept"] ["board", "rows", "columns"] (Qq Qdm):=⟨rfl,rfl,rfl,by decide +kernel,rfl,by decide +kernel,by decide +kernel⟩
theorem QmD{f   : Addr}{fd  : QM}(F:Fun K "picked" "picked" Qdm f fd)(T:GlbA mg) :
  FnOk P w K mg base CX0 1 f fd ["board", "rows", "columns"] (JH false Qdq):=by
 refine okQ false F Qeq (λargs R EX h=>?_) (λcdv A outer s H E hr=>?_)
 ·obtain⟨h,w,f,rs,ms,rfl,_⟩:=h;rfl
 ·have hU:=Room.u60 hr;have hI:=Room.i60 hr;refine⟨_,QC (ZI 3 (Qah JF Zh (qp 0) (Q5 Jt) (λ_ _=>rfl)) Qeq.nd)
   (QC (Qjg ["new_row", "row", "new_column", "column", "cells", "columns"] [none,none,none,none,some 3,some 2] 4 Qeq.nd (Qu6 [0,1]) (Qjh (by rfl) T.enumerate (qp 1)) (λcl ex s3 H3 C=>⟨(Yc rfl (Jj 0 (Jj 1 Yd QbZ rfl (QN rfl) (QK rfl)) QbZ rfl (QN rfl) (QK rfl))),Z3,(Qjh (by rfl) T.enumerate (qv 5)),(Yc rfl (Jj 2 (Jj 3 Yd QbZ rfl (QN rfl) (QK rfl)) QbZ rfl (QN rfl) (QK rfl))),(QbB (Z1 QdM (Qdt hI) (QZ (Y7 (YZ (qv 1) (YZ (qv 3) Je)))) (qp 4) (by rfl))),(J1 (Y7 (YZ (qv 0) (YZ (qv 2) Je))))⟩))
   (QY (ZW (Y7 (YZ (J1 (Zb ZG QaJ (by rfl) T.len Qac (QaV (qp 1) Je))) (YZ (J1 (Zb ZG QaJ (by rfl) T.len Qac (QaV (qp 2) Je))) (YZ (J1 (Y2 Zi QaA (by rfl) T.tuple ZS (QaV (qp 4) Je))) Je))))))),λargs R EX h=>?_⟩
  obtain⟨h,w,f,rs,ms,rfl,h6,w6,hr,hm,hR⟩:=h;have l1:=Qax hr;have l2:=Qax hm;have hR:R (bdD ((rs.map λ(x:Nat)=>(x:Int)).length:Nat) ((ms.map λ(x:Nat)=>(x:Int)).length:Nat) (QvM (cellsF h w f) (rs.map λ(x:Nat)=>(x:Int)) (ms.map λ(x:Nat)=>(x:Int)))):=by
   rw[QAp (Qds hr) (Qds hm),Qd,Qd,l1,l2];exact hR
  have hr:(rs.map λ(x:Nat)=>(x:Int)).length<=60:=by rw[Qd];omega
  have hc:(ms.map λ(x:Nat)=>(x:Int)).length<=60:=by rw[Qd];omega
  unfold tNn;rw[Qu5,Qu5];clear hm;generalize (rs.map λ(x:Nat)=>(x:Int))=rows at *;generalize (ms.map λ(x:Nat)=>(x:Int))=cols at *;generalize cellsF h w f=cs at *;refine⟨_,Jq (j:=2) rfl,?_⟩;have lN:=QjA cs cols (λr=>rows.getD r 0) rows.length;have l36:rows.length*cols.length<=60*60:=QdD hr hc;refine Qny (QtM cs cols) 3600 (by rw[Qmi,Qd];exact QU lN l36) (λd hd acc N hb hN=>?_) ?_
  ·obtain⟨i,hi⟩:=JK.mp hd;obtain⟨e,he,rfl⟩:=Qb4 hi;rw[Qv] at he;obtain⟨r,er,rfl⟩:∃r,rows[i]? = some r/\e=.int r:=by
    cases z:rows[i]? with
    |none=>rw[z] at he;cases he
    |some r=>rw[z] at he;cases he;exact⟨r,rfl,rfl⟩
   have hN:N (acc++(Qm1 cs cols ((i:Int)).toNat r).map pairD):=hN;rw[QH,<- QxM] at hN;have la:acc.length<=3600:=by omega
   refine⟨rfl,Qx0 (QxN cs r i) (by rw[Qb3,Qd];unfold Qp3;omega) (λd hd k1 k2 h1 h2=>?_) hN⟩;obtain⟨j,hj⟩:=JK.mp hd;obtain⟨e2,he2,rfl⟩:=Qb4 hj;rw[Qv] at he2;obtain⟨c,ec,rfl⟩:∃c,cols[j]? = some c/\e2=.int c:=by
    cases z:cols[j]? with
    |none=>rw[z] at he2;cases he2
    |some r=>rw[z] at he2;cases he2;exact⟨r,rfl,rfl⟩
   refine⟨rfl,⟨Qak cs,rfl,QU (QcB (r,c)) (by decide)⟩,?_⟩;show if((cs.map pairD).any λe=>QX e (pairD (r,c)))=true then k2 (pairD ((i:Int),(j:Int))) else k1
   rw[Qbd];have h1:(if(r,c)∈cs then some (pairD ((i:Int),(j:Int))) else none)=none->k1:=h1;have h2:∀e,(if(r,c)∈cs then some (pairD ((i:Int),(j:Int))) else none)=some e->k2 e:=h2
   by_cases z:(r,c)∈cs
   ·rw[if_pos (decide_eq_true z)];exact h2 _ (if_pos z)
   ·rw[if_neg (by simpa using z)];exact h1 (if_neg z)
  ·rw[Qmi];have hR:R (.tuple [.int ((rows.map Qi).length:Int),.int ((cols.map Qi).length:Int),.tuple ((QvM cs rows cols).map pairD)]):=by
    rw[Qd,Qd];exact hR
   exact hR
theorem QwA:Jm ["board", "rows", "columns"] ["board", "rows", "columns"] (Qq sLed):=⟨rfl,rfl,rfl,by decide +kernel,rfl,by decide +kernel,by decide +kernel⟩
theorem Qxy{f f1 f2  : Addr}{fd fd1 fd2:QM}(F:Fun K "led" "led" sLed f fd)(T:GlbA mg)
  (m1:mg "is_order" = some (.ref f1))(G1:FnOk P w K mg base CX0 3 f1 fd1 ["many", "thing"] (JH false QAy))(b1:Binds K fd1 ["many", "thing"] [])(k1:PySem.W.keepIn K (.ref f1)=true)
  (m2:mg "picked" = some (.ref f2))(G2:FnOk P w K mg base CX0 1 f2 fd2 ["board", "rows", "columns"] (JH false Qdq))(b2:Binds K fd2 ["board", "rows", "columns"] [])(k2:PySem.W.keepIn K (.ref f2)=true) :
  FnOk P w K mg base CX0 4 f fd ["board", "rows", "columns"] (JH false Qdq):=by
 refine okQ false F QwA (λargs R EX h=>?_) (λcdv A outer s H E hr=>?_)
 ·obtain⟨h,w,f,rs,ms,rfl,_⟩:=h;rfl
 ·have hU:=Room.u60 hr;have hI:=Room.i60 hr;refine⟨_,QC (QaI (YQ (YO (Q5 (Jw G1 (hr.mono (by decide)) (by rfl) m1 k1 b1 JL (J5 (Qah JF Zh (qp 0) (Q5 Jt) (λ_ _=>rfl)) (J5 (qv 1) Jg)))))) QbC ZE)
   (QC (QaI (YQ (YO (Q5 (Jw G1 (hr.mono (by decide)) (by rfl) m1 k1 b1 JL (J5 (Qah JF Zh (qp 0) (Q5 Jt) (λ_ _=>rfl)) (J5 (qv 2) Jg)))))) QbC ZE)
   (QY (Zz (Jw G2 (hr.mono (by decide)) (by rfl) m2 k2 b2 JL (J5 (qv 0) (J5 (qv 1) (J5 (qv 2) Jg))))))),λargs R EX h=>?_⟩
  obtain⟨h,w,f,rs,ms,rfl,h6,w6,hr,hm,hR⟩:=h;exact⟨_,Jq (j:=0) rfl,h,rs,rfl,h6,hr,_,Jq (j:=1) rfl,w,ms,rfl,w6,hm,h,w,f,rs,ms,rfl,h6,w6,hr,hm,hR⟩
end
def QmV:DF:=λargs R _=>∃n:Nat,args=[.pot,.v (.int n)]/\n<=6/\∀o,o∈Qcc n n->R (tNn o)
def sw(p:Int×Int):Int×Int:=(p.2,p.1)
def Qn2:DF:=λargs R _=>∃(h w:Nat)(cs L:List (Int×Int))(rows:List Int)(ms:List Nat),args=[.v (.tuple [stT L,lnK rows ms])]/\GB h w cs/\Std cs L/\∀M:List (Int×Int),M.Perm (L.map sw)->M.Pairwise plt->R (.tuple [stT M,.tuple [.tuple (ms.map λ(x:Nat)=>Qi x),tN rows]])
def Qed:DF:=λargs R _=>∃(h w m:Nat)(cs:List (Int×Int)),args=[.v (bdD h w cs)]/\GB h w cs/\Great cs h w m/\R (.int (m:Int))
def QeC:DF:=λargs R _=>∃(h w:Nat)(f:Nat->Nat->Bool),args=[.pot,.v (bdD h w (cellsF h w f))]/\1<=h/\h<=5/\1<=w/\w<=5/\R (.bool true)
theorem Qwq(L:List (Int×Int)):(L.map pairD).map (λd=>pairD ((toP d).2,(toP d).1))=(L.map sw).map pairD:=by rw[QL,QL];rfl
theorem QzL{L:List (Int×Int)}(h:L.Nodup):(L.map sw).Nodup:=Jb.mpr (h.imp λ{a b} hne e=>hne (QfO (JZ e).2 (JZ e).1))
theorem Qtg{cs L:List (Int×Int)}(st:Std cs L):L.Nodup:=st.rows.imp λ{a b} h e=>by subst e;omega
theorem QAn(t:List Nat):nds (QcN t)=true:=by rw[Qu5];exact QbY _
theorem QyG(t:List Nat)(c:Nat):QcN (t++[c])=QcN t++[.int (c:Int)]:=by unfold QcN;rw[Jr];rfl
theorem Qnl:(Ys []).depth<=50:=by show 0+1<=50;decide
theorem Qz6{n k:Nat}{t:List Nat}{x:Nat}(h:(oth n t)[k]? = some x):(QcN (oth n t)).eraseIdx k=QcN (oth n (t++[x])):=by
 have nd:(oth n t).Nodup:=JN.filter _;unfold QcN;have e1:∀(l:List Nat)(i:Nat),(l.map λ(x:Nat)=>Qi (x:Int)).eraseIdx i=(l.eraseIdx i).map λ(x:Nat)=>Qi (x:Int):=λl i=>by
  rw[Ya,Ya,Jr,Qd0,QiT]
 rw[e1,Qhy nd h,Quk]
theorem Qmx{n:Nat}{t:List Nat}{x i:Nat}(ht:t∈Qcc n i)(hx:x∈oth n t):t++[x]∈Qcc n (i+1):=JV.mpr ⟨t,ht,Qh.mpr ⟨x,hx,rfl⟩⟩
theorem Qpz{n i:Nat}{t:List Nat}(ht:t∈Qcc n i):t.Nodup:=by
 induction i generalizing t with
 |zero=>rw[Qx.mp ht];exact List.nodup_nil
 |succ i ih=>
  obtain⟨p,hp,ho⟩:=JV.mp ht;obtain⟨x,hx,rfl⟩:=Qh.mp ho;refine JP.mpr ⟨ih hp,by simp,λa ha b hb e=>?_⟩;rw[Qx.mp hb] at e;have:=(Qj.mp hx).2;simp at this;exact this (by rw[<- e];exact ha)
section
variable{P:QF}{w:Jk}{K:PySem.W.Frag}{mg:Str->Option Value}{base:Heap}
theorem Qie:Jm ["_law_pot_here", "_law_many", "_law_left", "_law_found"] ["_law_pot_here", "_law_many"] (Qq Qfz):=⟨rfl,rfl,rfl,by decide +kernel,rfl,by decide +kernel,by decide +kernel⟩
theorem QuG{f f1  : Addr}{fd fd1:QM}(F:Fun K "_law_order" "_law_order" Qfz f fd)(T:GlbA mg)
  (m1:mg "_law_take" = some (.ref f1))(G1:FnOk P w K mg base CX0 1 f1 fd1 ["_law_pot_here", "_law_far"] (JH true QoF))(b1:Binds K fd1 ["_law_pot_here", "_law_far"] [])(k1:PySem.W.keepIn K (.ref f1)=true) :
  FnOk P w K mg base CX0 2 f fd ["_law_pot_here", "_law_many"] (JH false QmV):=by
 refine okQ false F Qie (λargs R EX h=>?_) (λcdv A outer s H E hr=>?_)
 ·obtain⟨n,rfl,_⟩:=h;rfl
 ·have hU:=Room.u60 hr;have hI:=Room.i60 hr;refine⟨_,QC (Qet 2 (Qjj (by rfl) T.list (by rfl) T.range (qp 1)) Qie.nd)
   (QC (Qet 3 (Qgb Je) Qie.nd)
   (QC (Qjf JQ (Z1 Qcj (Qe8 hU) (qp 2) (QZ (Qgb Je)) (ZA _))
    (QY (Qo3 3 2 (QZ (Y3 G1 (hr.mono (by decide)) (by rfl) m1 k1 b1 JL (Qch 0 (J5 (J1 (Zb ZG QaJ (by rfl) T.len Qac (QaV (qp 2) Je))) Jg)))))))
   (QY (ZW (Y2 Zi QaA (by rfl) T.tuple ZS (QaV (qp 3) Je)))))),λargs R EX h=>?_⟩
  obtain⟨n,rfl,n6,hR⟩:=h;refine⟨⟨by omega,by omega⟩,?_⟩;rw[QH];refine QrM (λm δ=>∃t i,t∈Qcc n i/\i+m=n/\δ=[.pot,.v (.int n),.own (QcN (oth n t)),.own (QcN t)]) n ⟨[],0,.head _,Qlh _,by rw[Qul];rfl⟩ ?_
  rintro m δ ⟨t,i,ht,hm,rfl⟩;have lt:=Qax ht;have oc:=Qum (Qpz ht) (Qds ht);refine⟨⟨QAn _,rfl,.inr Qnl⟩,?_⟩;have li:∀o:List Nat,(QcN o).length=o.length:=λo=>by unfold QcN;exact Qd _
  cases e:oth n t with
  |nil=>
   rw[e] at oc;have oc:0+t.length=n:=oc;have:i=n:=by omega
   subst this;exact hR t ht
  |cons y q=>
   have ll:(y::q).length+t.length=n:=by rw[<- e];exact oc
   refine⟨_,rfl,by rw[li];show(1:Int)<=((q.length+1:Nat):Int);omega,by rw[li];omega,λr r0 r1=>?_⟩;rw[li] at r1;obtain⟨k,rfl⟩:∃k:Nat,r=k:=⟨r.toNat,by omega⟩
   have hk:k<(y::q).length:=by omega
   obtain⟨x,hx⟩:∃x,(y::q)[k]? = some x:=⟨_,Qf hk⟩
   refine⟨k,.int x,rfl,by omega,by unfold QcN;rw[Qv,hx];rfl,by rw[li];omega,?_⟩;rw[<- e] at hx ⊢;refine⟨m - 1,by omega,t++[x],i+1,Qmx ht (Ja hx),by omega,?_⟩;rw[<- Qz6 hx,QyG];rfl
theorem Qhn:(["_law_row", "_law_column"]:List Str).Nodup:=by decide +kernel
theorem Qf5:Jm ["_law_found", "_law_stand", "_law_lines"] ["_law_found"] (Qq QfB):=⟨rfl,rfl,rfl,by decide +kernel,rfl,by decide +kernel,by decide +kernel⟩
theorem QpP{f   : Addr}{fd  : QM}(F:Fun K "_law_about" "_law_about" QfB f fd)(T:GlbA mg) :
  FnOk P w K mg base CX0 1 f fd ["_law_found"] (JH false Qn2):=by
 refine okQ false F Qf5 (λargs R EX h=>?_) (λcdv A outer s H E hr=>?_)
 ·obtain⟨h,w,cs,L,rows,ms,rfl,_⟩:=h;rfl
 ·have hU:=Room.u60 hr;have hI:=Room.i60 hr;refine⟨_,QC (QbD (qv 0) (Yc rfl (Jj 1 (Jj 2 Yd Qf5.nd rfl (by first | exact QN rfl | exact QK rfl)) Qf5.nd rfl (by first | exact QN rfl | exact QK rfl))))
   (QY (ZW (Y7 (YZ (J1 (Y2 Zi QaA (by rfl) T.tuple ZS (QaV (QZ (Zb QfH cd_sortP (by rfl) T.sorted QeR (QaV (QZ (Y9 ["_law_row", "_law_column"] [none,none] (Qar (qp 1)) (λcl ex s3 H3 C=>⟨(Yc rfl (Jj 0 (Jj 1 Yd Qhn rfl (QN rfl) (QK rfl)) Qhn rfl (QN rfl) (QK rfl))),Z3,(J1 (Y7 (YZ (qv 1) (YZ (qv 0) Je))))⟩))) Je))) Je))) (YZ (J1 (Y7 (YZ (Qah JF Zh (qp 2) (Q5 Jt) (λ_ _=>rfl)) (YZ (Qah JF Zh (qp 2) (Q5 Jt) (λ_ _=>rfl)) Je)))) Je))))),λargs R EX h=>?_⟩
  obtain⟨h,w,cs,L,rows,ms,rfl,g,st,hR⟩:=h;have h6:=g.bds.1;have sl:=QfX g st;refine⟨rfl,Qab (λd=>pairD ((toP d).2,(toP d).1)) (λd hd k2 hk=>?_) ?_⟩
  ·obtain⟨p,_,rfl⟩:=Qh.mp hd;exact⟨rfl,hk⟩
  ·rw[Qwq];refine sortP_of (QzL (Qtg st)) (by rw[Qd];omega) (λp hp=>?_) λM pM pw=>?_
   ·obtain⟨q,hq,rfl⟩:=Qh.mp hp;have:=g.bds.2.2 q (st.sub q hq);show 0<=q.1/\q.1<64;omega
   ·exact⟨_,Jq (j:=1) rfl,_,Jq (j:=0) rfl,hR M pM pw⟩
theorem QoR:Jm ["_law_board_here"] ["_law_board_here"] (Qq QkC):=⟨rfl,rfl,rfl,by decide +kernel,rfl,by decide +kernel,by decide +kernel⟩
theorem QpJ{f f1  : Addr}{fd fd1:QM}(F:Fun K "_law_most" "_law_most" QkC f fd)(T:GlbA mg)
  (m1:mg "showing" = some (.ref f1))(G1:FnOk P w K mg base CX0 5 f1 fd1 ["board"] (JH false Qf0))(b1:Binds K fd1 ["board"] [])(k1:PySem.W.keepIn K (.ref f1)=true) :
  FnOk P w K mg base CX0 6 f fd ["_law_board_here"] (JH false Qed):=by
 refine okQ false F QoR (λargs R EX h=>?_) (λcdv A outer s H E hr=>?_)
 ·obtain⟨h,w,m,cs,rfl,_⟩:=h;rfl
 ·have hU:=Room.u60 hr;have hI:=Room.i60 hr;refine⟨_,QY (ZW (Zb ZG QaJ (by rfl) T.len Qac (QaV (Q5 (Qah JF Zh (Q5 (Jw G1 (hr.mono (by decide)) (by rfl) m1 k1 b1 JL (J5 (qv 0) Jg))) (Q5 Jt) (λ_ _=>rfl))) Je))),λargs R EX h=>?_⟩;obtain⟨h,w,m,cs,rfl,g,gm,hR⟩:=h;obtain⟨L,eL,st,lk⟩:=Qgn g gm;refine⟨h,w,m,cs,L,rfl,g,gm,eL,_,Jq (j:=0) rfl,?_⟩;show R (.int (((L.map pairD).length:Nat):Int));rw[Qd,lk];exact hR
end
theorem Qnc{h w:Nat}{cs:List (Int×Int)}(g:GB h w cs)(p:Int×Int):GB h w (wo cs p):=⟨g.bds.wo p,g.srt.filter _,by
 rw[QlF];exact QU (Yy _ _) g.few⟩
theorem QlJ{cs L:List (Int×Int)}{p:Int×Int}:Std (wo cs p) L↔Std cs L/\p∉L:=by
 constructor
 ·intro st;refine⟨⟨λq hq=>(Qj.mp (st.sub q hq)).1,st.rows,st.cols⟩,λhp=>?_⟩;have:=(Qj.mp (st.sub p hp)).2;simp at this
 ·rintro⟨st,hp⟩;refine⟨λq hq=>Qj.mpr ⟨st.sub q hq,?_⟩,st.rows,st.cols⟩;have:q≠p:=λe=>hp (by rw[<- e];exact hq)
  simpa using this
theorem Qcv{h w:Nat}{cs:List (Int×Int)}(g:GB h w cs){k:Nat}:0<Wc cs h h 0 k↔∃L,Std cs L/\L.length=k:=by
 rw[QcA g];constructor
 ·intro hp;have hl:0<(evS cs k).length:=by omega
  exact⟨_,(QbI g.r0 k _).mp (Zw hl)⟩
 ·rintro⟨L,st,lk⟩;have:=ZM ((QbI g.r0 k L).mpr ⟨st,lk⟩);omega
theorem Qv7{h w:Nat}{cs:List (Int×Int)}(g:GB h w cs)(k:Nat):0<=Wc cs h h 0 k:=by rw[QcA g];omega
theorem QlG{h w:Nat}{cs L:List (Int×Int)}(g:GB h w cs)(st:Std cs L):L∈Qbg cs h:=by
 have:=(Qix g L.length).mem_iff.mp ((QbI g.r0 L.length L).mpr ⟨st,rfl⟩);exact(Qj.mp this).1
theorem QnU{h w m:Nat}{cs L:List (Int×Int)}(g:GB h w cs){p:Int×Int}(z:Wc (wo cs p) h h 0 m=0)(st:Std cs L)(lk:L.length=m):p∈L:=(QnV g.bds p).mp z L (QlG g st) lk
theorem QuK{h w m:Nat}{cs L:List (Int×Int)}(g:GB h w cs){p:Int×Int}(z:Wc (wo cs p) h h 0 m=Wc cs h h 0 m)(st:Std cs L)(lk:L.length=m):p∉L:=(none_iff g.bds p).mp z L (QlG g st) lk
theorem QoJ{cs L:List (Int×Int)}(st:Std cs L)(p:Int×Int):Std cs (L.filter λq => !decide (q=p)):=⟨λq hq=>st.sub q (Qj.mp hq).1,st.rows.filter _,by
 have:((L.filter λq => !decide (q=p)).map (·.2)).Sublist (L.map (·.2)):=Qoe.map _;exact st.cols.sublist this⟩
theorem QxG{cs L:List (Int×Int)}(st:Std cs L):L.Nodup:=st.rows.imp λ{a b} h e=>by subst e;omega
theorem Qjy{p:Int×Int}:∀{L:List (Int×Int)},L.Nodup->p∈L->(L.filter λq => !decide (q=p)).length+1=L.length
 |q::L,nd,hp=>by
  have nd:=JO.mp nd;by_cases z:q=p
  ·subst z;rw[Q8 (by simp)];have:L.filter (λr => !decide (r=q))=L:=Zl.mpr λr hr=>by
    have:r≠q:=λe=>nd.1 (by rw[<- e];exact hr)
    simpa using this
   rw[this];rfl
  ·rw[Q7 (by simpa using z)];have:=Qjy nd.2 ((Qy.mp hp).resolve_left λe=>z e.symm);show _+1+1=L.length+1;omega
theorem Qhv{h w m:Nat}{cs L:List (Int×Int)}(g:GB h w cs)(gm:Great cs h w m)(st:Std cs L):L.length<=m:=gm.2.2 _ (QfX g st) ((Qcv g).mpr ⟨L,st,rfl⟩)
theorem Qm9{h w m:Nat}{cs:List (Int×Int)}(g:GB h w cs)(gm:Great cs h w m){p:Int×Int}(z:Wc (wo cs p) h h 0 m=0):1<=m/\Great (wo cs p) h w (m - 1):=by
 obtain⟨L,st,lk⟩:=(Qcv g).mp gm.2.1;have hp:=QnU g z st lk;have ll:=Qjy (QxG st) hp;have m1:1<=m:=by
  have:=ZM hp;omega
 refine⟨m1,by have:=gm.1;omega,(Qcv (Qnc g p)).mpr ⟨_,QlJ.mpr ⟨QoJ st p,λhq=>?_⟩,by omega⟩,λk hk hp=>?_⟩
 ·have:=(Qj.mp hq).2;simp at this
 ·obtain⟨M,sM,lM⟩:=(Qcv (Qnc g p)).mp hp;have sM':=QlJ.mp sM;have:=Qhv g gm sM'.1;by_cases y:k=m
  ·subst y;rw[z] at hp;omega
  ·omega
theorem Qm8{h w m:Nat}{cs:List (Int×Int)}(g:GB h w cs)(gm:Great cs h w m){p:Int×Int}(z:¬Wc (wo cs p) h h 0 m=0):Great (wo cs p) h w m:=by
 refine⟨gm.1,by have:=Qv7 (Qnc g p) m;omega,λk hk hp=>?_⟩;obtain⟨M,sM,lM⟩:=(Qcv (Qnc g p)).mp hp;have:=Qhv g gm (QlJ.mp sM).1;omega
theorem QeH{h w h2 w2 m:Nat}{cs cs2:List (Int×Int)}(e:∀k,Wc cs2 h2 h2 0 k=Wc cs h h 0 k)(em:min h2 w2=min h w)(gm:Great cs h w m):Great cs2 h2 w2 m:=⟨by rw[em];exact gm.1,by rw[e];exact gm.2.1,λk hk hp=>gm.2.2 k (by rw[<- em];exact hk) (by rw[<- e];exact hp)⟩
theorem QpD{h w m:Nat}{cs:List (Int×Int)}(g:GB h w cs)(gm:Great cs h w m)(m1:m≠0)(c1:¬ 1<Wc cs h h 0 m):∃p∈cs,Wc (wo cs p) h h 0 m=0:=by
 obtain⟨L,st,lk⟩:=(Qcv g).mp gm.2.1;obtain⟨p,hp⟩:∃p,p∈L:=by
  cases L with
  |nil=>exact absurd lk.symm m1
  |cons p _=>exact⟨p,.head _⟩
 refine⟨p,st.sub p hp,(QnV g.bds p).mpr λM hM lM=>?_⟩;have e1:(evS cs m).length=1:=by
  have a:=gm.2.1;rw[QcA g] at a c1;omega
 have mL:=(QbI g.r0 m L).mpr ⟨st,lk⟩;have mM:M∈evS cs m:=(Qix g m).mem_iff.mpr (Qj.mpr ⟨hM,by simpa using lM⟩)
 match q:evS cs m,e1 with
 |[x],_=>
  rw[q] at mL mM;rw[Qx.mp mM,<- Qx.mp mL];exact hp
theorem QuU{h:Nat}{ns:List Int}(pw:ns.Pairwise (· < ·))(hb:∀x∈ns,0<=x/\x<(h:Int)):ns∈lotsN h:=by
 have e:ns=((Qt h).filter λ(x:Nat)=>decide ((x:Int)∈ns)).map λ(x:Nat)=>(x:Int):=by
  have pw2:(((Qt h).filter λ(x:Nat)=>decide ((x:Int)∈ns)).map λ(x:Nat)=>(x:Int)).Pairwise (· < ·):=Jb.mpr ((Qan.filter _).imp λ{a b} q=>by omega);refine ZT (le:=(· < ·)) (λa b _ _ h1 h2=>by omega) pw pw2 ((Zg (pw.imp λh=>by omega) (pw2.imp λh=>by omega)).mpr λx=>?_);rw[Qh];constructor
  ·intro hx;have:=hb x hx;exact⟨x.toNat,Qj.mpr ⟨Q0.mpr (by omega),by rw[Int.toNat_of_nonneg this.1];simpa using hx⟩,by omega⟩
  ·rintro⟨y,hy,rfl⟩;have:=(Qj.mp hy).2
   simpa using this
 rw[e];exact QeD _ h
theorem Qnj{h w m:Nat}{cs:List (Int×Int)}(g:GB h w cs)(gm:Great cs h w m){rows ns:List Int}(hr:rows∈lotsN h)(hc:QbM cs rows=m)(hn:ns.length<rows.length)(pw:ns.Pairwise (· < ·))(hb:∀x∈ns,0<=x/\x<(h:Int))(hl:∀p∈cs,p.1∈ns∨∃y∈colK cs rows,p.2=((y:Nat):Int)):False:=by
 obtain⟨L,st,lk⟩:=(Qcv g).mp gm.2.1;have a:=Qi7 g st (QuU pw hb);have b:(colK cs ns).length<=(colK cs rows).length:=by
  unfold colK;rw[<- Yo,<- Yo];refine Qk6 λx hx q=>?_
  have hx6:x<6:=Q0.mp hx;have q':x∈colK cs ns:=Qj.mpr ⟨hx,q⟩;obtain⟨p,hp,n1,e1⟩:=(Qb0 (QsA g) x).mp q';rcases hl p hp with z | ⟨y,hy,e2⟩
  ·exact absurd z n1
  ·have:y=x:=by omega
   subst this;exact(Qj.mp hy).2
 unfold QbM at a hc;omega
theorem Qyr(cs:List (Int×Int))(h w:Nat):QfE cs h w=((Qt (min h w+1)).map λk=>Wc cs h h 0 k).map Qi:=by unfold QfE;rw[QL];rfl
theorem Qwr:∀{ns:List Int},(∀x∈ns,x=0)->ns.sum=0
 |[],_=>rfl
 |n::ns,h=>by rw[YG,h n (.head _),Qwr λx hx=>h x (.tail _ hx)];rfl
theorem Qwf{h w m:Nat}{cs:List (Int×Int)}(g:GB h w cs)(gm:Great cs h w m):(((Qt (min h w+1)).map λk=>Wc cs h h 0 k).drop (m+1)).sum=0:=Qwr λx hx=>by
 obtain⟨i,hi⟩:=JK.mp hx;rw[List.getElem?_drop,Qv] at hi;by_cases z:m+1+i<min h w+1
 ·rw[Jo z] at hi;have hi:=QJ hi;have nn:=Qv7 g (m+1+i);have hi:Wc cs h h 0 (m+1+i)=x:=hi;by_cases y:0<Wc cs h h 0 (m+1+i)
  ·have:=gm.2.2 (m+1+i) (by omega) y;omega
  ·omega
 ·rw[Q6 (by rw[Q1];omega)] at hi;cases hi
theorem QsC{cs:List (Int×Int)}{h w m:Nat}(hm:m<=min h w):(QfE cs h w)[m]? = some (.int (Wc cs h h 0 m)):=by
 unfold QfE;rw[Qv,Jo (by omega)];rfl
theorem QjK{h w:Nat}{cs:List (Int×Int)}{rows cols:List Int}(q:QjD h w cs (.tuple [tN rows,tN cols])=true):Qdv h (tN rows)=true/\Qdv w (tN cols)=true/\∀p∈cs,p.1∈rows∨p.2∈cols:=by
 have q:=QR.mp (show((Qdv h (tN rows)&&Qdv w (tN cols))&&(cs.map pairD).all λd=>inT (toP d).1 (tN rows)||inT (toP d).2 (tN cols))=true from q);have q1:=QR.mp q.1;refine⟨q1.1,q1.2,λp hp=>?_⟩;have:=JW.mp q.2 (pairD p) (Qh.mpr ⟨p,hp,rfl⟩);have this:(inT p.1 (tN rows)||inT p.2 (tN cols))=true:=this;rw[Qdx,Qdx,Qa6,decide_eq_true_eq,decide_eq_true_eq] at this;exact this
theorem QAG{h w:Nat}{cs:List (Int×Int)}{rows cols:List Int}(q1:Qdv h (tN rows)=true)(q2:Qdv w (tN cols)=true)(q3:∀p∈cs,p.1∈rows∨p.2∈cols):QjD h w cs (.tuple [tN rows,tN cols])=true:=by
 show((Qdv h (tN rows)&&Qdv w (tN cols))&&(cs.map pairD).all λd=>inT (toP d).1 (tN rows)||inT (toP d).2 (tN cols))=true;rw[q1,q2,YH,YH];refine JW.mpr λd hd=>?_
 obtain⟨p,hp,rfl⟩:=Qh.mp hd;show(inT p.1 (tN rows)||inT p.2 (tN cols))=true;rw[Qdx,Qdx,Qa6,decide_eq_true_eq,decide_eq_true_eq];exact q3 p hp
theorem Qsk(r:List Int)(ms:List Nat):lnK r ms=.tuple [tN r,tN (ms.map λ(x:Nat)=>(x:Int))]:=by unfold lnK;rw[Qgi];rfl
theorem Qwm(ms:List Nat):Yb (ms.map λ(x:Nat)=>Qi x)=tN (ms.map λ(x:Nat)=>(x:Int)):=by rw[Qgi];rfl
theorem Qsj{h w:Nat}{f:Nat->Nat->Bool}{p:Int×Int}:p∈cellsF w h (tF f)↔sw p∈cellsF h w f:=by
 rw[Yr,Yr];constructor
 ·rintro⟨r,c,hr,hc,hf,rfl⟩;exact⟨c,r,hc,hr,hf,rfl⟩
 ·rintro⟨r,c,hr,hc,hf,e⟩;obtain⟨a,b⟩:=p;have e1:b=(r:Int):=(JZ e).1;have e2:a=(c:Int):=(JZ e).2;subst e1 e2;exact⟨c,r,hc,hr,hf,rfl⟩
theorem QoI{h w:Nat}{f:Nat->Nat->Bool}{L M:List (Int×Int)}(st:Std (cellsF h w f) L)(pM:M.Perm (L.map sw))(pw:M.Pairwise (λa b=>Rs.code a<Rs.code b)∨M.Pairwise plt)(hb:∀p∈cellsF h w f,0<=p.1/\p.1<64):Std (cellsF w h (tF f)) M:=by
 have sub:∀p∈M,sw p∈L:=λp hp=>by
  obtain⟨q,hq,rfl⟩:=Qh.mp (pM.mem_iff.mp hp);exact hq
 have pw:M.Pairwise plt:=by
  rcases pw with pw | pw
  ·refine ZO (λ{a b} ha hb' hc=>?_) pw;have x1:=hb _ (st.sub _ (sub a ha));have x2:=hb _ (st.sub _ (sub b hb'));have x1:0<=a.2/\a.2<64:=x1;have x2:0<=b.2/\b.2<64:=x2;have hc:64*a.1+a.2<64*b.1+b.2:=hc;by_cases y:a.1<b.1
   ·exact .inl y
   ·exact .inr ⟨by omega,by omega⟩
  ·exact pw
 have n1:(M.map (·.1)).Nodup:=by
  have:(M.map (·.1)).Perm (L.map (·.2)):=by
   have:=pM.map (·.1);rw[QL] at this;exact this
  exact this.nodup_iff.mpr st.cols
 have n2:(M.map (·.2)).Nodup:=by
  have:(M.map (·.2)).Perm (L.map (·.1)):=by
   have:=pM.map (·.2);rw[QL] at this;exact this
  exact this.nodup_iff.mpr (Jb.mpr (st.rows.imp λ{a b} h=>by omega))
 refine⟨λp hp=>Qsj.mpr (st.sub _ (sub p hp)),?_,n2⟩;have n1:=Jb.mp n1;exact(QcH.mpr ⟨pw,n1⟩).imp λ{a b} ⟨x,y⟩=>by
  rcases x with x | x
  ·exact x
  ·exact absurd x.1 y
theorem Qwy{h w:Nat}{cs L:List (Int×Int)}{rows cols:List Int}(g:GB h w cs)(st:Std cs L)(hl:QjD h w cs (.tuple [tN rows,tN cols])=true)(e:L.length=rows.length+cols.length):QyX h w cs (.tuple [stT L,.tuple [tN rows,tN cols]])=true:=by
 show(Qoh h w cs (stT L)&&(QjD h w cs (.tuple [tN rows,tN cols])&&decide (((L.map pairD).length:Int)=((rows.map Qi).length:Int)+((cols.map Qi).length:Int))))=true;rw[QrS g st,hl,Qd,Qd,Qd,decide_eq_true (by omega)];rfl
theorem QrX{L:List (Int×Int)}{rows cols:List Int}(a:L.length<=1000)(b:rows.length<=1000)(c:cols.length<=1000):QrW (.tuple [stT L,.tuple [tN rows,tN cols]]):=λds e=>by
 cases e;refine Y5 (p:=sh2) (QzO (by rw[Qd];exact a) λd hd=>?_) (Y5 ⟨Qdh (by show 2<=1000;decide),λds e=>?_⟩ QnW)
 ·obtain⟨p,_,rfl⟩:=Qh.mp hd;exact⟨p,rfl⟩
 ·cases e;exact Y5 (p:=Qfh) (Qdh (by rw[Qd];exact b)) (Y5 (Qdh (by rw[Qd];exact c)) QnW)
section
variable{P:QF}{w:Jk}{K:PySem.W.Frag}{mg:Str->Option Value}{base:Heap}
theorem ZV:Jm ["_law_pot_here", "_law_board_here", "_law_found", "_law_stand", "_law_lines", "_law_most_here", "_law_many", "_law_other", "_law_number", "_law_first", "_law_always", "_law_never", "_law_cell", "_law_less"] ["_law_pot_here", "_law_board_here"] (Qq Qfy):=⟨rfl,rfl,rfl,by decide +kernel,rfl,by decide +kernel,by decide +kernel⟩
theorem QmE{f f1 f2 f3 f4 f5 f6 f7 f8 f9 f10 f11 f12 f13  : Addr}{fd fd1 fd2 fd3 fd4 fd5 fd6 fd7 fd8 fd9 fd10 fd11 fd12 fd13:QM}(F:Fun K "_law_right" "_law_right" Qfy f fd)(T:GlbA mg)
  (m1:mg "showing" = some (.ref f1))(G1:FnOk P w K mg base CX0 5 f1 fd1 ["board"] (JH false Qf0))(b1:Binds K fd1 ["board"] [])(k1:PySem.W.keepIn K (.ref f1)=true)
  (m2:mg "counts" = some (.ref f2))(G2:FnOk P w K mg base CX0 3 f2 fd2 ["board"] (JH true QeQ))(b2:Binds K fd2 ["board"] [])(k2:PySem.W.keepIn K (.ref f2)=true)
  (m3:mg "is_showing" = some (.ref f3))(G3:FnOk P w K mg base CX0 6 f3 fd3 ["board", "thing"] (JH false Qtn))(b3:Binds K fd3 ["board", "thing"] [])(k3:PySem.W.keepIn K (.ref f3)=true)
  (m4:mg "is_stand" = some (.ref f4))(G4:FnOk P w K mg base CX0 5 f4 fd4 ["board", "thing"] (JH false Qi8))(b4:Binds K fd4 ["board", "thing"] [])(k4:PySem.W.keepIn K (.ref f4)=true)
  (m5:mg "holds" = some (.ref f5))(G5:FnOk P w K mg base CX0 5 f5 fd5 ["board", "thing"] (JH false QjJ))(b5:Binds K fd5 ["board", "thing"] [])(k5:PySem.W.keepIn K (.ref f5)=true)
  (m6:mg "turned" = some (.ref f6))(G6:FnOk P w K mg base CX0 2 f6 fd6 ["board"] (JH false Qs7))(b6:Binds K fd6 ["board"] [])(k6:PySem.W.keepIn K (.ref f6)=true)
  (m7:mg "_law_about" = some (.ref f7))(G7:FnOk P w K mg base CX0 1 f7 fd7 ["_law_found"] (JH false Qn2))(b7:Binds K fd7 ["_law_found"] [])(k7:PySem.W.keepIn K (.ref f7)=true)
  (m8:mg "led" = some (.ref f8))(G8:FnOk P w K mg base CX0 4 f8 fd8 ["board", "rows", "columns"] (JH false Qdq))(b8:Binds K fd8 ["board", "rows", "columns"] [])(k8:PySem.W.keepIn K (.ref f8)=true)
  (m9:mg "_law_order" = some (.ref f9))(G9:FnOk P w K mg base CX0 2 f9 fd9 ["_law_pot_here", "_law_many"] (JH false QmV))(b9:Binds K fd9 ["_law_pot_here", "_law_many"] [])(k9:PySem.W.keepIn K (.ref f9)=true)
  (m10:mg "_law_most" = some (.ref f10))(G10:FnOk P w K mg base CX0 6 f10 fd10 ["_law_board_here"] (JH false Qed))(b10:Binds K fd10 ["_law_board_here"] [])(k10:PySem.W.keepIn K (.ref f10)=true)
  (m11:mg "stand_at" = some (.ref f11))(G11:FnOk P w K mg base CX0 4 f11 fd11 ["board", "size", "number"] (JH false Qd5))(b11:Binds K fd11 ["board", "size", "number"] [])(k11:PySem.W.keepIn K (.ref f11)=true)
  (m12:mg "sure" = some (.ref f12))(G12:FnOk P w K mg base CX0 6 f12 fd12 ["board"] (JH false Qte))(b12:Binds K fd12 ["board"] [])(k12:PySem.W.keepIn K (.ref f12)=true)
  (m13:mg "without" = some (.ref f13))(G13:FnOk P w K mg base CX0 5 f13 fd13 ["board", "cell"] (JH false Qd3))(b13:Binds K fd13 ["board", "cell"] [])(k13:PySem.W.keepIn K (.ref f13)=true) :
  FnOk P w K mg base CX0 7 f fd ["_law_pot_here", "_law_board_here"] (JH false QeC):=by
 refine okQ false F ZV (λargs R EX h=>?_) (λcdv A outer s H E hr=>?_)
 ·obtain⟨h,w,f,rfl,_⟩:=h;rfl
 ·have hU:=Room.u60 hr;have hI:=Room.i60 hr;refine⟨_,QC (ZI 2 (Jw G1 (hr.mono (by decide)) (by rfl) m1 k1 b1 JL (J5 (qv 1) Jg)) ZV.nd)
   (QC (QbD (qv 2) (Yc rfl (Jj 3 (Jj 4 Yd ZV.nd rfl (by first | exact QN rfl | exact QK rfl)) ZV.nd rfl (by first | exact QN rfl | exact QK rfl))))
   (QC (ZI 5 (J1 (Zb ZG QaJ (by rfl) T.len Qac (QaV (qp 3) Je))) ZV.nd)
   (QC (ZI 6 (J1 (Y3 G2 (hr.mono (by decide)) (by rfl) m2 k2 b2 JL (J5 (qv 1) Jg))) ZV.nd)
   (QC (QaI (Qkt (QdX (YQ (YO (Q5 (Jw G3 (hr.mono (by decide)) (by rfl) m3 k3 b3 JL (J5 (qv 1) (J5 (qv 2) Jg)))))) (QdX (Z1 QpB Qc0 (Q5 (Qah JF Zh (qp 6) (qp 5) (λ_ _=>rfl))) (Q5 Jt) (ZA _)) (Qcg (Z1 Quq Qc0 (QZ (Zb (QhG rfl) QsD (by rfl) T.sum QsF (QaV (QZ (Qcu (qp 6) (Qcs (QZ (Yq Z4 Y4 (qp 5) (Q5 Jt)))) Qct)) Je))) (Q5 Jt) (ZA _)))))) (QY (Zz QgT)) ZE)
   (QC (QaI (Qkt (QdX (YQ (YO (Q5 (Jw G4 (hr.mono (by decide)) (by rfl) m4 k4 b4 JL (J5 (qv 1) (J5 (qv 3) Jg)))))) (QdX (YQ (YO (Q5 (Jw G5 (hr.mono (by decide)) (by rfl) m5 k5 b5 JL (J5 (qv 1) (J5 (qv 4) Jg)))))) (Qcg (YQ (YO (Q5 (Jw G3 (hr.mono (by decide)) (by rfl) m3 k3 b3 JL (J5 (Jw G6 (hr.mono (by decide)) (by rfl) m6 k6 b6 JL (J5 (qv 1) Jg)) (J5 (Jw G7 (hr.mono (by decide)) (by rfl) m7 k7 b7 JL (J5 (qv 2) Jg)) Jg)))))))))) (QY (Zz QgT)) ZE)
   (QC (ZI 7 (Jw G8 (hr.mono (by decide)) (by rfl) m8 k8 b8 JL (J5 (qv 1) (J5 (Jw G9 (hr.mono (by decide)) (by rfl) m9 k9 b9 JL (Qch 0 (J5 (Qah JF Zh (qp 1) (Q5 Jt) (λ_ _=>rfl)) Jg))) (J5 (Jw G9 (hr.mono (by decide)) (by rfl) m9 k9 b9 JL (Qch 0 (J5 (Qah JF Zh (qp 1) (Q5 Jt) (λ_ _=>rfl)) Jg))) Jg)))) ZV.nd)
   (QC (QaI (Qkt (QdX (Z1 Qcj (Qe8 hU) (Q5 (Jw G10 (hr.mono (by decide)) (by rfl) m10 k10 b10 JL (J5 (qv 7) Jg))) (qp 5) (ZA _)) (Qcg (Z1 Qcj (Qe8 hU) (Q5 (Jw G10 (hr.mono (by decide)) (by rfl) m10 k10 b10 JL (J5 (Jw G6 (hr.mono (by decide)) (by rfl) m6 k6 b6 JL (J5 (qv 1) Jg)) Jg))) (qp 5) (ZA _))))) (QY (Zz QgT)) ZE)
   (QC (Qci JQ rfl (Qbi (by rfl) T.range (QZ (Zb ZG QaJ (by rfl) T.len Qac (QaV (Q5 (Qah JF Zh (qp 4) (Q5 Jt) (λ_ _=>rfl))) Je)))) (ZF 8 ZV.nd rfl (by first | exact QN rfl | exact QK rfl))
    (QY (QaI (YO (Q5 (Jw G5 (hr.mono (by decide)) (by rfl) m5 k5 b5 JL (J5 (qv 1) (J5 (J1 (Y7 (YZ (J1 (Yq Z4 Y4 (QZ (Qcu (Q5 (Qah JF Zh (qp 4) (Q5 Jt) (λ_ _=>rfl))) Qct (Qcs (qp 8)))) (QZ (Qcu (Q5 (Qah JF Zh (qp 4) (Q5 Jt) (λ_ _=>rfl))) (Qcs (QZ (Yq Z4 Y4 (qp 8) (Q5 Jt)))) Qct)))) (YZ (Qah JF Zh (qp 4) (Q5 Jt) (λ_ _=>rfl)) Je)))) Jg))))) (QY (Zz QgT)) ZE)))
   (QC (ZI 9 (Jw G11 (hr.mono (by decide)) (by rfl) m11 k11 b11 JL (J5 (qv 1) (J5 (qv 5) (J5 Jt Jg)))) ZV.nd)
   (QC (QbD (Jw G12 (hr.mono (by decide)) (by rfl) m12 k12 b12 JL (J5 (qv 1) Jg)) (Yc rfl (Jj 10 (Jj 11 Yd ZV.nd rfl (by first | exact QN rfl | exact QK rfl)) ZV.nd rfl (by first | exact QN rfl | exact QK rfl))))
   (QC (Qci JQ rfl (Qar (Qah JF Zh (qp 1) (Q5 Jt) (λ_ _=>rfl))) (ZF 12 ZV.nd rfl (by first | exact QN rfl | exact QK rfl))
    (QC (ZI 13 (Jw G10 (hr.mono (by decide)) (by rfl) m10 k10 b10 JL (J5 (Jw G13 (hr.mono (by decide)) (by rfl) m13 k13 b13 JL (J5 (qv 1) (J5 (qv 12) Jg))) Jg)) ZV.nd)
   (QC (QaI (Qkt (QdX (Z1 Qcj (Qe8 hU) (qp 13) (QZ (Yq Qez QdN (qp 5) (QZ (Y2 QnG Qys (by rfl) T.int QsI (QaV (QZ (QbE QdM (Qdt hI) (qp 12) (qp 10) (by rfl))) Je))))) (ZA _)) (Qcg (Qkt (Ql9 (Z1 QdM (Qdt hI) (qp 12) (qp 11) (by rfl)) (Qii (Z1 QdM (Qdt hI) (qp 12) (QZ (Yq Z4 Y4 (qp 3) (qp 9))) (by rfl)))))))) (QY (Zz QgT)) ZE)
   (QY (QaI (Qkt (Ql9 (Z1 QdM (Qdt hI) (qp 12) (qp 10) (by rfl)) (Qii (Qkt (QdX (Z1 QbH (Qdt hI) (qp 12) (qp 3) (by rfl)) (Qcg (Z1 QbH (Qdt hI) (qp 12) (qp 9) (by rfl)))))))) (QY (Zz QgT)) ZE)))))
   (QY (Zz (QzZ (QZ (QbE Qcj (Qe8 hU) (qp 10) (QZ (Y7 Je)) (ZA _))) (QzZ (QZ (QbE Qck (Qe9 hU) (qp 5) (Q5 Jt) (ZA _))) (Qew (J1 (QbE Quq Qc0 (Q5 (Qah JF Zh (qp 6) (qp 5) (λ_ _=>rfl))) (Q5 Jt) (ZA _))))))))))))))))))),λargs R EX h=>?_⟩
  obtain⟨h,w,f,rfl,h1,h5,w1,w5,hR⟩:=h;have h6:h<=6:=by omega
  have w6:w<=6:=by omega
  have g:=QyY (h:=h) (w:=w) f h6 w6;have g2:=QyY (h:=w) (w:=h) (tF f) w6 h6;obtain⟨m,gm⟩:=Qiw g;obtain⟨L,eL,st,lk⟩:=Qgn g gm;obtain⟨hrow,hmin⟩:=Qx3 (cellsF h w f) h;have cst:=QkK g gm hrow hmin;have hl:=QAF g hrow;have lc:=Qp4 (cellsF h w f) (fewR (cellsF h w f) h);have ll:(L.map pairD).length=m:=by rw[Qd];exact lk
  have m6:m<=6:=by have:=gm.1;omega
  refine⟨h,w,m,_,L,rfl,g,gm,eL,?_⟩;generalize hrs:fewR (cellsF h w f) h=rows at *;obtain⟨rpw,rb,rl⟩:=Qc3 hrow;have ck:rows.length+(colK (cellsF h w f) rows).length=m:=cst;rw[Qsk] at hl ⊢;obtain⟨q1,q2,q3⟩:=QjK hl;have lcm:((colK (cellsF h w f) rows).map λ(x:Nat)=>(x:Int)).length=(colK (cellsF h w f) rows).length:=Qd _;refine⟨rfl,h,w,_,rfl,h6,w6,λp hp=>(Qbc hp).2.2,h,w,_,_,rfl,QrX (by omega) (by omega) (by omega),?_⟩;rw[show QyX h w (cellsF h w f) (.tuple [stT L,.tuple [tN rows,tN ((colK (cellsF h w f) rows).map λ(x:Nat)=>(x:Int))]])=true from Qwy g st hl (by omega)];refine⟨.int (Wc (cellsF h w f) h h 0 m),by rw[ll];exact Jq (QsC gm.1),ifF (decide_eq_false (by have:=gm.2.1;omega)) ?_⟩;rw[ll];refine QlD (((Qt (min h w+1)).map λk=>Wc (cellsF h w f) h h 0 k).drop (m+1)) (by rw[show(m:Int)+1=((m+1:Nat):Int) by omega,QhC,Qyr,QiT]) (ifF (decide_eq_false (by rw[Qwf g gm];omega)) ?_);refine⟨h,w,_,_,rfl,Qdh (by rw[ll];omega),?_⟩;rw[show Qoh h w (cellsF h w f) (stT L)=true from QrS g st];refine⟨h,w,_,_,rfl,?_⟩;rw[show QjD h w (cellsF h w f) (.tuple [tN rows,tN ((colK (cellsF h w f) rows).map λ(x:Nat)=>(x:Int))])=true from hl];refine⟨h,w,f,rfl,h6,w6,h,w,_,L,rows,colK (cellsF h w f) rows,by rw[Qsk],g,st,λM pM pw=>?_⟩;have sM:=QoI st pM (.inr pw) λp hp=>by have:=Qbc hp;omega
  have lM:M.length=m:=by rw[pM.length_eq,Qd];exact lk
  rw[Qwm];have hl2:QjD w h (cellsF w h (tF f)) (.tuple [tN ((colK (cellsF h w f) rows).map λ(x:Nat)=>(x:Int)),tN rows])=true:=QAG q2 q1 λp hp=>(q3 _ (Qsj.mp hp)).symm
  refine⟨w,h,_,_,rfl,QrX (by omega) (by omega) (by omega),?_⟩;rw[show QyX w h (cellsF w h (tF f)) (.tuple [stT M,.tuple [tN ((colK (cellsF h w f) rows).map λ(x:Nat)=>(x:Int)),tN rows]])=true from Qwy g2 sM hl2 (by omega)];refine⟨_,Jq (j:=0) rfl,h,rfl,h6,λrs hr=>⟨_,Jq (j:=1) rfl,w,rfl,w6,λms hm=>⟨h,w,f,rs,ms,rfl,h6,w6,hr,hm,?_⟩⟩⟩;have gl:Great (cellsF h w (QxO f rs ms)) h w m:=QeH (λk=>QyA f h6 w6 hr hm k) rfl gm;have gt:Great (cellsF w h (tF f)) w h m:=QeH (λk=>Qrw f h6 w6 k) (Nat.min_comm w h) gm;have nem:(!decide ((m:Int)=(m:Int)))=false:=by simp
  refine⟨h,w,m,_,rfl,QyY _ h6 w6,gl,ifF nem ?_⟩;refine⟨h,w,f,rfl,h6,w6,w,h,m,_,rfl,g2,gt,ifF nem ?_⟩;refine⟨_,Jq (j:=0) rfl,⟨by rw[Qd];omega,by rw[Qd];omega⟩,QeJ (λi δ=>∃x8,δ=[.pot,.v (bdD h w (cellsF h w f)),.v (.tuple [stT L,.tuple [tN rows,tN ((colK (cellsF h w f) rows).map λ(x:Nat)=>(x:Int))]]),.v (stT L),.v (.tuple [tN rows,tN ((colK (cellsF h w f) rows).map λ(x:Nat)=>(x:Int))]),.v (.int m),.v (.list (QfE (cellsF h w f) h w)),.v (bdD h w (cellsF h w (QxO f rs ms))),x8,.no,.no,.no,.no,.no]) ⟨_,rfl⟩ ?_ ?_⟩
  ·rintro i δ hi ⟨x8,rfl⟩;rw[Qd,QH] at hi;have ns1:Dl.cutD (rows.map Qi) none (some (0+(i:Int)))++Dl.cutD (rows.map Qi) (some (0+(i:Int)+1)) none=(rows.eraseIdx i).map Qi:=by
    rw[QaE,QjW _ _ (by omega),QH,show(i:Int)+1=((i+1:Nat):Int) by omega,QhC,Ya,Jr,Qd0,QiT]
   have le:=List.length_eraseIdx_of_lt hi;refine⟨_,Jq (j:=0) rfl,_,Jq (j:=0) rfl,?_,_,Jq (j:=1) rfl,h,w,_,_,rfl,?_⟩
   ·rw[<- Qu,ns1,Qd];omega
   ·rw[ns1];have no:QjD h w (cellsF h w f) (.tuple [tN (rows.eraseIdx i),tN ((colK (cellsF h w f) rows).map λ(x:Nat)=>(x:Int))])=false:=by
     cases e:QjD h w (cellsF h w f) (.tuple [tN (rows.eraseIdx i),tN ((colK (cellsF h w f) rows).map λ(x:Nat)=>(x:Int))]) with
     |false=>rfl
     |true=>
      obtain⟨_,_,z⟩:=QjK e;have sb:=List.eraseIdx_sublist rows i;exact(Qnj g gm hrow cst (ns:=rows.eraseIdx i) (by omega) (rpw.sublist sb) (λx hx=>rb x (sb.subset hx)) λp hp=>(z p hp).imp id λy=>by
       obtain⟨k,hk,e⟩:=Qh.mp y;exact⟨k,hk,e.symm⟩).elim
    exact ifF no ⟨_,rfl⟩
  rintro δ ⟨x8,rfl⟩;refine⟨h,w,_,m,0,L,rfl,g,gm.1,eL,h,w,_,rfl,g.bds,λm' gm'=>?_⟩;obtain rfl:=Qhw gm gm';refine⟨rfl,_,Jq (j:=2) rfl,QbL (λi δ=>∃x12 x13,δ=[.pot,.v (bdD h w (cellsF h w f)),.v (.tuple [stT L,.tuple [tN rows,tN ((colK (cellsF h w f) rows).map λ(x:Nat)=>(x:Int))]]),.v (stT L),.v (.tuple [tN rows,tN ((colK (cellsF h w f) rows).map λ(x:Nat)=>(x:Int))]),.v (.int m),.v (.list (QfE (cellsF h w f) h w)),.v (bdD h w (cellsF h w (QxO f rs ms))),x8,.v (stT L),.v (.tuple ((inAll (cellsF h w f) h m).map pairD)),.v (.tuple ((QjH (cellsF h w f) h m).map pairD)),x12,x13]) ⟨_,_,rfl⟩ ?_ ?_⟩
  ·rintro i d δ hd ⟨x12,x13,rfl⟩;obtain⟨p,hp,rfl⟩:=Qh.mp (Ja hd);have inP:∀cs:List (Int×Int),((nds (cs.map pairD)=true)/\nd (pairD p)=true/\(pairD p).depth<=50):=λcs=>⟨Qak cs,rfl,QU (QcB p) (by decide)⟩
   have eA:p∈inAll (cellsF h w f) h m↔Wc (wo (cellsF h w f) p) h h 0 m=0:=⟨λz=>of_decide_eq_true (Qj.mp z).2,λz=>Qj.mpr ⟨hp,decide_eq_true z⟩⟩;have eN:p∈QjH (cellsF h w f) h m->p∉L:=λz=>QuK g (of_decide_eq_true (Qj.mp z).2) st lk
   obtain⟨k,hk,gk⟩:∃k:Nat,(if p∈inAll (cellsF h w f) h m then k+1=m else k=m)/\Great (wo (cellsF h w f) p) h w k:=by
    by_cases z:Wc (wo (cellsF h w f) p) h h 0 m=0
    ·obtain⟨m1,gk⟩:=Qm9 g gm z;exact⟨m - 1,by rw[if_pos (eA.mpr z)];omega,gk⟩
    ·exact⟨m,by rw[if_neg λy=>z (eA.mp y)],Qm8 g gm z⟩
   refine⟨h,w,_,p,rfl,g.bds,hp,h,w,k,_,rfl,Qnc g p,gk,inP _,ifF ?_ ⟨inP _,?_⟩⟩
   ·show(!decide ((k:Int)=(m:Int) - (if(((inAll (cellsF h w f) h m).map pairD).any λe=>QX e (pairD p))=true then 1 else 0)))=false;rw[Qbd];by_cases z:p∈inAll (cellsF h w f) h m
    ·rw[if_pos z] at hk;rw[if_pos (decide_eq_true z),decide_eq_true (by omega)];rfl
    ·rw[if_neg z] at hk;rw[if_neg (by simpa using z),decide_eq_true (by omega)];rfl
   have iA:∀cs:List (Int×Int),((cs.map pairD).any λe=>QX e (pairD p))=decide (p∈cs):=λcs=>Qbd cs p
   refine ifC (λz=>?_) λz=>?_
   ·have z:(((QjH (cellsF h w f) h m).map pairD).any λe=>QX e (pairD p))=true:=z;rw[iA] at z;have nL:=eN (of_decide_eq_true z);refine⟨by rw[ll];omega,?_⟩;rw[<- Jr];refine⟨inP _,ifF ?_ ⟨inP _,?_⟩⟩
    ·show(((L++L).map pairD).any λe=>QX e (pairD p))=false;rw[iA];exact decide_eq_false λy=>(Jf.mp y).elim nL nL
    refine ifF ?_ ⟨_,_,rfl⟩
    show(((inAll (cellsF h w f) h m).map pairD).any λe=>QX e (pairD p))=false;rw[iA];exact decide_eq_false λy=>nL (QnU g (eA.mp y) st lk)
   ·refine⟨inP _,ifC (λz2=>?_) λz2=>⟨_,_,rfl⟩⟩;have z2:(((inAll (cellsF h w f) h m).map pairD).any λe=>QX e (pairD p))=true:=z2;rw[iA] at z2;have yL:=QnU g (eA.mp (of_decide_eq_true z2)) st lk;have nL:(!((L.map pairD).any λe=>QX e (pairD p)))=false:=by rw[iA,decide_eq_true yL];rfl
    exact⟨inP _,ifF nL ⟨inP _,ifF nL ⟨_,_,rfl⟩⟩⟩
  ·rintro δ ⟨x12,x13,rfl⟩;refine⟨⟨Qak _,rfl,.inr (by show 0+1<=50;decide)⟩,?_⟩;cases e:inAll (cellsF h w f) h m with
   |cons p r=>exact hR
   |nil=>
    refine ifF rfl (ifC (λz=>hR) λz=>?_);have mz:m≠0:=λq=>by have:=of_decide_eq_false z;omega
    have c1:1<Wc (cellsF h w f) h h 0 m:=by
     by_cases y:1<Wc (cellsF h w f) h h 0 m
     ·exact y
     ·obtain⟨p,hp,zp⟩:=QpD g gm mz y;have:p∈inAll (cellsF h w f) h m:=Qj.mpr ⟨hp,decide_eq_true zp⟩;rw[e] at this;cases this
    refine⟨.int (Wc (cellsF h w f) h h 0 m),Jq (QsC gm.1),?_⟩;show R (.bool (decide (1<Wc (cellsF h w f) h h 0 m)));rw[decide_eq_true c1];exact hR
end
section
variable{P:QF}{w:Jk}{K:PySem.W.Frag}{mg:Str->Option Value}{base:Heap}
theorem YB:Jm ["_law_pot_here", "_law_most_here", "_law_high", "_law_wide", "_law_way", "_law_thick", "_law_cells", "_law_row", "_law_column", "_law_drawn", "_law_some"] ["_law_pot_here", "_law_most_here"] (Qq QfA):=⟨rfl,rfl,rfl,by decide +kernel,rfl,by decide +kernel,by decide +kernel⟩
theorem QmF{f f1  : Addr}{fd fd1:QM}(F:Fun K "_law_board" "_law_board" QfA f fd)(T:GlbA mg)
  (m1:mg "_law_take" = some (.ref f1))(G1:FnOk P w K mg base CX0 1 f1 fd1 ["_law_pot_here", "_law_far"] (JH true QoF))(b1:Binds K fd1 ["_law_pot_here", "_law_far"] [])(k1:PySem.W.keepIn K (.ref f1)=true) :
  FnOk P w K mg base CX0 2 f fd ["_law_pot_here", "_law_most_here"] (JH false Qiu):=by
 refine okQ false F YB (λargs R EX h=>?_) (λcdv A outer s H E hr=>?_)
 ·obtain⟨m,rfl,_⟩:=h;rfl
 ·have hU:=Room.u60 hr;have hI:=Room.i60 hr;refine⟨_,QC (ZI 2 (J1 (Yq Z4 Y4 (Q5 Jt) (QZ (Y3 G1 (hr.mono (by decide)) (by rfl) m1 k1 b1 JL (Qch 0 (J5 (qv 1) Jg)))))) YB.nd)
   (QC (ZI 3 (J1 (Yq Z4 Y4 (Q5 Jt) (QZ (Y3 G1 (hr.mono (by decide)) (by rfl) m1 k1 b1 JL (Qch 0 (J5 (qv 1) Jg)))))) YB.nd)
   (QC (ZI 4 (J1 (Y3 G1 (hr.mono (by decide)) (by rfl) m1 k1 b1 JL (Qch 0 (J5 Jt Jg)))) YB.nd)
   (QC (ZI 5 (J1 (Yq Z4 Y4 (Q5 Jt) (QZ (Y3 G1 (hr.mono (by decide)) (by rfl) m1 k1 b1 JL (Qch 0 (J5 Jt Jg)))))) YB.nd)
   (QC (Qet 6 (Qgb Je) YB.nd)
   (QC (Qci JQ rfl (Qbi (by rfl) T.range (qp 2)) (ZF 7 YB.nd rfl (by first | exact QN rfl | exact QK rfl))
    (QY (Qci JQ rfl (Qbi (by rfl) T.range (qp 3)) (ZF 8 YB.nd rfl (by first | exact QN rfl | exact QK rfl))
    (QC (ZI 9 (J1 (QbE QpB Qc0 (QZ (Y3 G1 (hr.mono (by decide)) (by rfl) m1 k1 b1 JL (Qch 0 (J5 Jt Jg)))) (qp 5) (ZA _))) YB.nd)
   (QC (ZI 10 (J1 (Yq Z4 Y4 (QZ (Yq QmA Qse (QZ (Qgb (YZ (qv 9) Je))) (Q5 Jt))) (QZ (Qgb (YZ QgT (YZ QgT (YZ (J1 (QbE QpB Qc0 (qp 8) (qp 7) (ZA _))) (YZ (J1 (QbE Qck (Qe9 hU) (QZ (Yq Qhh QmO (QZ (Yq Z4 Y4 (qp 7) (qp 8))) (Q5 Jt))) (Q5 Jt) (ZA _))) (YZ (J1 (QbE Quo Qc0 (qp 7) (qp 8) (ZA _))) Je))))))))) YB.nd)
   (QY (QaI (Qma (Q5 (Qah JF Zh (qp 10) (qp 4) (λ_ _=>rfl)))) (QY (QwQ 6 (J1 (Y7 (YZ (qv 7) (YZ (qv 8) Je)))))) ZE)))))))
   (QY (ZW (Y7 (YZ (qv 2) (YZ (qv 3) (YZ (J1 (Y2 Zi QaA (by rfl) T.tuple ZS (QaV (qp 6) Je))) Je))))))))))),λargs R EX h=>?_⟩
  obtain⟨m,rfl,m1,m6,hR⟩:=h;refine⟨_,rfl,by omega,by omega,λrh rh0 rh1=>⟨_,rfl,by omega,by omega,λrw0 rw1 rw2=>?_⟩⟩;refine⟨_,rfl,by decide,by decide,λway way0 way1=>⟨_,rfl,by decide,by decide,λth th0 th1=>?_⟩⟩;obtain⟨h,hh⟩:∃h:Nat,(h:Int)=1+rh:=⟨(1+rh).toNat,by omega⟩
  obtain⟨w,hw⟩:∃w:Nat,(w:Int)=1+rw0:=⟨(1+rw0).toNat,by omega⟩
  rw[<- hh,<- hw];refine⟨⟨by omega,by omega⟩,QeJ (λi δ=>∃f ds x1 x2 x3 x4,δ=[.pot,.v (.int m),.v (.int h),.v (.int w),.v (.int way),.v (.int (1+th)),.own ds,x1,x2,x3,x4]/\ds=(cellsF i w f).map pairD) ⟨λ_ _=>false,_,_,_,_,_,rfl,rfl⟩ ?_ ?_⟩
  ·rintro i δ hi ⟨f,ds,x1,x2,x3,x4,rfl,rfl⟩;refine⟨⟨by omega,by omega⟩,QeJ (λj δ=>∃f ds x2 x3 x4,δ=[.pot,.v (.int m),.v (.int h),.v (.int w),.v (.int way),.v (.int (1+th)),.own ds,.v (.int (0+(i:Int))),x2,x3,x4]/\ds=(cellsF i w f++QbV i j f).map pairD) ⟨f,_,_,_,_,rfl,by rw[show QbV i 0 f=[] from rfl,Zo]⟩ ?_ ?_⟩
   ·rintro j δ hj ⟨f,ds,x2,x3,x4,rfl,rfl⟩;refine⟨_,rfl,by decide,by decide,λdr dr0 dr1=>?_⟩;refine⟨⟨by decide,by decide,by show 1*5<=_;decide⟩,by show(0:Int)<2;decide,by show 5+5<=_;decide,?_⟩;refine QAr way0 (by show way<10;exact way1) λd hd=>?_
    obtain⟨b,rfl⟩:∃b,d=.bool b:=Y5 (p:=λd=>∃b,d=Qbu b) ⟨_,rfl⟩ (Y5 ⟨_,rfl⟩ (Y5 ⟨_,rfl⟩ (Y5 ⟨_,rfl⟩ (Y5 ⟨_,rfl⟩ (Y5 ⟨_,rfl⟩ (Y5 ⟨_,rfl⟩ (Y5 ⟨_,rfl⟩ (Y5 ⟨_,rfl⟩ (Y5 ⟨_,rfl⟩ QnW))))))))) d hd
    refine⟨trivial,?_⟩;have ec:cellsF i w (Qs6 f i j b)++QbV i (j+1) (Qs6 f i j b)=cellsF i w f++QbV i j f++(if b=true then[((i:Int),(j:Int))] else[]):=by
     rw[QkQ (Qg _),Ql0,QoX (Qg _),<- Qbw,show Qs6 f i j b i j=b from if_pos ⟨rfl,rfl⟩]
    cases b with
    |false=>
     refine⟨Qs6 f i j false,_,_,_,_,rfl,?_⟩;rw[ec,if_neg (by decide),Zo]
    |true=>
     have l1:=Qb6 w f i;have l2:=Qf7 i j f;have l3:i*w<=6*6:=QdD (by omega) (by omega);refine⟨by rw[Qd,Qu];omega,Qs6 f i j true,_,_,_,_,rfl,?_⟩;rw[ec,if_pos rfl,Jr (l₁:=cellsF i w f++QbV i j f),show(0:Int)+(i:Int)=(i:Int) by omega,show(0:Int)+(j:Int)=(j:Int) by omega];rfl
   ·rintro δ ⟨f,ds,x2,x3,x4,rfl,rfl⟩;exact⟨f,_,_,_,_,_,rfl,by rw[YL,QH]⟩
  ·rintro δ ⟨f,ds,x1,x2,x3,x4,rfl,rfl⟩;rw[QH];exact hR h w f (by omega) (by omega) (by omega) (by omega)
theorem QlW:Jm ["_law_script", "_law_k", "_law_pot_here"] ["_law_script"] (Qq sLaw):=⟨rfl,rfl,rfl,by decide +kernel,rfl,by decide +kernel,by decide +kernel⟩
theorem Qxz{f f1 f2 f3 f4 f5 f6  : Addr}{fd fd1 fd2 fd3 fd4 fd5 fd6:QM}(F:Fun K "law" "law" sLaw f fd)(T:GlbA mg)
  (m1:mg "_law_cell_at" = some (.ref f1))(G1:FnOk P w K mg base CX0 1 f1 fd1 ["_law_script", "_law_k"] (QcW K))(b1:Binds K fd1 ["_law_script", "_law_k"] [])(k1:PySem.W.keepIn K (.ref f1)=true)
  (m2:mg "_law_pot" = some (.ref f2))(G2:FnOk P w K mg base CX0 1 f2 fd2 ["_law_cell"] (JH true Qz5))(b2:Binds K fd2 ["_law_cell"] [])(k2:PySem.W.keepIn K (.ref f2)=true)
  (m3:mg "_law_board" = some (.ref f3))(G3:FnOk P w K mg base CX0 2 f3 fd3 ["_law_pot_here", "_law_most_here"] (JH false Qiu))(b3:Binds K fd3 ["_law_pot_here", "_law_most_here"] [])(k3:PySem.W.keepIn K (.ref f3)=true)
  (m4:mg "_law_right" = some (.ref f4))(G4:FnOk P w K mg base CX0 7 f4 fd4 ["_law_pot_here", "_law_board_here"] (JH false QeC))(b4:Binds K fd4 ["_law_pot_here", "_law_board_here"] [])(k4:PySem.W.keepIn K (.ref f4)=true)
  (m5:mg "_law_most" = some (.ref f5))(G5:FnOk P w K mg base CX0 6 f5 fd5 ["_law_board_here"] (JH false Qed))(b5:Binds K fd5 ["_law_board_here"] [])(k5:PySem.W.keepIn K (.ref f5)=true)
  (m6:mg "rest" = some (.ref f6))(G6:FnOk P w K mg base CX0 1 f6 fd6 ["board"] (JH false Ql2))(b6:Binds K fd6 ["board"] [])(k6:PySem.W.keepIn K (.ref f6)=true) :
  FnOk P w K mg base CX0 8 f fd ["_law_script"] (Qff K):=by
 refine QB4 F QlW (λcdv A outer s H E hr=>?_);have hU:=Room.u60 hr;have hI:=Room.i60 hr;refine⟨_,QC (Qci JQ rfl (Qbi (by rfl) T.range (QZ (Zb (QnF rfl) Qvs (by rfl) T.max QsH (QaV (Q5 Jt) (QaV (QZ (Zb (QhJ rfl) QnB (by rfl) T.min QsG (QaV (QZ (QwT 0 (by rfl) T.len)) (QaV (Q5 Jt) Je)))) Je))))) (ZF 1 QlW.nd rfl (by first | exact QN rfl | exact QK rfl))
    (QC (QtB 2 (Y3 G2 (hr.mono (by decide)) (by rfl) m2 k2 b2 JL (J5 (J1 (QwU 0 G1 (hr.mono (by decide)) (by rfl) m1 k1 b1 (qp 1))) Jg)) QlW.nd)
   (QY (QaI (YQ (YO (Q5 (Jw G4 (hr.mono (by decide)) (by rfl) m4 k4 b4 JL (Qch 2 (J5 (Jw G3 (hr.mono (by decide)) (by rfl) m3 k3 b3 JL (Qch 2 (J5 Jt Jg))) Jg)))))) (QY (Zz QgT)) ZE))))
   (QY (ZW (QbE Qck (Qe9 hU) (Q5 (Jw G5 (hr.mono (by decide)) (by rfl) m5 k5 b5 JL (J5 (Jw G6 (hr.mono (by decide)) (by rfl) m6 k6 b6 JL (J5 (J1 (Y7 (YZ Jt (YZ Jt (YZ (J1 (Y7 Je)) Je))))) Jg)) Jg))) (Q5 Jt) (ZA _)))),?_⟩
 intro n0 n63;refine⟨⟨by split<;>split<;>omega,by split<;>split<;>omega⟩,QeJ (λi δ=>∃x1 x2,δ=[.scr,x1,x2]) ⟨_,_,rfl⟩ ?_ ?_⟩
 ·rintro i δ hi ⟨x1,x2,rfl⟩;refine⟨by omega,λc=>⟨c,rfl,λn1=>?_⟩⟩;refine⟨5,rfl,by decide,by decide,λh w f h1 h5 w1 w5=>?_⟩;exact⟨h,w,f,rfl,h1,by omega,w1,by omega,_,_,rfl⟩
 ·rintro δ ⟨x1,x2,rfl⟩;refine⟨2,2,λ_ _=>false,rfl,by decide,by decide,?_⟩;have g:GB 2 2 (cellsF 2 2 (Qk9 λ_ _=>false)):=QyY _ (by decide) (by decide);refine⟨2,2,2,_,rfl,g,⟨by decide,by decide +kernel,λk hk _=>hk⟩,?_⟩;rfl
end
end Rk
def PySem.W.Fast.tw15970652727946714254:Nat:=0
def PySem.W.Fast.tw15998394595713604883:Nat:=0
def PySem.W.Fast.tw12339138770080072959:Nat:=0
def PySem.W.Fast.tw6131706759611653742:Nat:=0
def PySem.W.Fast.tw2509420729177321602:Nat:=0
def PySem.W.Fast.tw11678863616291811114:Nat:=0
def PySem.W.Fast.tw12137410119329357704:Nat:=0
def PySem.W.Fast.tw17609648022228295588:Nat:=0
def PySem.W.Fast.tw8056834645197555305:Nat:=0
def PySem.W.Fast.tw2350917751633774779:Nat:=0
def PySem.W.Fast.tw16239880496553267935:Nat:=0
def PySem.W.Fast.tw11115571792047568656:Nat:=0
def PySem.W.Fast.tw1147982846244939520:Nat:=0
def PySem.W.Fast.tw1742059721430066870:Nat:=0
def PySem.W.Fast.tw14506954448975938398:Nat:=0
def PySem.W.Fast.tw2235416607228674267:Nat:=0
def PySem.W.Fast.tw5824251948837603611:Nat:=0
def PySem.W.Fast.tw10600081581181916043:Nat:=0
def PySem.W.Fast.tw14020267490791534044:Nat:=0
def PySem.W.Fast.tw300172260627053880:Nat:=0
def PySem.W.Fast.tw7051335939573296396:Nat:=0
def PySem.W.Fast.tw17512283575560767998:Nat:=0
def PySem.W.Fast.tw11763535715446496604:Nat:=0
def PySem.W.Fast.tw15728168093216096661:Nat:=0
def PySem.W.Fast.tw16066321574721484693:Nat:=0
def PySem.W.Fast.tw6824998499272477466:Nat:=0
def PySem.W.Fast.tw6382466663432487549:Nat:=0
def PySem.W.Fast.tw11621069006105068624:Nat:=0
def PySem.W.Fast.tw9573228855867048064:Nat:=0
def PySem.W.Fast.tw8155925198624992368:Nat:=0
def PySem.W.Fast.tw16631521739771466365:Nat:=0
def PySem.W.Fast.tw6394583851423193804:Nat:=0
def PySem.W.Fast.tw9329004157524845900:Nat:=0
def PySem.W.Fast.tw13958450435758303210:Nat:=0
def PySem.W.Fast.tw1830223252275914542:Nat:=0
def PySem.W.Fast.tw4991812236400087673:Nat:=0
def PySem.W.Fast.tw18174881006179225168:Nat:=0
def PySem.W.Fast.tw13113064147512555938:Nat:=0
def PySem.W.Fast.tw17216779827133888468:Nat:=0
def PySem.W.Fast.tw13340195623853629975:Nat:=0
def PySem.W.Fast.tw762344118840993323:Nat:=0
def PySem.W.Fast.tw5753807442265602751:Nat:=0
def PySem.W.Fast.tw16505481634870606738:Nat:=0
def PySem.W.Fast.tw7638806070779853962:Nat:=0
def PySem.W.Fast.tw11931639614896215208:Nat:=0
def PySem.W.Fast.tw15810872283095086307:Nat:=0
def PySem.W.Fast.tw9282149681993342166:Nat:=0
def PySem.W.Fast.tw9052009523149190150:Nat:=0
def PySem.W.Fast.tw3414764740498222020:Nat:=0
def PySem.W.Fast.tw5959359866139809482:Nat:=0
def PySem.W.Fast.tw15519382987112568707:Nat:=0
def PySem.W.Fast.tw15491131635126062588:Nat:=0
def PySem.W.Fast.tw3865793048699041127:Nat:=0
def PySem.W.Fast.tw17586320875368174294:Nat:=0
def PySem.W.Fast.tw14784123435333263923:Nat:=0
def PySem.W.Fast.tw1370912070257945592:Nat:=0
def PySem.W.Fast.tw4396866117239030157:Nat:=0
def PySem.W.Fast.tw11201684501954727265:Nat:=0
def PySem.W.Fast.tw10514605724562585064:Nat:=0
def PySem.W.Fast.tw17132627032903730898:Nat:=0
def PySem.W.Fast.tw12867341907845418776:Nat:=0
def PySem.W.Fast.tw3598486291692560746:Nat:=0
def PySem.W.Fast.tw8166765856481469759:Nat:=0
def PySem.W.Fast.tw16933871587387400567:Nat:=0
def PySem.W.Fast.tw266727823956347601:Nat:=0
def PySem.W.Fast.tw481682268566721679:Nat:=0
def PySem.W.Fast.tw17407179991501592877:Nat:=0
def PySem.W.Fast.tw1872291734077357754:Nat:=0
def PySem.W.Fast.tw1946956219122905357:Nat:=0
def PySem.W.Fast.tw13942591161563762775:Nat:=0
def PySem.W.Fast.tw14138157078447879274:Nat:=0
def PySem.W.Fast.tw13216213852795177310:Nat:=0
def PySem.W.Fast.tw3301973550658852948:Nat:=0
def PySem.W.Fast.tw12820964718380620710:Nat:=0
def PySem.W.Fast.tw2412976099811848651:Nat:=0
def PySem.W.Fast.tw18070950274242415827:Nat:=0
def PySem.W.Fast.tw4708913660707880687:Nat:=0
def PySem.W.Fast.tw14494663698955028876:Nat:=0
def PySem.W.Fast.tw4559441784296683152:Nat:=0
def PySem.W.Fast.tw18404407999555671227:Nat:=0
def PySem.W.Fast.tw4771195951279557432:Nat:=0
def PySem.W.Fast.tw9806126491010263047:Nat:=0
def PySem.W.Fast.tw9167893104868764225:Nat:=0
def PySem.W.Fast.tw5174034244936569808:Nat:=0
def PySem.W.Fast.tw13178750316775632912:Nat:=0
def PySem.W.Fast.tw14067830569345267125:Nat:=0
def PySem.W.Fast.tw18391874389904728198:Nat:=0
def PySem.W.Fast.tw6683550291973770458:Nat:=0
def PySem.W.Fast.tw8688805373036589967:Nat:=0
def PySem.W.Fast.tw933770430850696439:Nat:=0
def PySem.W.Fast.tw15020345284554754677:Nat:=0
def PySem.W.Fast.tw14769465830037418622:Nat:=0
def PySem.W.Fast.tw11520902476588897493:Nat:=0
def PySem.W.Fast.tw10456114531492606430:Nat:=0
def PySem.W.Fast.tw3528061265938434471:Nat:=0
def PySem.W.Fast.tw8023837125455216399:Nat:=0
def PySem.W.Fast.tw9756501131835798821:Nat:=0
def PySem.W.Fast.tw12258384075189323551:Nat:=0
def PySem.W.Fast.tw11754693409723443159:Nat:=0
def PySem.W.Fast.tw132968232235049595:Nat:=0
def PySem.W.Fast.tw9484200387106672131:Nat:=0
def PySem.W.Fast.tw5999625339454197780:Nat:=0
def PySem.W.Fast.tw10807553726551046001:Nat:=0
def PySem.W.Fast.tw8314933389188291878:Nat:=0
def PySem.W.Fast.tw15989181258042477958:Nat:=0
def PySem.W.Fast.tw4104101528685294019:Nat:=0
def PySem.W.Fast.tw14111470039819243095:Nat:=0
def PySem.W.Fast.tw2564231305948704885:Nat:=0
def PySem.W.Fast.tw14107259411986825620:Nat:=0
def PySem.W.Fast.tw8269170638260500198:Nat:=0
def PySem.W.Fast.tw10288730716050585663:Nat:=0
def PySem.W.Fast.tw2273165953640494715:Nat:=0
def PySem.W.Fast.tw9585216706703648717:Nat:=0
def PySem.W.Fast.tw8592290439155198787:Nat:=0
def PySem.W.Fast.tw1652427158162949295:Nat:=0
def PySem.W.Fast.tw8560317127886901808:Nat:=0
def PySem.W.Fast.tw14516138612067444509:Nat:=0
def PySem.W.Fast.tw10836479410376995313:Nat:=0
def PySem.W.Fast.tw618030499950377069:Nat:=0
def PySem.W.Fast.tw17653313188703628953:Nat:=0
def PySem.W.Fast.tw14885391606367463207:Nat:=0
def PySem.W.Fast.tw7356198196718056656:Nat:=0
def PySem.W.Fast.tw13924910322196943248:Nat:=0
def PySem.W.Fast.tw16581078101613811687:Nat:=0
def PySem.W.Fast.tw17598317073835756963:Nat:=0
def PySem.W.Fast.tw9128103246316908213:Nat:=0
def PySem.W.Fast.tw10050635829311914066:Nat:=0
def PySem.W.Fast.tw3676710556793129443:Nat:=0
def PySem.W.Fast.tw1941958432053576546:Nat:=0
def PySem.W.Fast.tw13827373558356276602:Nat:=0
def PySem.W.Fast.tw16195043983383179559:Nat:=0
def PySem.W.Fast.tw15839650877349608654:Nat:=0
def PySem.W.Fast.tw12869731248235330590:Nat:=0
def PySem.W.Fast.tw17389988146383625792:Nat:=0
def PySem.W.Fast.tw14992516963943627466:Nat:=0
def PySem.W.Fast.tw15930980496145391146:Nat:=0
def PySem.W.Fast.tw4984736763822097038:Nat:=0
def PySem.W.Fast.tw2843254176402351815:Nat:=0
def PySem.W.Fast.tw4805062863271636356:Nat:=0
def PySem.W.Fast.tw16040045019319189245:Nat:=0
def PySem.W.Fast.tw13631035735206146430:Nat:=0
def PySem.W.Fast.tw1757559866223300943:Nat:=0
def PySem.W.Fast.tw920585036226121310:Nat:=0
def PySem.W.Fast.tw6419387335560372915:Nat:=0
def PySem.W.Fast.tw10573980204025355614:Nat:=0
def PySem.W.Fast.tw3192237937543098648:Nat:=0
def PySem.W.Fast.tw4306076918176165407:Nat:=0
def PySem.W.Fast.tw7945929756132287466:Nat:=0
def PySem.W.Fast.tw10287050115265997653:Nat:=0
def PySem.W.Fast.tw8386431117685464853:Nat:=0
def PySem.W.Fast.tw17578814143117765507:Nat:=0
def PySem.W.Fast.tw2557792400069314662:Nat:=0
def PySem.W.Fast.tw7939129179246299256:Nat:=0
def PySem.W.Fast.tw5581660830136584583:Nat:=0
def PySem.W.Fast.tw16556026653942654068:Nat:=0
def PySem.W.Fast.tw2331380889075896629:Nat:=0
def PySem.W.Fast.tw6939480415609360812:Nat:=0
def PySem.W.Fast.tw10009660232596199736:Nat:=0
def PySem.W.Fast.tw534140098845687918:Nat:=0
def PySem.W.Fast.tw17448468324821783007:Nat:=0
def PySem.W.Fast.tw16053816360080016160:Nat:=0
def PySem.W.Fast.tw17465854122557165731:Nat:=0
def PySem.W.Fast.tw14979181057142375895:Nat:=0
def PySem.W.Fast.tw16948583860737865679:Nat:=0
def PySem.W.Fast.tw8394415192100967553:Nat:=0
def PySem.W.Fast.tw11282505987106072740:Nat:=0
def PySem.W.Fast.tw1977238953952796794:Nat:=0
def PySem.W.Fast.tw8356399152604437817:Nat:=0
def PySem.W.Fast.tw15116969681627238201:Nat:=0
def PySem.W.Fast.tw1619888217638499838:Nat:=0
def PySem.W.Fast.tw13123463164734785254:Nat:=0
def PySem.W.Fast.tw8609528084966167475:Nat:=0
def PySem.W.Fast.tw11796329720347059938:Nat:=0
def PySem.W.Fast.tw4772445684364233641:Nat:=0
def PySem.W.Fast.tw3389639911908608155:Nat:=0
def PySem.W.Fast.tw15296063248190763621:Nat:=0
def PySem.W.Fast.tw2916863930544625194:Nat:=0
def PySem.W.Fast.tw5107264311507615432:Nat:=0
def PySem.W.Fast.tw1307781404773537642:Nat:=0
def PySem.W.Fast.tw7507882496754872707:Nat:=0
def PySem.W.Fast.tw11924623228945561691:Nat:=0
def PySem.W.Fast.tw10845760543664949596:Nat:=0
def PySem.W.Fast.tw18222853005083187161:Nat:=0
def PySem.W.Fast.tw11789174036908360556:Nat:=0
def PySem.W.Fast.tw17305395982422229127:Nat:=0
def PySem.W.Fast.tw15959221327003270945:Nat:=0
def PySem.W.Fast.tw2825338898896240492:Nat:=0
def PySem.W.Fast.tw6368551823127103894:Nat:=0
def PySem.W.Fast.tw8879342690546978717:Nat:=0
def PySem.W.Fast.tw16436359518034443972:Nat:=0
def PySem.W.Fast.tw8105371718602694041:Nat:=0
def PySem.W.Fast.tw11269702384458005092:Nat:=0
def PySem.W.Fast.tw1630047858215618365:Nat:=0
def PySem.W.Fast.tw7369630474721297758:Nat:=0
def PySem.W.Fast.tw8547474069245016651:Nat:=0
def PySem.W.Fast.tw6874222846279001704:Nat:=0
def PySem.W.Fast.tw1534229765988327906:Nat:=0
def PySem.W.Fast.tw8618675971805350339:Nat:=0
def PySem.W.Fast.tw5211487928191036128:Nat:=0
namespace Rk
open L2
theorem Qyz{l:PySem.W.OpenLaw}{w:Jk}{K:PySem.W.Frag}{h:Heap}{mg:Str->Option Value}{fa f1 f2 f3 f4 f5 f6 f7 f8 f9 f10 f11 f12 f13 f14 f15 f16 f17 f18 f19 f20 f21 f22 f23 f24 f25 f26 f27 f28 f29 f30 f31 f32 f33 f34 f35 f36 f37 f38 f39 f40 f41 f42 f43 f44:Addr}(X:K.In h)(G:h.Ns mainGlobals mg)(hfa:mg "law" = some (.ref fa))
  {od1 an1 od2 an2 od3 an3 od4 an4 od5 an5 od6 an6 od7 an7 od8 an8 od9 an9 od10 an10 od11 an11 od12 an12 od13 an13 od14 an14 od15 an15 od16 an16 od17 an17 od18 an18 od19 an19 od20 an20 od21 an21 od22 an22 od23 an23 od24 an24 od25 an25 od26 an26 od27 an27 od28 an28 od29 an29 od30 an30 od31 an31 od32 an32 od33 an33 od34 an34 od35 an35 od36 an36 od37 an37 od38 an38 od39 an39 od40 an40 od41 an41 od42 an42 od43 an43 od44 an44:Option Addr} {sl1 sl2 sl3 sl4 sl5 sl6 sl7 sl8 sl9 sl10 sl11 sl12 sl13 sl14 sl15 sl16 sl17 sl18 sl19 sl20 sl21 sl22 sl23 sl24 sl25 sl26 sl27 sl28 sl29 sl30 sl31 sl32 sl33 sl34 sl35 sl36 sl37 sl38 sl39 sl40 sl41 sl42 sl43 sl44:Array (Option Value)} {oc1 kV1 dc1 pm1 cd1 ct1 oc2 kV2 dc2 pm2 cd2 ct2 oc3 kV3 dc3 pm3 cd3 ct3 oc4 kV4 dc4 pm4 cd4 ct4 oc5 kV5 dc5 pm5 cd5 ct5 oc6 kV6 dc6 pm6 cd6 ct6 oc7 kV7 dc7 pm7 cd7 ct7 oc8 kV8 dc8 pm8 cd8 ct8 oc9 kV9 dc9 pm9 cd9 ct9 oc10 kV10 dc10 pm10 cd10 ct10 oc11 kV11 dc11 pm11 cd11 ct11 oc12 kV12 dc12 pm12 cd12 ct12 oc13 kV13 dc13 pm13 cd13 ct13 oc14 kV14 dc14 pm14 cd14 ct14 oc15 kV15 dc15 pm15 cd15 ct15 oc16 kV16 dc16 pm16 cd16 ct16 oc17 kV17 dc17 pm17 cd17 ct17 oc18 kV18 dc18 pm18 cd18 ct18 oc19 kV19 dc19 pm19 cd19 ct19 oc20 kV20 dc20 pm20 cd20 ct20 oc21 kV21 dc21 pm21 cd21 ct21 oc22 kV22 dc22 pm22 cd22 ct22 oc23 kV23 dc23 pm23 cd23 ct23 oc24 kV24 dc24 pm24 cd24 ct24 oc25 kV25 dc25 pm25 cd25 ct25 oc26 kV26 dc26 pm26 cd26 ct26 oc27 kV27 dc27 pm27 cd27 ct27 oc28 kV28 dc28 pm28 cd28 ct28 oc29 kV29 dc29 pm29 cd29 ct29 oc30 kV30 dc30 pm30 cd30 ct30 oc31 kV31 dc31 pm31 cd31 ct31 oc32 kV32 dc32 pm32 cd32 ct32 oc33 kV33 dc33 pm33 cd33 ct33 oc34 kV34 dc34 pm34 cd34 ct34 oc35 kV35 dc35 pm35 cd35 ct35 oc36 kV36 dc36 pm36 cd36 ct36 oc37 kV37 dc37 pm37 cd37 ct37 oc38 kV38 dc38 pm38 cd38 ct38 oc39 kV39 dc39 pm39 cd39 ct39 oc40 kV40 dc40 pm40 cd40 ct40 oc41 kV41 dc41 pm41 cd41 ct41 oc42 kV42 dc42 pm42 cd42 ct42 oc43 kV43 dc43 pm43 cd43 ct43 oc44 kV44 dc44 pm44 cd44 ct44:Value}
  (a1:PySem.W.nsIn K mainGlobals "is_whole" = some (some (.ref f1))) (l1:K.lookup f1=some ⟨oc1,od1,.func (PySem.W.fnOf "is_whole" "is_whole" (Jp Qfi) (Jl Qfi) (Qq Qfi) .none kV1 dc1 pm1 an1 cd1 ct1),sl1⟩) (c1:PySem.W.codeIn K cd1 "is_whole" = true) (k1:PySem.W.keepIn K (.ref f1)=true)
  (a2:PySem.W.nsIn K mainGlobals "is_whole_within" = some (some (.ref f2)))(l2:K.lookup f2=some ⟨oc2,od2,.func (PySem.W.fnOf "is_whole_within" "is_whole_within" (Jp Qdk) (Jl Qdk) (Qq Qdk) .none kV2 dc2 pm2 an2 cd2 ct2),sl2⟩)(c2:PySem.W.codeIn K cd2 "is_whole_within" = true)(k2:PySem.W.keepIn K (.ref f2)=true)
  (a3:PySem.W.nsIn K mainGlobals "is_rising" = some (some (.ref f3)))(l3:K.lookup f3=some ⟨oc3,od3,.func (PySem.W.fnOf "is_rising" "is_rising" (Jp Qdl) (Jl Qdl) (Qq Qdl) .none kV3 dc3 pm3 an3 cd3 ct3),sl3⟩)(c3:PySem.W.codeIn K cd3 "is_rising" = true)(k3:PySem.W.keepIn K (.ref f3)=true)
  (a4:PySem.W.nsIn K mainGlobals "is_cells" = some (some (.ref f4)))(l4:K.lookup f4=some ⟨oc4,od4,.func (PySem.W.fnOf "is_cells" "is_cells" (Jp Qfq) (Jl Qfq) (Qq Qfq) .none kV4 dc4 pm4 an4 cd4 ct4),sl4⟩)(c4:PySem.W.codeIn K cd4 "is_cells" = true)(k4:PySem.W.keepIn K (.ref f4)=true)
  (a5:PySem.W.nsIn K mainGlobals "is_place" = some (some (.ref f5)))(l5:K.lookup f5=some ⟨oc5,od5,.func (PySem.W.fnOf "is_place" "is_place" (Jp Qfm) (Jl Qfm) (Qq Qfm) .none kV5 dc5 pm5 an5 cd5 ct5),sl5⟩)(c5:PySem.W.codeIn K cd5 "is_place" = true)(k5:PySem.W.keepIn K (.ref f5)=true)
  (a6:PySem.W.nsIn K mainGlobals "turned" = some (some (.ref f6)))(l6:K.lookup f6=some ⟨oc6,od6,.func (PySem.W.fnOf "turned" "turned" (Jp Qkj) (Jl Qkj) (Qq Qkj) .none kV6 dc6 pm6 an6 cd6 ct6),sl6⟩)(c6:PySem.W.codeIn K cd6 "turned" = true)(k6:PySem.W.keepIn K (.ref f6)=true)
  (a7:PySem.W.nsIn K mainGlobals "rest" = some (some (.ref f7)))(l7:K.lookup f7=some ⟨oc7,od7,.func (PySem.W.fnOf "rest" "rest" (Jp Qfk) (Jl Qfk) (Qq Qfk) .none kV7 dc7 pm7 an7 cd7 ct7),sl7⟩)(c7:PySem.W.codeIn K cd7 "rest" = true)(k7:PySem.W.keepIn K (.ref f7)=true)
  (a8:PySem.W.nsIn K mainGlobals "is_order" = some (some (.ref f8)))(l8:K.lookup f8=some ⟨oc8,od8,.func (PySem.W.fnOf "is_order" "is_order" (Jp sIsO) (Jl sIsO) (Qq sIsO) .none kV8 dc8 pm8 an8 cd8 ct8),sl8⟩)(c8:PySem.W.codeIn K cd8 "is_order" = true)(k8:PySem.W.keepIn K (.ref f8)=true)
  (a9:PySem.W.nsIn K mainGlobals "led" = some (some (.ref f9)))(l9:K.lookup f9=some ⟨oc9,od9,.func (PySem.W.fnOf "led" "led" (Jp sLed) (Jl sLed) (Qq sLed) .none kV9 dc9 pm9 an9 cd9 ct9),sl9⟩)(c9:PySem.W.codeIn K cd9 "led" = true)(k9:PySem.W.keepIn K (.ref f9)=true)
  (a10:PySem.W.nsIn K mainGlobals "picked" = some (some (.ref f10)))(l10:K.lookup f10=some ⟨oc10,od10,.func (PySem.W.fnOf "picked" "picked" (Jp Qdm) (Jl Qdm) (Qq Qdm) .none kV10 dc10 pm10 an10 cd10 ct10),sl10⟩)(c10:PySem.W.codeIn K cd10 "picked" = true)(k10:PySem.W.keepIn K (.ref f10)=true)
  (a11:PySem.W.nsIn K mainGlobals "is_lines" = some (some (.ref f11)))(l11:K.lookup f11=some ⟨oc11,od11,.func (PySem.W.fnOf "is_lines" "is_lines" (Jp Qfn) (Jl Qfn) (Qq Qfn) .none kV11 dc11 pm11 an11 cd11 ct11),sl11⟩)(c11:PySem.W.codeIn K cd11 "is_lines" = true)(k11:PySem.W.keepIn K (.ref f11)=true)
  (a12:PySem.W.nsIn K mainGlobals "is_numbers_rising" = some (some (.ref f12)))(l12:K.lookup f12=some ⟨oc12,od12,.func (PySem.W.fnOf "is_numbers_rising" "is_numbers_rising" (Jp Qko) (Jl Qko) (Qq Qko) .none kV12 dc12 pm12 an12 cd12 ct12),sl12⟩)(c12:PySem.W.codeIn K cd12 "is_numbers_rising" = true)(k12:PySem.W.keepIn K (.ref f12)=true)
  (a13:PySem.W.nsIn K mainGlobals "without" = some (some (.ref f13)))(l13:K.lookup f13=some ⟨oc13,od13,.func (PySem.W.fnOf "without" "without" (Jp sWo) (Jl sWo) (Qq sWo) .none kV13 dc13 pm13 an13 cd13 ct13),sl13⟩)(c13:PySem.W.codeIn K cd13 "without" = true)(k13:PySem.W.keepIn K (.ref f13)=true)
  (a14:PySem.W.nsIn K mainGlobals "refuse_no_cell" = some (some (.ref f14)))(l14:K.lookup f14=some ⟨oc14,od14,.func (PySem.W.fnOf "refuse_no_cell" "refuse_no_cell" (Jp Qkn) (Jl Qkn) (Qq Qkn) .none kV14 dc14 pm14 an14 cd14 ct14),sl14⟩)(c14:PySem.W.codeIn K cd14 "refuse_no_cell" = true)(k14:PySem.W.keepIn K (.ref f14)=true)
  (a15:PySem.W.nsIn K mainGlobals "is_stand" = some (some (.ref f15)))(l15:K.lookup f15=some ⟨oc15,od15,.func (PySem.W.fnOf "is_stand" "is_stand" (Jp Qfj) (Jl Qfj) (Qq Qfj) .none kV15 dc15 pm15 an15 cd15 ct15),sl15⟩)(c15:PySem.W.codeIn K cd15 "is_stand" = true)(k15:PySem.W.keepIn K (.ref f15)=true)
  (a16:PySem.W.nsIn K mainGlobals "are_apart" = some (some (.ref f16)))(l16:K.lookup f16=some ⟨oc16,od16,.func (PySem.W.fnOf "are_apart" "are_apart" (Jp Qfr) (Jl Qfr) (Qq Qfr) .none kV16 dc16 pm16 an16 cd16 ct16),sl16⟩)(c16:PySem.W.codeIn K cd16 "are_apart" = true)(k16:PySem.W.keepIn K (.ref f16)=true)
  (a17:PySem.W.nsIn K mainGlobals "counts" = some (some (.ref f17)))(l17:K.lookup f17=some ⟨oc17,od17,.func (PySem.W.fnOf "counts" "counts" (Jp Qdn) (Jl Qdn) (Qq Qdn) .none kV17 dc17 pm17 an17 cd17 ct17),sl17⟩)(c17:PySem.W.codeIn K cd17 "counts" = true)(k17:PySem.W.keepIn K (.ref f17)=true)
  (a18:PySem.W.nsIn K mainGlobals "most_size" = some (some (.ref f18)))(l18:K.lookup f18=some ⟨oc18,od18,.func (PySem.W.fnOf "most_size" "most_size" (Jp Qkp) (Jl Qkp) (Qq Qkp) .none kV18 dc18 pm18 an18 cd18 ct18),sl18⟩)(c18:PySem.W.codeIn K cd18 "most_size" = true)(k18:PySem.W.keepIn K (.ref f18)=true)
  (a19:PySem.W.nsIn K mainGlobals "stand_at" = some (some (.ref f19)))(l19:K.lookup f19=some ⟨oc19,od19,.func (PySem.W.fnOf "stand_at" "stand_at" (Jp QbU) (Jl QbU) (Qq QbU) .none kV19 dc19 pm19 an19 cd19 ct19),sl19⟩)(c19:PySem.W.codeIn K cd19 "stand_at" = true)(k19:PySem.W.keepIn K (.ref f19)=true)
  (a20:PySem.W.nsIn K mainGlobals "refuse_no_size" = some (some (.ref f20)))(l20:K.lookup f20=some ⟨oc20,od20,.func (PySem.W.fnOf "refuse_no_size" "refuse_no_size" (Jp Qfl) (Jl Qfl) (Qq Qfl) .none kV20 dc20 pm20 an20 cd20 ct20),sl20⟩)(c20:PySem.W.codeIn K cd20 "refuse_no_size" = true)(k20:PySem.W.keepIn K (.ref f20)=true)
  (a21:PySem.W.nsIn K mainGlobals "followers" = some (some (.ref f21)))(l21:K.lookup f21=some ⟨oc21,od21,.func (PySem.W.fnOf "followers" "followers" (Jp sFol) (Jl sFol) (Qq sFol) .none kV21 dc21 pm21 an21 cd21 ct21),sl21⟩)(c21:PySem.W.codeIn K cd21 "followers" = true)(k21:PySem.W.keepIn K (.ref f21)=true)
  (a22:PySem.W.nsIn K mainGlobals "row_behind" = some (some (.ref f22)))(l22:K.lookup f22=some ⟨oc22,od22,.func (PySem.W.fnOf "row_behind" "row_behind" (Jp Qkm) (Jl Qkm) (Qq Qkm) .none kV22 dc22 pm22 an22 cd22 ct22),sl22⟩)(c22:PySem.W.codeIn K cd22 "row_behind" = true)(k22:PySem.W.keepIn K (.ref f22)=true)
  (a23:PySem.W.nsIn K mainGlobals "cell_at" = some (some (.ref f23)))(l23:K.lookup f23=some ⟨oc23,od23,.func (PySem.W.fnOf "cell_at" "cell_at" (Jp Qdo) (Jl Qdo) (Qq Qdo) .none kV23 dc23 pm23 an23 cd23 ct23),sl23⟩)(c23:PySem.W.codeIn K cd23 "cell_at" = true)(k23:PySem.W.keepIn K (.ref f23)=true)
  (a24:PySem.W.nsIn K mainGlobals "ways_behind" = some (some (.ref f24)))(l24:K.lookup f24=some ⟨oc24,od24,.func (PySem.W.fnOf "ways_behind" "ways_behind" (Jp Qki) (Jl Qki) (Qq Qki) .none kV24 dc24 pm24 an24 cd24 ct24),sl24⟩)(c24:PySem.W.codeIn K cd24 "ways_behind" = true)(k24:PySem.W.keepIn K (.ref f24)=true)
  (a25:PySem.W.nsIn K mainGlobals "ways_to_go_on" = some (some (.ref f25)))(l25:K.lookup f25=some ⟨oc25,od25,.func (PySem.W.fnOf "ways_to_go_on" "ways_to_go_on" (Jp Qkh) (Jl Qkh) (Qq Qkh) .none kV25 dc25 pm25 an25 cd25 ct25),sl25⟩)(c25:PySem.W.codeIn K cd25 "ways_to_go_on" = true)(k25:PySem.W.keepIn K (.ref f25)=true)
  (a26:PySem.W.nsIn K mainGlobals "ways_with_row" = some (some (.ref f26)))(l26:K.lookup f26=some ⟨oc26,od26,.func (PySem.W.fnOf "ways_with_row" "ways_with_row" (Jp sRow) (Jl sRow) (Qq sRow) .none kV26 dc26 pm26 an26 cd26 ct26),sl26⟩)(c26:PySem.W.codeIn K cd26 "ways_with_row" = true)(k26:PySem.W.keepIn K (.ref f26)=true)
  (a27:PySem.W.nsIn K mainGlobals "holds" = some (some (.ref f27)))(l27:K.lookup f27=some ⟨oc27,od27,.func (PySem.W.fnOf "holds" "holds" (Jp Qfo) (Jl Qfo) (Qq Qfo) .none kV27 dc27 pm27 an27 cd27 ct27),sl27⟩)(c27:PySem.W.codeIn K cd27 "holds" = true)(k27:PySem.W.keepIn K (.ref f27)=true)
  (a28:PySem.W.nsIn K mainGlobals "is_showing" = some (some (.ref f28)))(l28:K.lookup f28=some ⟨oc28,od28,.func (PySem.W.fnOf "is_showing" "is_showing" (Jp Qkr) (Jl Qkr) (Qq Qkr) .none kV28 dc28 pm28 an28 cd28 ct28),sl28⟩)(c28:PySem.W.codeIn K cd28 "is_showing" = true)(k28:PySem.W.keepIn K (.ref f28)=true)
  (a29:PySem.W.nsIn K mainGlobals "how_many_lines" = some (some (.ref f29)))(l29:K.lookup f29=some ⟨oc29,od29,.func (PySem.W.fnOf "how_many_lines" "how_many_lines" (Jp sHow) (Jl sHow) (Qq sHow) .none kV29 dc29 pm29 an29 cd29 ct29),sl29⟩)(c29:PySem.W.codeIn K cd29 "how_many_lines" = true)(k29:PySem.W.keepIn K (.ref f29)=true)
  (a30:PySem.W.nsIn K mainGlobals "showing" = some (some (.ref f30)))(l30:K.lookup f30=some ⟨oc30,od30,.func (PySem.W.fnOf "showing" "showing" (Jp Qkl) (Jl Qkl) (Qq Qkl) .none kV30 dc30 pm30 an30 cd30 ct30),sl30⟩)(c30:PySem.W.codeIn K cd30 "showing" = true)(k30:PySem.W.keepIn K (.ref f30)=true)
  (a31:PySem.W.nsIn K mainGlobals "greatest_size" = some (some (.ref f31)))(l31:K.lookup f31=some ⟨oc31,od31,.func (PySem.W.fnOf "greatest_size" "greatest_size" (Jp Qfp) (Jl Qfp) (Qq Qfp) .none kV31 dc31 pm31 an31 cd31 ct31),sl31⟩)(c31:PySem.W.codeIn K cd31 "greatest_size" = true)(k31:PySem.W.keepIn K (.ref f31)=true)
  (a32:PySem.W.nsIn K mainGlobals "fewest_lines" = some (some (.ref f32)))(l32:K.lookup f32=some ⟨oc32,od32,.func (PySem.W.fnOf "fewest_lines" "fewest_lines" (Jp sFew) (Jl sFew) (Qq sFew) .none kV32 dc32 pm32 an32 cd32 ct32),sl32⟩)(c32:PySem.W.codeIn K cd32 "fewest_lines" = true)(k32:PySem.W.keepIn K (.ref f32)=true)
  (a33:PySem.W.nsIn K mainGlobals "lots_of_rows" = some (some (.ref f33)))(l33:K.lookup f33=some ⟨oc33,od33,.func (PySem.W.fnOf "lots_of_rows" "lots_of_rows" (Jp Qkq) (Jl Qkq) (Qq Qkq) .none kV33 dc33 pm33 an33 cd33 ct33),sl33⟩)(c33:PySem.W.codeIn K cd33 "lots_of_rows" = true)(k33:PySem.W.keepIn K (.ref f33)=true)
  (a34:PySem.W.nsIn K mainGlobals "lines_with" = some (some (.ref f34)))(l34:K.lookup f34=some ⟨oc34,od34,.func (PySem.W.fnOf "lines_with" "lines_with" (Jp sLW) (Jl sLW) (Qq sLW) .none kV34 dc34 pm34 an34 cd34 ct34),sl34⟩)(c34:PySem.W.codeIn K cd34 "lines_with" = true)(k34:PySem.W.keepIn K (.ref f34)=true)
  (a35:PySem.W.nsIn K mainGlobals "sure" = some (some (.ref f35)))(l35:K.lookup f35=some ⟨oc35,od35,.func (PySem.W.fnOf "sure" "sure" (Jp Qkk) (Jl Qkk) (Qq Qkk) .none kV35 dc35 pm35 an35 cd35 ct35),sl35⟩)(c35:PySem.W.codeIn K cd35 "sure" = true)(k35:PySem.W.keepIn K (.ref f35)=true)
  (a36:PySem.W.nsIn K mainGlobals "_law_cell_at" = some (some (.ref f36)))(l36:K.lookup f36=some ⟨oc36,od36,.func (PySem.W.fnOf "_law_cell_at" "_law_cell_at" (Jp Qdu) (Jl Qdu) (Qq Qdu) .none kV36 dc36 pm36 an36 cd36 ct36),sl36⟩)(c36:PySem.W.codeIn K cd36 "_law_cell_at" = true)(k36:PySem.W.keepIn K (.ref f36)=true)
  (a37:PySem.W.nsIn K mainGlobals "_law_pot" = some (some (.ref f37)))(l37:K.lookup f37=some ⟨oc37,od37,.func (PySem.W.fnOf "_law_pot" "_law_pot" (Jp lPot) (Jl lPot) (Qq lPot) .none kV37 dc37 pm37 an37 cd37 ct37),sl37⟩)(c37:PySem.W.codeIn K cd37 "_law_pot" = true)(k37:PySem.W.keepIn K (.ref f37)=true)
  (a38:PySem.W.nsIn K mainGlobals "_law_take" = some (some (.ref f38)))(l38:K.lookup f38=some ⟨oc38,od38,.func (PySem.W.fnOf "_law_take" "_law_take" (Jp QkB) (Jl QkB) (Qq QkB) .none kV38 dc38 pm38 an38 cd38 ct38),sl38⟩)(c38:PySem.W.codeIn K cd38 "_law_take" = true)(k38:PySem.W.keepIn K (.ref f38)=true)
  (a39:PySem.W.nsIn K mainGlobals "_law_board" = some (some (.ref f39)))(l39:K.lookup f39=some ⟨oc39,od39,.func (PySem.W.fnOf "_law_board" "_law_board" (Jp QfA) (Jl QfA) (Qq QfA) .none kV39 dc39 pm39 an39 cd39 ct39),sl39⟩)(c39:PySem.W.codeIn K cd39 "_law_board" = true)(k39:PySem.W.keepIn K (.ref f39)=true)
  (a40:PySem.W.nsIn K mainGlobals "_law_order" = some (some (.ref f40)))(l40:K.lookup f40=some ⟨oc40,od40,.func (PySem.W.fnOf "_law_order" "_law_order" (Jp Qfz) (Jl Qfz) (Qq Qfz) .none kV40 dc40 pm40 an40 cd40 ct40),sl40⟩)(c40:PySem.W.codeIn K cd40 "_law_order" = true)(k40:PySem.W.keepIn K (.ref f40)=true)
  (a41:PySem.W.nsIn K mainGlobals "_law_about" = some (some (.ref f41)))(l41:K.lookup f41=some ⟨oc41,od41,.func (PySem.W.fnOf "_law_about" "_law_about" (Jp QfB) (Jl QfB) (Qq QfB) .none kV41 dc41 pm41 an41 cd41 ct41),sl41⟩)(c41:PySem.W.codeIn K cd41 "_law_about" = true)(k41:PySem.W.keepIn K (.ref f41)=true)
  (a42:PySem.W.nsIn K mainGlobals "_law_most" = some (some (.ref f42)))(l42:K.lookup f42=some ⟨oc42,od42,.func (PySem.W.fnOf "_law_most" "_law_most" (Jp QkC) (Jl QkC) (Qq QkC) .none kV42 dc42 pm42 an42 cd42 ct42),sl42⟩)(c42:PySem.W.codeIn K cd42 "_law_most" = true)(k42:PySem.W.keepIn K (.ref f42)=true)
  (a43:PySem.W.nsIn K mainGlobals "_law_right" = some (some (.ref f43)))(l43:K.lookup f43=some ⟨oc43,od43,.func (PySem.W.fnOf "_law_right" "_law_right" (Jp Qfy) (Jl Qfy) (Qq Qfy) .none kV43 dc43 pm43 an43 cd43 ct43),sl43⟩)(c43:PySem.W.codeIn K cd43 "_law_right" = true)(k43:PySem.W.keepIn K (.ref f43)=true)
  (a44:PySem.W.nsIn K mainGlobals "law" = some (some (.ref f44)))(l44:K.lookup f44=some ⟨oc44,od44,.func (PySem.W.fnOf "law" "law" (Jp sLaw) (Jl sLaw) (Qq sLaw) .none kV44 dc44 pm44 an44 cd44 ct44),sl44⟩)(c44:PySem.W.codeIn K cd44 "law" = true)(k44:PySem.W.keepIn K (.ref f44)=true)
  (z1:PySem.W.nsIn K mainGlobals "isinstance" = some none)
  (z2:PySem.W.nsIn K mainGlobals "int" = some none)
  (z3:PySem.W.nsIn K mainGlobals "bool" = some none)
  (z4:PySem.W.nsIn K mainGlobals "str" = some none)
  (z5:PySem.W.nsIn K mainGlobals "tuple" = some none)
  (z6:PySem.W.nsIn K mainGlobals "list" = some none)
  (z7:PySem.W.nsIn K mainGlobals "all" = some none)
  (z8:PySem.W.nsIn K mainGlobals "len" = some none)
  (z9:PySem.W.nsIn K mainGlobals "zip" = some none)
  (z10:PySem.W.nsIn K mainGlobals "enumerate" = some none)
  (z11:PySem.W.nsIn K mainGlobals "range" = some none)
  (z12:PySem.W.nsIn K mainGlobals "max" = some none)
  (z13:PySem.W.nsIn K mainGlobals "min" = some none)
  (z14:PySem.W.nsIn K mainGlobals "sorted" = some none)
  (z15:PySem.W.nsIn K mainGlobals "sum" = some none)
  (z16:PySem.W.nsIn K mainGlobals "set" = some none)
  (z17:PySem.W.nsIn K mainGlobals "any" = some none)
  (z18:PySem.W.nsIn K mainGlobals "reversed" = some none)
  (z19:PySem.W.nsIn K mainGlobals "divmod" = some none)
  :
  ∃fd:QM,(∀(s:Shared)(v:Value),Qox s fd ⟨[v],[]⟩ [("_law_script",v)])/\∀base:Heap,K.In base->base.Ns mainGlobals mg->FnOk l.prog w K mg base CX0 8 fa fd ["_law_script"] (Dl.Qff K):=by
 have e:=hfa.symm.trans (PySem.W.mg_of X G a44);cases e;have T:=(⟨(PySem.W.mg_none_of X G z1),(PySem.W.mg_none_of X G z2),(PySem.W.mg_none_of X G z3),(PySem.W.mg_none_of X G z4),(PySem.W.mg_none_of X G z5),(PySem.W.mg_none_of X G z6),(PySem.W.mg_none_of X G z7),(PySem.W.mg_none_of X G z8),(PySem.W.mg_none_of X G z9),(PySem.W.mg_none_of X G z10),(PySem.W.mg_none_of X G z11),(PySem.W.mg_none_of X G z12),(PySem.W.mg_none_of X G z13),(PySem.W.mg_none_of X G z14),(PySem.W.mg_none_of X G z15),(PySem.W.mg_none_of X G z16),(PySem.W.mg_none_of X G z17),(PySem.W.mg_none_of X G z18),(PySem.W.mg_none_of X G z19)⟩:GlbA mg);have F1:=JY (st:=Qfi) l1 c1 k1;have b1:=F1.binds (ps:=["thing"]) λ_ _ _ _ _ _ us hl=>match us,hl with | [_],_=>rfl
 have m1:=PySem.W.mg_of X G a1;have F2:=JY (st:=Qdk) l2 c2 k2;have b2:=F2.binds (ps:=["thing", "least", "most"]) λ_ _ _ _ _ _ us hl=>match us,hl with | [_,_,_],_=>rfl
 have m2:=PySem.W.mg_of X G a2;have F3:=JY (st:=Qdl) l3 c3 k3;have b3:=F3.binds (ps:=["things"]) λ_ _ _ _ _ _ us hl=>match us,hl with | [_],_=>rfl
 have m3:=PySem.W.mg_of X G a3;have F4:=JY (st:=Qfq) l4 c4 k4;have b4:=F4.binds (ps:=["high", "wide", "thing"]) λ_ _ _ _ _ _ us hl=>match us,hl with | [_,_,_],_=>rfl
 have m4:=PySem.W.mg_of X G a4;have F5:=JY (st:=Qfm) l5 c5 k5;have b5:=F5.binds (ps:=["high", "wide", "thing"]) λ_ _ _ _ _ _ us hl=>match us,hl with | [_,_,_],_=>rfl
 have m5:=PySem.W.mg_of X G a5;have F6:=JY (st:=Qkj) l6 c6 k6;have b6:=F6.binds (ps:=["board"]) λ_ _ _ _ _ _ us hl=>match us,hl with | [_],_=>rfl
 have m6:=PySem.W.mg_of X G a6;have F7:=JY (st:=Qfk) l7 c7 k7;have b7:=F7.binds (ps:=["board"]) λ_ _ _ _ _ _ us hl=>match us,hl with | [_],_=>rfl
 have m7:=PySem.W.mg_of X G a7;have F8:=JY (st:=sIsO) l8 c8 k8;have b8:=F8.binds (ps:=["many", "thing"]) λ_ _ _ _ _ _ us hl=>match us,hl with | [_,_],_=>rfl
 have m8:=PySem.W.mg_of X G a8;have F9:=JY (st:=sLed) l9 c9 k9;have b9:=F9.binds (ps:=["board", "rows", "columns"]) λ_ _ _ _ _ _ us hl=>match us,hl with | [_,_,_],_=>rfl
 have m9:=PySem.W.mg_of X G a9;have F10:=JY (st:=Qdm) l10 c10 k10;have b10:=F10.binds (ps:=["board", "rows", "columns"]) λ_ _ _ _ _ _ us hl=>match us,hl with | [_,_,_],_=>rfl
 have m10:=PySem.W.mg_of X G a10;have F11:=JY (st:=Qfn) l11 c11 k11;have b11:=F11.binds (ps:=["board", "thing"]) λ_ _ _ _ _ _ us hl=>match us,hl with | [_,_],_=>rfl
 have m11:=PySem.W.mg_of X G a11;have F12:=JY (st:=Qko) l12 c12 k12;have b12:=F12.binds (ps:=["many", "thing"]) λ_ _ _ _ _ _ us hl=>match us,hl with | [_,_],_=>rfl
 have m12:=PySem.W.mg_of X G a12;have F13:=JY (st:=sWo) l13 c13 k13;have b13:=F13.binds (ps:=["board", "cell"]) λ_ _ _ _ _ _ us hl=>match us,hl with | [_,_],_=>rfl
 have m13:=PySem.W.mg_of X G a13;have F14:=JY (st:=Qkn) l14 c14 k14;have b14:=F14.binds (ps:=["board", "cell"]) λ_ _ _ _ _ _ us hl=>match us,hl with | [_,_],_=>rfl
 have m14:=PySem.W.mg_of X G a14;have F15:=JY (st:=Qfj) l15 c15 k15;have b15:=F15.binds (ps:=["board", "thing"]) λ_ _ _ _ _ _ us hl=>match us,hl with | [_,_],_=>rfl
 have m15:=PySem.W.mg_of X G a15;have F16:=JY (st:=Qfr) l16 c16 k16;have b16:=F16.binds (ps:=["cells"]) λ_ _ _ _ _ _ us hl=>match us,hl with | [_],_=>rfl
 have m16:=PySem.W.mg_of X G a16;have F17:=JY (st:=Qdn) l17 c17 k17;have b17:=F17.binds (ps:=["board"]) λ_ _ _ _ _ _ us hl=>match us,hl with | [_],_=>rfl
 have m17:=PySem.W.mg_of X G a17;have F18:=JY (st:=Qkp) l18 c18 k18;have b18:=F18.binds (ps:=["board"]) λ_ _ _ _ _ _ us hl=>match us,hl with | [_],_=>rfl
 have m18:=PySem.W.mg_of X G a18;have F19:=JY (st:=QbU) l19 c19 k19;have b19:=F19.binds (ps:=["board", "size", "number"]) λ_ _ _ _ _ _ us hl=>match us,hl with | [_,_,_],_=>rfl
 have m19:=PySem.W.mg_of X G a19;have F20:=JY (st:=Qfl) l20 c20 k20;have b20:=F20.binds (ps:=["board", "size"]) λ_ _ _ _ _ _ us hl=>match us,hl with | [_,_],_=>rfl
 have m20:=PySem.W.mg_of X G a20;have F21:=JY (st:=sFol) l21 c21 k21;have b21:=F21.binds (ps:=["board", "start"]) λ_ _ _ _ _ _ us hl=>match us,hl with | [_,_],_=>rfl
 have m21:=PySem.W.mg_of X G a21;have F22:=JY (st:=Qkm) l22 c22 k22;have b22:=F22.binds (ps:=["start"]) λ_ _ _ _ _ _ us hl=>match us,hl with | [_],_=>rfl
 have m22:=PySem.W.mg_of X G a22;have F23:=JY (st:=Qdo) l23 c23 k23;have b23:=F23.binds (ps:=["board", "table", "start", "more", "number"]) λ_ _ _ _ _ _ us hl=>match us,hl with | [_,_,_,_,_],_=>rfl
 have m23:=PySem.W.mg_of X G a23;have F24:=JY (st:=Qki) l24 c24 k24;have b24:=F24.binds (ps:=["table", "start", "more"]) λ_ _ _ _ _ _ us hl=>match us,hl with | [_,_,_],_=>rfl
 have m24:=PySem.W.mg_of X G a24;have F25:=JY (st:=Qkh) l25 c25 k25;have b25:=F25.binds (ps:=["board"]) λ_ _ _ _ _ _ us hl=>match us,hl with | [_],_=>rfl
 have m25:=PySem.W.mg_of X G a25;have F26:=JY (st:=sRow) l26 c26 k26;have b26:=F26.binds (ps:=["below", "columns", "taken"]) λ_ _ _ _ _ _ us hl=>match us,hl with | [_,_,_],_=>rfl
 have m26:=PySem.W.mg_of X G a26;have F27:=JY (st:=Qfo) l27 c27 k27;have b27:=F27.binds (ps:=["board", "thing"]) λ_ _ _ _ _ _ us hl=>match us,hl with | [_,_],_=>rfl
 have m27:=PySem.W.mg_of X G a27;have F28:=JY (st:=Qkr) l28 c28 k28;have b28:=F28.binds (ps:=["board", "thing"]) λ_ _ _ _ _ _ us hl=>match us,hl with | [_,_],_=>rfl
 have m28:=PySem.W.mg_of X G a28;have F29:=JY (st:=sHow) l29 c29 k29;have b29:=F29.binds (ps:=["lines"]) λ_ _ _ _ _ _ us hl=>match us,hl with | [_],_=>rfl
 have m29:=PySem.W.mg_of X G a29;have F30:=JY (st:=Qkl) l30 c30 k30;have b30:=F30.binds (ps:=["board"]) λ_ _ _ _ _ _ us hl=>match us,hl with | [_],_=>rfl
 have m30:=PySem.W.mg_of X G a30;have F31:=JY (st:=Qfp) l31 c31 k31;have b31:=F31.binds (ps:=["board"]) λ_ _ _ _ _ _ us hl=>match us,hl with | [_],_=>rfl
 have m31:=PySem.W.mg_of X G a31;have F32:=JY (st:=sFew) l32 c32 k32;have b32:=F32.binds (ps:=["board"]) λ_ _ _ _ _ _ us hl=>match us,hl with | [_],_=>rfl
 have m32:=PySem.W.mg_of X G a32;have F33:=JY (st:=Qkq) l33 c33 k33;have b33:=F33.binds (ps:=["high"]) λ_ _ _ _ _ _ us hl=>match us,hl with | [_],_=>rfl
 have m33:=PySem.W.mg_of X G a33;have F34:=JY (st:=sLW) l34 c34 k34;have b34:=F34.binds (ps:=["board", "rows"]) λ_ _ _ _ _ _ us hl=>match us,hl with | [_,_],_=>rfl
 have m34:=PySem.W.mg_of X G a34;have F35:=JY (st:=Qkk) l35 c35 k35;have b35:=F35.binds (ps:=["board"]) λ_ _ _ _ _ _ us hl=>match us,hl with | [_],_=>rfl
 have m35:=PySem.W.mg_of X G a35;have F36:=JY (st:=Qdu) l36 c36 k36;have b36:=F36.binds (ps:=["_law_script", "_law_k"]) λ_ _ _ _ _ _ us hl=>match us,hl with | [_,_],_=>rfl
 have m36:=PySem.W.mg_of X G a36;have F37:=JY (st:=lPot) l37 c37 k37;have b37:=F37.binds (ps:=["_law_cell"]) λ_ _ _ _ _ _ us hl=>match us,hl with | [_],_=>rfl
 have m37:=PySem.W.mg_of X G a37;have F38:=JY (st:=QkB) l38 c38 k38;have b38:=F38.binds (ps:=["_law_pot_here", "_law_far"]) λ_ _ _ _ _ _ us hl=>match us,hl with | [_,_],_=>rfl
 have m38:=PySem.W.mg_of X G a38;have F39:=JY (st:=QfA) l39 c39 k39;have b39:=F39.binds (ps:=["_law_pot_here", "_law_most_here"]) λ_ _ _ _ _ _ us hl=>match us,hl with | [_,_],_=>rfl
 have m39:=PySem.W.mg_of X G a39;have F40:=JY (st:=Qfz) l40 c40 k40;have b40:=F40.binds (ps:=["_law_pot_here", "_law_many"]) λ_ _ _ _ _ _ us hl=>match us,hl with | [_,_],_=>rfl
 have m40:=PySem.W.mg_of X G a40;have F41:=JY (st:=QfB) l41 c41 k41;have b41:=F41.binds (ps:=["_law_found"]) λ_ _ _ _ _ _ us hl=>match us,hl with | [_],_=>rfl
 have m41:=PySem.W.mg_of X G a41;have F42:=JY (st:=QkC) l42 c42 k42;have b42:=F42.binds (ps:=["_law_board_here"]) λ_ _ _ _ _ _ us hl=>match us,hl with | [_],_=>rfl
 have m42:=PySem.W.mg_of X G a42;have F43:=JY (st:=Qfy) l43 c43 k43;have b43:=F43.binds (ps:=["_law_pot_here", "_law_board_here"]) λ_ _ _ _ _ _ us hl=>match us,hl with | [_,_],_=>rfl
 have m43:=PySem.W.mg_of X G a43;have F44:=JY (st:=sLaw) l44 c44 k44;refine⟨PySem.W.fnOf "law" "law" (Jp sLaw) (Jl sLaw) (Qq sLaw) .none kV44 dc44 pm44 an44 cd44 ct44,λs v=>.of_eq rfl,λbase _ _=>?_⟩;have G1:FnOk l.prog w K mg base CX0 1 f1 _ ["thing"] (Dl.JH false Dl.Qlr):=QpE F1 T ;have G2:FnOk l.prog w K mg base CX0 2 f2 _ ["thing", "least", "most"] (Dl.JH false Qcq):=QmB F2 T m1 G1 b1 k1;have G3:FnOk l.prog w K mg base CX0 1 f3 _ ["things"] (Dl.JH false Qga):=QmC F3 T ;have G5:FnOk l.prog w K mg base CX0 3 f5 _ ["high", "wide", "thing"] (Dl.JH false Qjm):=QpI F5 T m2 G2 b2 k2;have G4:FnOk l.prog w K mg base CX0 4 f4 _ ["high", "wide", "thing"] (Dl.JH false QnA):=QpN F4 T m5 G5 b5 k5 m3 G3 b3 k3;have G16:FnOk l.prog w K mg base CX0 1 f16 _ ["cells"] (Dl.JH false QnS):=QpO F16 T ;have G15:FnOk l.prog w K mg base CX0 5 f15 _ ["board", "thing"] (Dl.JH false Qi8):=QpF F15 T m4 G4 b4 k4 m16 G16 b16 k16;have G12:FnOk l.prog w K mg base CX0 3 f12 _ ["many", "thing"] (Dl.JH false QuJ):=QuD F12 T m2 G2 b2 k2 m3 G3 b3 k3;have G11:FnOk l.prog w K mg base CX0 4 f11 _ ["board", "thing"] (Dl.JH false QmX):=QpK F11 T m12 G12 b12 k12;have G27:FnOk l.prog w K mg base CX0 5 f27 _ ["board", "thing"] (Dl.JH false QjJ):=QpL F27 T m11 G11 b11 k11;have G29:FnOk l.prog w K mg base CX0 1 f29 _ ["lines"] (Dl.JH false how22D):=QxB F29 T ;have G28:FnOk l.prog w K mg base CX0 6 f28 _ ["board", "thing"] (Dl.JH false Qtn):=QmG F28 T m15 G15 b15 k15 m27 G27 b27 k27 m29 G29 b29 k29;have G6:FnOk l.prog w K mg base CX0 2 f6 _ ["board"] (Dl.JH false Qs7):=Qux F6 T ;have G7:FnOk l.prog w K mg base CX0 1 f7 _ ["board"] (Dl.JH false Ql2):=QpG F7 T ;have G8:FnOk l.prog w K mg base CX0 3 f8 _ ["many", "thing"] (Dl.JH false QAy):=QxA F8 T m2 G2 b2 k2;have G10:FnOk l.prog w K mg base CX0 1 f10 _ ["board", "rows", "columns"] (Dl.JH false Qdq):=QmD F10 T ;have G9:FnOk l.prog w K mg base CX0 4 f9 _ ["board", "rows", "columns"] (Dl.JH false Qdq):=Qxy F9 T m8 G8 b8 k8 m10 G10 b10 k10;have G14:FnOk l.prog w K mg base CX0 4 f14 _ ["board", "cell"] (Dl.JH false Qtw):=QuC F14 T m5 G5 b5 k5;have G13:FnOk l.prog w K mg base CX0 5 f13 _ ["board", "cell"] (Dl.JH false Qd3):=QAk F13 T m14 G14 b14 k14;have G18:FnOk l.prog w K mg base CX0 1 f18 _ ["board"] (Dl.JH false QpY):=QuE F18 T ;have G26:FnOk l.prog w K mg base CX0 1 f26 _ ["below", "columns", "taken"] (Dl.JH true Qs2):=Quu F26 T ;have G25:FnOk l.prog w K mg base CX0 2 f25 _ ["board"] (Dl.JH true QoA):=Quw F25 T m26 G26 b26 k26;have G17:FnOk l.prog w K mg base CX0 3 f17 _ ["board"] (Dl.JH true QeQ):=QmI F17 T m25 G25 b25 k25 m18 G18 b18 k18;have G22:FnOk l.prog w K mg base CX0 1 f22 _ ["start"] (Dl.JH false QoW):=QuB F22 T ;have G21:FnOk l.prog w K mg base CX0 2 f21 _ ["board", "start"] (Dl.JH false QAK):=QxC F21 T m22 G22 b22 k22;have G20:FnOk l.prog w K mg base CX0 3 f20 _ ["board", "size"] (Dl.JH false Ql3):=QpH F20 T m2 G2 b2 k2 m18 G18 b18 k18;have G24:FnOk l.prog w K mg base CX0 2 f24 _ ["table", "start", "more"] (Dl.JH false Qs3):=Quv F24 T m22 G22 b22 k22;have G23:FnOk l.prog w K mg base CX0 3 f23 _ ["board", "table", "start", "more", "number"] (Dl.JH false QiF):=QmJ F23 T m21 G21 b21 k21 m24 G24 b24 k24;have G19:FnOk l.prog w K mg base CX0 4 f19 _ ["board", "size", "number"] (Dl.JH false Qd5):=Qkw F19 T m20 G20 b20 k20 m25 G25 b25 k25 m2 G2 b2 k2 m23 G23 b23 k23;have G31:FnOk l.prog w K mg base CX0 4 f31 _ ["board"] (Dl.JH false QjL):=QpM F31 T m17 G17 b17 k17;have G34:FnOk l.prog w K mg base CX0 1 f34 _ ["board", "rows"] (Dl.JH false lwD):=(QAl F34 T).imp λ_ _ _ _ h=>QB8 h
 have G33:FnOk l.prog w K mg base CX0 1 f33 _ ["high"] (Dl.JH false Qit):=QuF F33 T ;have G32:FnOk l.prog w K mg base CX0 3 f32 _ ["board"] (Dl.JH false Qng):=QmH F32 T m34 G34 b34 k34 m33 G33 b33 k33 m29 (G29.imp λ_ _ _ _ h=>Qx2 h) b29 k29;have G30:FnOk l.prog w K mg base CX0 5 f30 _ ["board"] (Dl.JH false Qf0):=QuA F30 T m19 G19 b19 k19 m31 G31 b31 k31 m32 G32 b32 k32;have G35:FnOk l.prog w K mg base CX0 6 f35 _ ["board"] (Dl.JH false Qte):=Quz F35 T m31 G31 b31 k31 m17 G17 b17 k17 m13 G13 b13 k13;have G36:FnOk l.prog w K mg base CX0 1 f36 _ ["_law_script", "_law_k"] (QcW K):=QmK F36 T ;have G37:FnOk l.prog w K mg base CX0 1 f37 _ ["_law_cell"] (Dl.JH true Dl.Qz5):=(Qxx F37 T).imp λ_ _ _ _ h=>Dl.Qz4 h
 have G38:FnOk l.prog w K mg base CX0 1 f38 _ ["_law_pot_here", "_law_far"] (Dl.JH true Dl.QoF):=(Quy F38 T).imp λ_ _ _ _ h=>Dl.Qwe h
 have G39:FnOk l.prog w K mg base CX0 2 f39 _ ["_law_pot_here", "_law_most_here"] (Dl.JH false Qiu):=QmF F39 T m38 G38 b38 k38;have G40:FnOk l.prog w K mg base CX0 2 f40 _ ["_law_pot_here", "_law_many"] (Dl.JH false QmV):=QuG F40 T m38 G38 b38 k38;have G41:FnOk l.prog w K mg base CX0 1 f41 _ ["_law_found"] (Dl.JH false Qn2):=QpP F41 T ;have G42:FnOk l.prog w K mg base CX0 6 f42 _ ["_law_board_here"] (Dl.JH false Qed):=QpJ F42 T m30 G30 b30 k30;have G43:FnOk l.prog w K mg base CX0 7 f43 _ ["_law_pot_here", "_law_board_here"] (Dl.JH false QeC):=QmE F43 T m30 G30 b30 k30 m17 G17 b17 k17 m28 G28 b28 k28 m15 G15 b15 k15 m27 G27 b27 k27 m6 G6 b6 k6 m41 G41 b41 k41 m9 G9 b9 k9 m40 G40 b40 k40 m42 G42 b42 k42 m19 G19 b19 k19 m35 G35 b35 k35 m13 G13 b13 k13;exact Qxz F44 T m36 G36 b36 k36 m37 G37 b37 k37 m39 G39 b39 k39 m43 G43 b43 k43 m42 G42 b42 k42 m7 G7 b7 k7
theorem QBQ{l:PySem.W.OpenLaw}{q:QF}{loose:List Str}{XP:(Str->Option Value)->Heap->Prop}{YP:Jk->Heap->Prop}{d:DefRec}{K:Params->PySem.W.Frag}(hn:l.most=some 63)(hdf:d.params.defaults=[])
  (hY:∀(w:Jk)(h:Heap),YP w h->(K w.params).In h)
  (F:∀(w:Jk)(mg:Str->Option Value)(fa:Addr)(h:Heap),(K w.params).In h->h.Ns mainGlobals mg->mg d.name=some (.ref fa) ->
   ∃fd:QM,(∀(s:Shared)(u:Value),Qox s fd ⟨[u],[]⟩ [("_law_script",u)])/\∀base:Heap,(K w.params).In base->base.Ns mainGlobals mg->FnOk l.prog w (K w.params) mg base CX0 8 fa fd ["_law_script"] (Dl.Qff (K w.params))) :
  PySem.W.WalkO q loose XP YP l.row.toRowW d [] (λf vs=>PySem.call f vs):=
 L2.Qs5 (n:=63) (k:=8) (x := "_law_script") (CX:=λ_=>CX0) (sp:=λw=>(Dl.Qff (K w.params))) hn (by decide) hdf ⟨rfl,by decide,by decide⟩ hY F (λ_ _ a ns hl _ hS=>⟨a,ns,rfl,hS,hl,λ_=>rfl⟩) λ_ _ _ _ _ z=>z
end Rk
open PySem.W
set_option maxRecDepth 100000 in
set_option maxHeartbeats 0 in
theorem PySem.Challenge.cw_rooklands_k25_whole_most_holds : PySem.Challenge.rw_rooklands_k25_whole_most.Holds := by
 w_on;o_law;k_head;(case hw=>w_witness2)
 k_fill
 refine Rk.QBQ (l:=PySem.Challenge.rw_rooklands_k25_whole_most) rfl rfl (λw h Y=>PySem.W.kIn_of Y) ?F
 case F=>
  intro w mg fa h KX G hmg;refine' Rk.Qyz KX G hmg ?a1 ?l1 ?c1 ?k1 ?a2 ?l2 ?c2 ?k2 ?a3 ?l3 ?c3 ?k3 ?a4 ?l4 ?c4 ?k4 ?a5 ?l5 ?c5 ?k5 ?a6 ?l6 ?c6 ?k6 ?a7 ?l7 ?c7 ?k7 ?a8 ?l8 ?c8 ?k8 ?a9 ?l9 ?c9 ?k9 ?a10 ?l10 ?c10 ?k10 ?a11 ?l11 ?c11 ?k11 ?a12 ?l12 ?c12 ?k12 ?a13 ?l13 ?c13 ?k13 ?a14 ?l14 ?c14 ?k14 ?a15 ?l15 ?c15 ?k15 ?a16 ?l16 ?c16 ?k16 ?a17 ?l17 ?c17 ?k17 ?a18 ?l18 ?c18 ?k18 ?a19 ?l19 ?c19 ?k19 ?a20 ?l20 ?c20 ?k20 ?a21 ?l21 ?c21 ?k21 ?a22 ?l22 ?c22 ?k22 ?a23 ?l23 ?c23 ?k23 ?a24 ?l24 ?c24 ?k24 ?a25 ?l25 ?c25 ?k25 ?a26 ?l26 ?c26 ?k26 ?a27 ?l27 ?c27 ?k27 ?a28 ?l28 ?c28 ?k28 ?a29 ?l29 ?c29 ?k29 ?a30 ?l30 ?c30 ?k30 ?a31 ?l31 ?c31 ?k31 ?a32 ?l32 ?c32 ?k32 ?a33 ?l33 ?c33 ?k33 ?a34 ?l34 ?c34 ?k34 ?a35 ?l35 ?c35 ?k35 ?a36 ?l36 ?c36 ?k36 ?a37 ?l37 ?c37 ?k37 ?a38 ?l38 ?c38 ?k38 ?a39 ?l39 ?c39 ?k39 ?a40 ?l40 ?c40 ?k40 ?a41 ?l41 ?c41 ?k41 ?a42 ?l42 ?c42 ?k42 ?a43 ?l43 ?c43 ?k43 ?a44 ?l44 ?c44 ?k44 ?z1 ?z2 ?z3 ?z4 ?z5 ?z6 ?z7 ?z8 ?z9 ?z10 ?z11 ?z12 ?z13 ?z14 ?z15 ?z16 ?z17 ?z18 ?z19
  (case a1=>k_is)
  (case l1=>k_is)
  (case c1=>k_is)
  (case k1=>k_is)
  (case a2=>k_is)
  (case l2=>k_is)
  (case c2=>k_is)
  (case k2=>k_is)
  (case a3=>k_is)
  (case l3=>k_is)
  (case c3=>k_is)
  (case k3=>k_is)
  (case a4=>k_is)
  (case l4=>k_is)
  (case c4=>k_is)
  (case k4=>k_is)
  (case a5=>k_is)
  (case l5=>k_is)
  (case c5=>k_is)
  (case k5=>k_is)
  (case a6=>k_is)
  (case l6=>k_is)
  (case c6=>k_is)
  (case k6=>k_is)
  (case a7=>k_is)
  (case l7=>k_is)
  (case c7=>k_is)
  (case k7=>k_is)
  (case a8=>k_is)
  (case l8=>k_is)
  (case c8=>k_is)
  (case k8=>k_is)
  (case a9=>k_is)
  (case l9=>k_is)
  (case c9=>k_is)
  (case k9=>k_is)
  (case a10=>k_is)
  (case l10=>k_is)
  (case c10=>k_is)
  (case k10=>k_is)
  (case a11=>k_is)
  (case l11=>k_is)
  (case c11=>k_is)
  (case k11=>k_is)
  (case a12=>k_is)
  (case l12=>k_is)
  (case c12=>k_is)
  (case k12=>k_is)
  (case a13=>k_is)
  (case l13=>k_is)
  (case c13=>k_is)
  (case k13=>k_is)
  (case a14=>k_is)
  (case l14=>k_is)
  (case c14=>k_is)
  (case k14=>k_is)
  (case a15=>k_is)
  (case l15=>k_is)
  (case c15=>k_is)
  (case k15=>k_is)
  (case a16=>k_is)
  (case l16=>k_is)
  (case c16=>k_is)
  (case k16=>k_is)
  (case a17=>k_is)
  (case l17=>k_is)
  (case c17=>k_is)
  (case k17=>k_is)
  (case a18=>k_is)
  (case l18=>k_is)
  (case c18=>k_is)
  (case k18=>k_is)
  (case a19=>k_is)
  (case l19=>k_is)
  (case c19=>k_is)
  (case k19=>k_is)
  (case a20=>k_is)
  (case l20=>k_is)
  (case c20=>k_is)
  (case k20=>k_is)
  (case a21=>k_is)
  (case l21=>k_is)
  (case c21=>k_is)
  (case k21=>k_is)
  (case a22=>k_is)
  (case l22=>k_is)
  (case c22=>k_is)
  (case k22=>k_is)
  (case a23=>k_is)
  (case l23=>k_is)
  (case c23=>k_is)
  (case k23=>k_is)
  (case a24=>k_is)
  (case l24=>k_is)
  (case c24=>k_is)
  (case k24=>k_is)
  (case a25=>k_is)
  (case l25=>k_is)
  (case c25=>k_is)
  (case k25=>k_is)
  (case a26=>k_is)
  (case l26=>k_is)
  (case c26=>k_is)
  (case k26=>k_is)
  (case a27=>k_is)
  (case l27=>k_is)
  (case c27=>k_is)
  (case k27=>k_is)
  (case a28=>k_is)
  (case l28=>k_is)
  (case c28=>k_is)
  (case k28=>k_is)
  (case a29=>k_is)
  (case l29=>k_is)
  (case c29=>k_is)
  (case k29=>k_is)
  (case a30=>k_is)
  (case l30=>k_is)
  (case c30=>k_is)
  (case k30=>k_is)
  (case a31=>k_is)
  (case l31=>k_is)
  (case c31=>k_is)
  (case k31=>k_is)
  (case a32=>k_is)
  (case l32=>k_is)
  (case c32=>k_is)
  (case k32=>k_is)
  (case a33=>k_is)
  (case l33=>k_is)
  (case c33=>k_is)
  (case k33=>k_is)
  (case a34=>k_is)
  (case l34=>k_is)
  (case c34=>k_is)
  (case k34=>k_is)
  (case a35=>k_is)
  (case l35=>k_is)
  (case c35=>k_is)
  (case k35=>k_is)
  (case a36=>k_is)
  (case l36=>k_is)
  (case c36=>k_is)
  (case k36=>k_is)
  (case a37=>k_is)
  (case l37=>k_is)
  (case c37=>k_is)
  (case k37=>k_is)
  (case a38=>k_is)
  (case l38=>k_is)
  (case c38=>k_is)
  (case k38=>k_is)
  (case a39=>k_is)
  (case l39=>k_is)
  (case c39=>k_is)
  (case k39=>k_is)
  (case a40=>k_is)
  (case l40=>k_is)
  (case c40=>k_is)
  (case k40=>k_is)
  (case a41=>k_is)
  (case l41=>k_is)
  (case c41=>k_is)
  (case k41=>k_is)
  (case a42=>k_is)
  (case l42=>k_is)
  (case c42=>k_is)
  (case k42=>k_is)
  (case a43=>k_is)
  (case l43=>k_is)
  (case c43=>k_is)
  (case k43=>k_is)
  (case a44=>k_is)
  (case l44=>k_is)
  (case c44=>k_is)
  (case k44=>k_is)
  (case z1=>k_is)
  (case z2=>k_is)
  (case z3=>k_is)
  (case z4=>k_is)
  (case z5=>k_is)
  (case z6=>k_is)
  (case z7=>k_is)
  (case z8=>k_is)
  (case z9=>k_is)
  (case z10=>k_is)
  (case z11=>k_is)
  (case z12=>k_is)
  (case z13=>k_is)
  (case z14=>k_is)
  (case z15=>k_is)
  (case z16=>k_is)
  (case z17=>k_is)
  (case z18=>k_is)
  (case z19=>k_is)
