import PyProof.Rows.All
import Wide.All
import OpenK.AllK
import Wide.FinOn
import Lean
import PyProof.EqAt
import PyProof.EqKinds
import PyProof.TupleCall
import PyProof.Rows.SortRuns
import PyProof.Rows.SortShellK
import PyProof.P3Eq
import PyProof.Draws
import PyProof.EnumMake
import PyProof.NeData
import KE.LcSums
import PyProof.WalkInts
import PyProof.SeqI3
import KE.KSortTup
import KE.KRevIter
import PyProof.FactsAll.range_2
import PyProof.SetRoads
import PyProof.FactsAll.set_1
import PyProof.Rows.SetFrom
import PyProof.CollectWalk
import PyProof.Walks
import PyProof.TupleIter
import PyProof.TupleKey
import PyProof.Rows.CallKwBuiltin
import PyProof.DictCompW
import PySem.Challenge.RW_rooklands_k34_whole_counts_of_lesser_boa
local macro_rules | `(tactic| omega) => `(tactic| first | lia | omega +splitDisjunctions)
open PySem.W renaming Frag->Qa,keepIn->Qb,nsIn->Qk,codeIn->Qs,fnOf->Qv,mg_of->Qw,mg_none_of->Q3,kia_one->Zk,methodObj->QdG,instObj->QeQ,OpenLaw->QeR,lookIn->Qfy,kitOne->Qfz,cellsFrom_some->QhN,kitx_list->Qk5,kitx_dict->Qk6,plainGet->Qn3,findIn->Qrt,WalkO->Qsx
open List renaming length_map->Qc,getD_eq_getElem?_getD->Qd,getElem?_eq_getElem->Qe,size_toArray->Ql,getElem?_map->Qo,range->Qp,length_append->Qr,mem_map->Qt,mem_append_right->Qu,mem_singleton->Qx,mem_cons->Qy,mem_filter->Qz,length_cons->QF,length_range->QH,getElem?_eq_none->QJ,mem_range->QM,map_map->QN,replicate->QR,getElem?_eq_some_iff->QU,mem_append->Q0,mem_of_getElem?->Q8,perm_ext_iff_of_nodup->Je,getElem?_range->Ji,map_append->Jj,not_mem_nil->Jm,lookup_cons->Jn,filter_cons_of_neg->Jp,replicate_succ->Jq,flatten_cons->Ju,flatMap_cons->Jw,mem_iff_getElem?->Jx,filter_cons_of_pos->Jy,map_congr_left->JD,map_cons->JF,nodup_range->JQ,pairwise_map->JR,mem_cons_of_mem->JS,mem_append_left->JT,filter_congr->J9,filter_filter->Zd,length_filter_le->Zi,nodup_cons->Zn,take_length->Zp,nodup_append->Zv,ext_getElem?->Zw,append_nil->ZB,mem_cons_self->ZD,getElem_mem->ZF,pairwise_append->ZI,getElem?_replicate->ZM,take_add_one->ZR,filter_eq_nil_iff->ZU,getElem?_append_right->ZX,pairwise_iff_getElem->Z3,getElem?_append_left->Z4,length_set->Yb,toArray->Ye,getElem?_cons_succ->Yf,mem_flatMap->Yi,any_eq_true->Yj,filterMap_map->Yp,length_take->YY,all_eq_true->YZ,filter_eq_self->Y1,getElem?_take->Qaa,filter_append->Qab,length_replicate->Qaw,dropLast_concat_getLast->QaK,toList_toArray->QaZ,flatMap_append->Qa0,filterMap_cons->Qa1,sum_cons->QbQ,pairwise_singleton->QbR,mem_toArray->Qb5,length_pos_of_mem->Qb7,getElem?_set_self->Qb8,zipWith->Qcq,perm_append_comm->Qcr,getElem?_set_ne->QcR,map_id->Qdo,pairwise_cons->QdL,any_cons->QdM,getElem?_set->QeO,append_assoc->QeP,any_map->QeU,mem_flatten->Qe4,length_drop->Qe5,range_succ->QgD,of_mem_zip->QgE,nil_append->QgF,lookup->QgG,length_nil->QgH,forIn_cons->QgI,drop_eq_getElem_cons->QhP,length_erase_of_mem->Qh1,getElem?_cons_zero->QiZ,take_of_length_le->QjZ,pairwise_lt_range->Qj0,take_append_drop->QkT,pairwise_flatMap->QkU,getElem?_toArray->QkV,filterMap_append->QkW,dropLast_eq_take->QkX,mem_of_mem_take->Qla,mem_of_getLast?->Qlb,getLast?_append->Qlc,length_zipWith->Qn4,length_pos_iff->Qn5,zip_cons_cons->Qok,mem_filterMap->Qol,reverse_cons->Qru,foldl->Qrv,zipIdx_cons->QsB,getElem_map->QsC,getElem_inj->QsD,zipIdx_nil->Qvr,take_range->Qvs,foldl_cons->Qvt,filter_map->Qvu,forIn_nil->QvI,drop_zero->QvJ,take_nil->Qyk,map_take->Qyl,drop_nil->Qym,all_cons->Qyn,map_nil->QyY
open PySem.Heap renaming get?_push_of_some->Qf,lt_size->Qj,get?_push_size->Qq,get?_update_self->J5,get?_update_other->Zu,size_push->ZP,SameBut->Qax,IsTuple->Qy2
open PySem.PyData renaming int->Qg,eqv->Q9,depthAll->JN,canLayAll0->J8,depth->Ys,list->YT,tuple->YX,bool->Qam,canLay0->QgC,eqvAll->Qvn
open Nat renaming le_refl->Qh,ne_of_lt->QD,lt_of_lt_of_le->QQ,le_trans->QX,zero_le->Jc,add_sub_cancel->Ze,add_sub_cancel_left->ZO,le_of_lt->ZQ,pow_le_pow_right->Ya,mul_le_mul->Yo,lt_succ_of_lt->YG,lt_irrefl->YH,ne_of_gt->Qay,two_pow_pos->Qcz,lt_of_le_of_lt->Qd3,lt_trichotomy->QeT,lt_or_ge->Qe3,min_le_right->QfB,min_eq_left->QgM,le_succ->QgN,succ_mul->Qk7,sub_zero->Qk8,sub_self->Qk9,testBit_two_pow->Qoj,mod_lt->Qsz,le_of_lt_succ->QsA,le_max_right->Qvp,le_add_right->Qvq,not_lt_zero->QvF,min_le_left->QvG,le_antisymm->QvH,testBit_or->Qyj
open Bool renaming false_ne_true->Qi,and_eq_true_iff->JG,and_eq_true->JH,eq_iff_iff->J6,false_eq_true->Qac,or_eq_true->Qcv,and_comm->QdN,false_and->QhT,or_false->Qi1,false_or->Qi2,not_eq_true'->Qry,true_and->Qyq
open PySem renaming Program->QC,FuncData->QL,Expr->Q1,Around->Ja,World->Jf,wpAny_newObj_type->Jr,wpAny_call_entry->JL,wpAny_holding->J1,wpAny_callSpecial?_slot->Zc,wpAny_field->Zg,wpAny_truthy_bool->Zl,wpAny_seqItems->Zq,wpAny_of_eq->ZN,Stmt->ZY,wpAny_askSetting->Z6,wpAny_setField_rec->YF,wpAny_passesOwn->YO,sizeLine_eq->YQ,codeAny_builtin->YR,Scope->YV,mem_of_lookup->YW,Builtin->Y2,wpAny_tryCatch->Y6,wpAny_comprehension_free->Qal,wpAny_Call_Name_kw->Qar,plainId_quiet->Qas,Fin->Qat,wpAny_setState_of->QaG,NameKind->QaJ,wpAny_newFunctionEnv->Qa8,Paired->Qa9,wpAny_updateSeq->Qbn,wpAny_letGo->Qbo,wpAny_setField->Qb3,isSubtype_type->Qb4,wpAny_pyIter_list->Qcd,Operator->Qcx,Comprehension->QcA,wpAny_pyIter_zip->QcQ,wpAny_pyNext_list_item->QcT,wpAny_pyIter_rangeiter->QcU,codeAny_compStart_list->QcV,wpAny_typeOf->QdA,wpAny_pyNext_list_end->QdB,wpAny_execs_nil->QdC,exec_Assign_Name_used->QdD,codeAny_mono->QdE,builtinLookup_eq_fast->QdF,ReadsAll->QdJ,wpAny_updateSeq_pair->Qd2,wpAny_pyIter_tuple->Qfv,wpAny_onRaise->Qfw,wpAny_attempt->Qfx,PassesOwn->QfA,call_meets->QgK,seqIndex_neg->QhM,IsPart->QhQ,wpAny_isInstance->QhU,wpAny_eqBool_int->QhV,noFill_tuple_add->QhW,typeLookup_type->QjU,seqIndex_of->QjV,codeAny_of_tree->QjW,Result->QjX,Keyword->Qj1,IsRangeIter->Qj2,wpAny_letOwnedTupleGo_zip->Qk0,Reads->Qk4,intKind_is->QnZ,wpAny_newList->Qoa,seq_tuple_add->Qoc,rangeSize_one->Qod,call->Qog,BindsTo->Qom,wpAny_pyNext_range_end->Qro,wpAny_getItem_list_neg->Qrp,concat_meets->Qsu,IsZip->QsE,CmpOp->QsF,wpAny_loadName_local->Qvl,wpAny_setEntries_of->Qvz,wpAny_loadName_cell->QvA,wpAny_List_spliced->Qyd,ZipApart->Qyf,Within->Qyh,wpAny_storeSet_of->QyD,wpAny_sequenceKey->QyE,wpAny_pyIter_slot->QyF,wpAny_pyIter_enum->QyG,wpAny_call->QyH,wpAny_assign_Name->QyI,wpAny_Name->QyJ,typeIs_int->QyK,slot_list_getitem->QyL
open Option.some renaming inj->QK
open Int renaming toNat_natCast->QV,toNat_of_nonneg->Zx,zero_add->Y4,natCast_add->Qah,add_zero->Qaz,le_refl->QgP,natCast_nonneg->Qrw,le_antisymm->QvK
open Or renaming inr->QZ,inl->Q2
open Array renaming length_toList->Q4,getElem?_eq_none->ZT,getElem?_eq_getElem->ZZ,getD_eq_getD_getElem?->Yx,getElem_toList->QaF,perm_iff_toList_perm->Qa3,getElem?_toList->Qcf,toList_map->QeV,toList_inj->QeW,toList->Qj3,mem_toList_iff->QkY
open PySem.NameKind renaming free->Jd,cell->Yu
open PySem.Value renaming none->Js,ref->Zm,int->Y7,type->QaI,bool->Qbp,builtin->QhX,str->Qsv,float->QyP
open PySem.PassesOwn renaming never->Jt
open PySem.Builtin.Range renaming rangeFitsLong->JC,rangeSize->ZA,rangeFields->Qy8
open PySem.SetTable renaming insertAt->JE,Probe->QaY,below->Qce,grown->Qe2,runEnd->Qn1
open PySem.Builtin.SmallTypes renaming nextOf->JJ,ownedTupleIsFree->Zz,ownedTupleHandOut->Qa2
open List.Pairwise renaming filter->JM,imp_of_mem->Yz,imp->QgO,nil->QyZ,map->Qy0
open PyProof.Rows renaming callWith_type1->JV,slot_tuple_getitem->JY,Keyed->Y8,SortKind->Qba,IntsAre->Qbs,AllBare->QeX,sortedHeap_old->Qk1,list_sort_tree->Qk2,sortedHeap_at->Qob,listUpdate_at->Qoe,subscriptTail_builtinR->Qrq,seqEpoch_at->QvB,entry_tuple_getitem->QvC,args_tuple_getitem->Qye,size_push'->QyM
open PySem.Builtin.Int renaming intBits->Zo,intTooBig->QfC
open Option renaming map_eq_some_iff->Zr,getD_some->Qoh,getD_none->Qoi,none->Qyi
open Prod.mk renaming inj->Zs
open List.Perm renaming eq_of_pairwise->Zy,refl->Qb9
open False renaming elim->ZC
open PySem.Obj renaming mapSeq->ZE,data_mapFields->Yt,isFreed_of_fields->Qcy,cls_mapFields->QeS,mapFields->QjY,putSet->Qsy
open PySem.Heap.SameBut renaming update->ZG,refl->QhR
open PySem.Around renaming under_plainId->ZH
open ForInStep renaming yield->ZJ
open PySem.F renaming plain_min_loop->Z5,slot_tuple_iterator_next->YU,args_tuple_add_2->Qbb,plainAttrs_list->Qbq,entry_tuple_add->Qbr,slot_tuple_add->Qbw,entry_min_loop->Qcs,slot_zip_next->QcW,slot_range_reversed->QcX,args_tuple_iterator_next_1->QhS,slot_set_iter->Qh0,entry_tuple_iterator_next->Qh2,plain_reversed_new->Qrx,plain_list_iadd->QvL,args_zip_next_1->QvM,entry_zip_next->Qyp,slot_int_rmul->Qy3
open PySem.Builtin.Slice renaming slicePlaces->Yq,sliceAdjust->QaA,sliceApplied->Qdq,slicePartIndex->Qy6,sliceFields->Qy7
open PySem.Builtin.Tuple renaming tupleExact->YA,tupleItemsOf->Qdp,tupleIsExact->Qy4,tupleCompareSizes->Qy5
open Classical renaming byContradiction->YB
open PySem.Challenge renaming rw_rooklands_k34_whole_counts_of_lesser_boa->YS,pw_rooklands_k34_whole_counts_of_lesser_boa->QvE
open PySem.Str renaming ofString->Y3
open PySem.Builtin.List renaming listTooLong->QaL,listExtendWith->Qdr,listSameRef->Qd4
open True renaming intro->Qbu
open Ne renaming symm->Qbv
open PySem.Builtin renaming bitAnd->Qct,bitOr->QcY
open PySem.Builtin.Builtins renaming bindParams->Qcu
open Sum renaming inl->Qcw,inr->QgL
open Prod renaming ext->QdK
open PySem.Calls renaming Name_function_global->QgJ,call_function_entry->QgQ,callWith_builtin->Qi0
open Nat.succ renaming inj->QhO
open PySem.SeqAt.EqAt renaming str_int->QhY,int_str->QhZ
open PySem.SeqAt renaming notIn_tupleAt->Qk3,notIn_listAt->Qn2,EqAt->Qof,eqAt_reads->Qrs
open String renaming splitOnAux->Qn0,splitOn->Qsw
open PySem.pickOrder renaming go->Qrr
open PySem.Builtin.Frozenset renaming oneOther->QsG
open PySem.Shared renaming TypeIs->Qvm,heap->Qyg
open PySem.Paired renaming length->Qvo
open Sum.inl renaming inj->QvD
open And renaming intro->QvN
open PySem.Heap.IsSliceOf renaming new->Qyo
open PySem.Walks renaming range->QyN
open PySem.W.WShape renaming has->QyO
open PySem.EqMixed renaming ne_str_int->QyQ,ne_str_bool->QyR,ne_int_str->QyS,ne_bool_str->QyT,eq_str_int->QyU,eq_str_bool->QyV,eq_int_str->QyW,eq_bool_str->QyX
open PyProof.Rows.LSm renaming kept_iter->Qy1
open PySem PySem.Spec PyProof.Rows
set_option Elab.async false
set_option linter.all false
set_option maxRecDepth 100000
namespace L2
abbrev Key:=Sum Int Str
def Qxu:Key->Value->Bool
 |.inl k,v=>Value.isInt k v
 |.inr x,v=>Value.isStrOf x v
def QBK(w:Jf):Key->Int
 |.inl k=>hashInt k
 |.inr x=>hashStr w x
theorem Z9:∀{k:Key}{v:Value},Qxu k v=true->(∃i t,k=Qcw i/\v=Y7 i t)∨(∃x t,k=QgL x/\v=Qsv x t)
 |.inl i,v,h=>by
  obtain⟨t,e⟩:=Value.isInt_shape (k:=i) (v:=v) h;exact .inl ⟨i,t,rfl,e⟩
 |.inr x,v,h=>by
  obtain⟨t,e⟩:=Value.isStrOf_shape (x:=x) (v:=v) h;exact .inr ⟨x,t,rfl,e⟩
theorem Qxt(a b:Int):decide ((Qcw a:Key)=Qcw b)=(a == b):=by
 by_cases e:a=b
 ·subst e;simp
 ·have h:¬(Qcw a:Key)=Qcw b:=λq=>e (QvD q)
  rw[decide_eq_false h];exact(beq_eq_false_iff_ne.mpr e).symm
theorem Qxq(a b:Str):decide ((QgL a:Key)=QgL b)=decide (a=b):=by
 by_cases e:a=b
 ·subst e;simp
 ·have h:¬(QgL a:Key)=QgL b:=λq=>e (Sum.inr.inj q)
  rw[decide_eq_false h,decide_eq_false e]
theorem Qxs(a:Int)(b:Str):decide ((Qcw a:Key)=QgL b)=false:=decide_eq_false (λq=>nomatch q)
theorem Qxr(a:Str)(b:Int):decide ((QgL a:Key)=Qcw b)=false:=decide_eq_false (λq=>nomatch q)
def mixKind(prog:QC)(w:Jf):PySem.KeyKind prog w Key where
 is:=Qxu
 hash:=QBK w
 inj:=λv a b ha hb=>by
  rcases Z9 ha with⟨i,t,rfl,rfl⟩ | ⟨x,t,rfl,rfl⟩
  ·rcases Z9 hb with⟨j,u,rfl,e⟩ | ⟨y,u,rfl,e⟩
   ·injection e with e1 _;rw[e1]
   ·exact nomatch e
  ·rcases Z9 hb with⟨j,u,rfl,e⟩ | ⟨y,u,rfl,e⟩
   ·exact nomatch e
   ·injection e with e1 _;rw[e1]
 byValue:=λk v h=>by
  rcases Z9 h with⟨i,t,rfl,rfl⟩ | ⟨x,t,rfl,rfl⟩<;>rfl
 pyHash:=λhv h=>by
  rcases Z9 hv with⟨i,t,rfl,rfl⟩ | ⟨x,t,rfl,rfl⟩
  ·exact wpAny_pyHash_int h
  ·exact wpAny_pyHash_str h
 eqBool:=λhu hv h=>by
  rcases Z9 hu with⟨i,t,rfl,rfl⟩ | ⟨x,t,rfl,rfl⟩
  ·rcases Z9 hv with⟨j,u,rfl,rfl⟩ | ⟨y,u,rfl,rfl⟩
   ·rw[Qxt] at h;exact QhV h
   ·rw[Qxs] at h;exact QhZ i t y u _ _ _ _ h
  ·rcases Z9 hv with⟨j,u,rfl,rfl⟩ | ⟨y,u,rfl,rfl⟩
   ·rw[Qxr] at h;exact QhY x t j u _ _ _ _ h
   ·rw[Qxq] at h;exact wpAny_eqBool_str h
 «strs» := λk x t v h=>by
  rcases Z9 h with⟨i,u,rfl,e⟩ | ⟨y,u,rfl,e⟩
  ·exact nomatch e
  ·injection e with e1 _
   subst e1;cases v<;>rfl
inductive V where
 |non | bl (b:Bool) | int (i:Int) | str (x:Str) | byt (b:Array UInt8) | flt (b:UInt64) | ref (a:Addr) | ty (n:String)
 deriving DecidableEq
def RelV:V->Value->Prop
 |.non,u=>u=Js
 |.bl b,u=>u=Qbp b
 |.int i,u=>∃t,u=Y7 i t
 |.str x,u=>∃t,u=Qsv x t
 |.byt b,u=>∃t,u=Value.bytes b t
 |.flt b,u=>∃t,u=QyP b t
 |.ref a,u=>u=Zm a
 |.ty n,u=>u=QaI n
abbrev Vals:List V->List Value->Prop:=Qa9 RelV
theorem Vals.length{xs:List V}{us:List Value}(r:Vals xs us):xs.length=us.length:=Qvo r
theorem Vals.get:∀{xs:List V}{us:List Value}{i:Nat}{x:V},Vals xs us->xs[i]? = some x->∃u,us[i]? = some u/\RelV x u
 |_,_,_,_,.nil,e=>by simp at e
 |_,_,0,_,.cons r _,e=>by simp at e;subst e;exact⟨_,rfl,r⟩
 |_,_,i+1,x,.cons _ t,e=>by
  obtain⟨u,h1,h2⟩:=Vals.get (i:=i) (x:=x) t (by simpa using e);exact⟨u,by simpa using h1,h2⟩
theorem Vals.set{x:V}{u:Value}(r:RelV x u):∀{xs:List V}{us:List Value}(i:Nat),Vals xs us->Vals (xs.set i x) (us.set i u)
 |_,_,_,.nil=>.nil
 |_,_,0,.cons _ t=>.cons r t
 |_,_,i+1,.cons q t=>.cons q (Vals.set r i t)
theorem Vals.append:∀{xs ys:List V}{us ws:List Value},Vals xs us->Vals ys ws->Vals (xs++ys) (us++ws)
 |_,_,_,_,.nil,s=>s
 |_,_,_,_,.cons r t,s=>.cons r (Vals.append t s)
theorem Vals.take:∀{xs:List V}{us:List Value}(n:Nat),Vals xs us->Vals (xs.take n) (us.take n)
 |_,_,0,_=>.nil
 |_,_,_+1,.nil=>.nil
 |_,_,n+1,.cons r t=>.cons r (Vals.take n t)
theorem Vals.drop:∀{xs:List V}{us:List Value}(n:Nat),Vals xs us->Vals (xs.drop n) (us.drop n)
 |_,_,0,r=>r
 |_,_,_+1,.nil=>.nil
 |_,_,n+1,.cons _ t=>Vals.drop n t
def QAw:Option V->Option Value->Prop
 |some v,some u=>RelV v u
 |none,none=>True
 |_,_=>False
def KV{κ:Type}:List (κ×V)->List (κ×Value)->Prop:=Qa9 λ(p:κ×V)(q:κ×Value)=>p.1=q.1/\RelV p.2 q.2
def kV:Key->V
 |.inl i=>.int i
 |.inr x=>.str x
inductive HO where
 /-- a list -/
 |lst (xs:List V)
 /-- a tuple (never changes) -/
 |tup (xs:List V)
 /-- a dict whose keys are ints and texts;one whose keys are tuples of ints and texts (the empty one is both) -/
 |dK (kvs:List (Key×V)) | dT (kvs:List (List Key×V))
 /-- a set of ints: its members,its size -/
 |set (S:Int->Bool) (n:Nat)
 /-- an instance of the class at C,its dict at dx,its attributes -/
 |ins (C dx:Addr) (fs:List (Str×V))
 /-- the dict of the instance at x -/
 |own (x:Addr)
 /-- the dict of an exception -/
 |xd (fs:List (Str×V))
 /-- a bound method,f of x -/
 |met (f x:Addr)
 /-- a range object lo,lo+1,.. below hi -/
 |rng (lo hi:Int)
 /-- a thing that is known to the object (the script;a dict while a loop walks it): read,never written while it is so -/
 |frz (o:Obj) (u:HO)
 /-- a code object's table -/
 |tbl (ps:Array Value)
 /-- any other thing,by what is true of its one object (a def of one's own: SetO a S n:=HO.ext λh=>..) -/
 |ext (φ:Heap->Prop)
abbrev Hp:=Addr->Option HO
def upd(H:Hp)(a:Addr)(o:HO):Hp:=λb=>if b=a then some o else H b
theorem Jz{H:Hp}{a:Addr}{o:HO}:upd H a o a=some o:=by unfold upd;rw[if_pos rfl]
theorem JX{H:Hp}{a b:Addr}{o:HO}(h:b≠a):upd H a o b=H b:=by unfold upd;rw[if_neg h]
theorem Z2{H:Hp}{a b:Addr}{o:HO}(h:H a=some o)(h':H b=none):a≠b:=by
 intro e;subst e;rw[h] at h';cases h'
def TupN(h:Heap)(a:Addr)(items:Array Value):Prop:=∃o,h.get? a=some o/\o.cls=.type "tuple" /\ o.dict=none/\∃n,o.data=.seq items n
theorem TupN.tup{h:Heap}{a:Addr}{items:Array Value}(x:TupN h a items):IsTup h a items:=let ⟨o,e,c,_,d⟩:=x;⟨o,e,c,d⟩
theorem TupN.lt{h:Heap}{a:Addr}{items:Array Value}(x:TupN h a items):a<h.objs.size:=let ⟨_,e,_⟩:=x;Qj e
theorem TupN.new(h:Heap)(items:Array Value):TupN (h.push { cls:=.type "tuple",data:=.seq items }) h.objs.size items:=⟨_,Qq _ rfl,rfl,rfl,_,rfl⟩
section
variable(P:QC)(w:Jf)
def ObjOk(H:Hp)(h:Heap)(a:Addr):HO->Prop
 |.lst xs=>xs.length<=sizeLine/\∃(its:List Value)(n:Nat),Vals xs its/\h.get? a=some { cls:=.type "list",data:=.seq its.toArray n }
 |.tup xs=>xs.length<=sizeLine/\∃its:List Value,Vals xs its/\TupN h a its.toArray
 |.dK kvs=>kvs.length<=sizeLine/\(a == sysModules)=false/\∃vs,KV kvs vs/\h.DictOf (mixKind P w) a vs
 |.dT kvs=>kvs.length<=sizeLine/\(a == sysModules)=false/\∃xs:List (List Key×Addr×Value),
   Qa9 (λ(p:List Key×V)(q:List Key×Addr×Value)=>p.1=q.1/\H q.2.1=some (.tup (p.1.map kV))/\RelV p.2 q.2.2) kvs xs /\
   ∃o es ep,h.get? a=some o/\o.ExactDict/\o.data=.dict es ep/\es.toList=xs.map (entryOfKey (tupleKind (mixKind P w)))/\(xs.map (·.1)).Nodup
 |.set S n=>h.SetOf (intKind P w) a S n
 |.ins C dx fs=>H dx=some (.own a)/\fs.length<=1000/\dx≠a/\h.get? a=some (PySem.W.instObj C dx) /\
   ∃mA,h.Ns1 dx mA/\(∀f,QAw (fs.lookup f) (mA f))/\PySem.Within mA (fs.map (·.1))
 |.own _=>∃o,h.get? a=some o
 |.xd fs=>∃mA,h.Ns1 a mA/\∀f,QAw (fs.lookup f) (mA f)
 |.rng lo hi=>∃t u v,h.get? a=some { cls:=.type "range",data:=.fields #[.int lo t,.int hi u,.int 1 v] }
 |.frz o u=>h.get? a=some o/\ObjOk H h a u
 |.tbl ps=>h.get? a=some { cls:=.none,data:=.fields ps }
 |.met f x=>h.get? a=some (PySem.W.methodObj (.ref f) (.ref x))
 |.ext φ=>φ h/\(∃o,h.get? a=some o)/\∀h1 h2:Heap,φ h1->(∀o,h1.get? a=some o->h2.get? a=some o)->φ h2
def HOk(H:Hp)(h:Heap):Prop:=∀a o,H a=some o->ObjOk P w H h a o
end
section
variable{P:QC}{w:Jf}{H H':Hp}{h h':Heap}{a:Addr}{o:HO}
theorem ObjOk.lt(x:ObjOk P w H h a o):a<h.objs.size:=by
 cases o with
 |lst xs=>obtain⟨_,_,_,_,e⟩:=x;exact Qj e
 |tup xs=>obtain⟨_,_,_,p⟩:=x;exact p.lt
 |dK kvs=>obtain⟨_,_,_,_,o,_,_,e,_⟩:=x;exact Qj e
 |dT kvs=>obtain⟨_,_,_,_,o,_,_,e,_⟩:=x;exact Qj e
 |set S n=>obtain⟨o,_,_,_,e,_⟩:=x;exact Qj e
 |ins C dx fs=>obtain⟨_,_,_,e,_⟩:=x;exact Qj e
 |own y=>obtain⟨_,e⟩:=x;exact Qj e
 |xd fs=>obtain⟨_,⟨_,_,_,e,_⟩,_⟩:=x;exact Qj e
 |rng lo hi=>obtain⟨_,_,_,e⟩:=x;exact Qj e
 |frz ob u=>obtain⟨e,_⟩:=x;exact Qj e
 |tbl ps=>exact Qj (show h.get? a=some _ from x)
 |met f y=>exact Qj (show h.get? a=some _ from x)
 |ext φ=>obtain⟨_,⟨_,e⟩,_⟩:=x;exact Qj e
theorem Qa9.mapP{α β:Type}{F G:α->β->Prop}:∀{l₁:List α}{l₂:List β},Qa9 F l₁ l₂->(∀a b,F a b->G a b)->Qa9 G l₁ l₂
 |_,_,.nil,_=>.nil
 |_,_,.cons r t,f=>.cons (f _ _ r) (Qa9.mapP t f)
theorem ObjOk.stay(x:ObjOk P w H h a o)(k:∀b u,(b=a∨H b=some (.own a))->h.get? b=some u->h'.get? b=some u)
  (ho:∀b,H b=some (.own a)->H' b=some (.own a))(ht:∀b xs,H b=some (.tup xs)->H' b=some (.tup xs)):ObjOk P w H' h' a o:=by
 induction o with
 |lst xs=>obtain⟨z,its,n,r,e⟩:=x;exact⟨z,its,n,r,k _ _ (.inl rfl) e⟩
 |tup xs=>obtain⟨z,its,r,ob,e,c⟩:=x;exact⟨z,its,r,ob,k _ _ (.inl rfl) e,c⟩
 |dK kvs=>obtain⟨z,y,vs,r,ob,es,ep,e,c⟩:=x;exact⟨z,y,vs,r,ob,es,ep,k _ _ (.inl rfl) e,c⟩
 |dT kvs=>
  obtain⟨z,y,xs,r,ob,es,ep,e,c⟩:=x;exact⟨z,y,xs,Qa9.mapP r λp q z=>⟨z.1,ht _ _ z.2.1,z.2.2⟩,ob,es,ep,k _ _ (.inl rfl) e,c⟩
 |set S n=>obtain⟨ob,es,ep,t,e,c⟩:=x;exact⟨ob,es,ep,t,k _ _ (.inl rfl) e,c⟩
 |ins C dx fs=>
  obtain⟨d,z,ne,e,mA,⟨od,es,ep,e2,c⟩,r⟩:=x;exact⟨ho _ d,z,ne,k _ _ (.inl rfl) e,mA,⟨od,es,ep,k _ _ (.inr d) e2,c⟩,r⟩
 |own y=>obtain⟨ob,e⟩:=x;exact⟨ob,k _ _ (.inl rfl) e⟩
 |xd fs=>obtain⟨mA,⟨od,es,ep,e,c⟩,r⟩:=x;exact⟨mA,⟨od,es,ep,k _ _ (.inl rfl) e,c⟩,r⟩
 |rng lo hi=>obtain⟨t,u,v,e⟩:=x;exact⟨t,u,v,k _ _ (.inl rfl) e⟩
 |frz ob u ih=>obtain⟨e,q⟩:=x;exact⟨k _ _ (.inl rfl) e,ih q⟩
 |tbl ps=>
  have e:h.get? a=some { cls:=.none,data:=.fields ps }:=x;show h'.get? a=some { cls:=.none,data:=.fields ps };exact k a _ (.inl rfl) e
 |met f y=>
  have e:h.get? a=some (PySem.W.methodObj (.ref f) (.ref y)):=x;show h'.get? a=some (PySem.W.methodObj (.ref f) (.ref y));exact k a _ (.inl rfl) e
 |ext φ=>obtain⟨p,⟨o,e⟩,st⟩:=x;exact⟨st _ _ p λo q=>k _ _ (.inl rfl) q,⟨o,k _ _ (.inl rfl) e⟩,st⟩
theorem HOk.lt(x:HOk P w H h)(e:H a=some o):a<h.objs.size:=(x a o e).lt
theorem HOk.fresh(x:HOk P w H h)(e:h.objs.size<=a):H a=none:=by
 cases q:H a with
 |none=>rfl
 |some u=>exact absurd (QQ (x.lt q) e) (YH _)
theorem HOk.kept(x:HOk P w H h)(k:∀b u,h.get? b=some u->h'.get? b=some u):HOk P w H h':=λa o e=>
 (x a o e).stay (λb u _ q=>k b u q) (λ_ q=>q) λ_ _ q=>q
theorem HOk.laid(x:HOk P w H h)(k:∀b u,h.get? b=some u->h'.get? b=some u)(hp:h.objs.size<=a)(new:ObjOk P w (upd H a o) h' a o):HOk P w (upd H a o) h':=λb u e=>by
 have hn:=x.fresh hp;by_cases hb:b=a
 ·subst hb;rw[Jz] at e;cases e;exact new
 ·rw[JX hb] at e;exact(x b u e).stay (λc v _ q=>k c v q) (λc q=>by rw[JX (Z2 q hn)];exact q) λc xs q=>by rw[JX (Z2 q hn)];exact q
end
def Rd(H:Hp)(a:Addr)(u:HO):Prop:=H a=some u∨∃o,H a=some (.frz o u)
theorem Rd.ok{P:QC}{w:Jf}{H:Hp}{h:Heap}{a:Addr}{u:HO}(r:Rd H a u)(x:HOk P w H h):ObjOk P w H h a u:=by
 rcases r with r | ⟨o,r⟩
 ·exact x a u r
 ·obtain⟨_,q⟩:=x a _ r;exact q
def Mut:Option HO->Prop
 |some (.lst _)=>True
 |some (.dK _)=>True
 |some (.dT _)=>True
 |some (.set _ _)=>True
 |some (.ins _ _ _)=>True
 |some (.ext _)=>True
 |_=>False
section
variable{P:QC}{w:Jf}{H:Hp}{h h':Heap}{x e:Addr}{o':HO}
theorem HOk.write(ok:HOk P w H h)(mu:Mut (H x))(he:e=x∨H e=some (.own x))(k:∀b u,b≠e->h.get? b=some u->h'.get? b=some u)(heo:∃u,h'.get? e=some u)
  (new:ObjOk P w (upd H x o') h' x o'):HOk P w (upd H x o') h':=λb u q=>by
 have nown:∀c y,H c=some (.own y)->c≠x:=λc y r z=>by subst z;rw[r] at mu;exact mu
 have ntup:∀c xs,H c=some (.tup xs)->c≠x:=λc xs r z=>by subst z;rw[r] at mu;exact mu
 by_cases hb:b=x
 ·subst hb;rw[Jz] at q;cases q;exact new
 ·rw[JX hb] at q;by_cases hbe:b=e
  ·have q':H b=some (.own x):=by
    rcases he with z | z
    ·exact absurd (hbe.trans z) hb
    ·rw[hbe];exact z
   rw[q] at q';cases q';obtain⟨v,hv⟩:=heo;exact⟨v,by rw[hbe];exact hv⟩
  ·refine(ok b u q).stay (λc v hc r=>k c v ?_ r) (λc r=>by rw[JX (nown c b r)];exact r) λc xs r=>by rw[JX (ntup c xs r)];exact r
   rcases hc with rfl | hc
   ·exact hbe
   ·rintro rfl;rcases he with z | z
    ·exact nown c b hc z
    ·rw[hc] at z;cases z;exact hb rfl
end
structure Un (fs ex:List Addr) (H H':Hp) (h h':Heap):Prop where
 keep:∀b o,h.get? b=some o->H b=none->b∉fs->b∉ex->h'.get? b=some o
 slot:∀b o,h.get? b=some o->H b=none->b∈fs->b∉ex->∃sl,h'.get? b=some { o with slots:=sl }
 free:∀b o,h.get? b=some o->H b=none->b∉ex->H' b=none
 there:∀b o,h.get? b=some o->b∉ex->∃o',h'.get? b=some o'
 tups:∀b xs,H b=some (.tup xs)->H' b=some (.tup xs)
 frzs:∀b o u,H b=some (.frz o u)->H' b=some (.frz o u)
 tbls:∀b ps,H b=some (.tbl ps)->∃more,H' b=some (.tbl (ps++more))
section
variable{fs fs' ex ex':List Addr}{H H1 H2:Hp}{h h1 h2 h':Heap}{a x e:Addr}{o:HO}
theorem Un.any(u:Un fs ex H H1 h h1){b:Addr}{ob:Obj}(q:h.get? b=some ob)(n:H b=none)(hx:b∉ex):∃sl,h1.get? b=some { ob with slots:=sl }:=by
 by_cases hb:b∈fs
 ·exact u.slot b ob q n hb hx
 ·exact⟨ob.slots,u.keep b ob q n hb hx⟩
theorem Un.kept(k:∀b u,h.get? b=some u->h'.get? b=some u):Un fs ex H H h h':=
 ⟨λb ob q _ _ _=>k b ob q,λb ob q _ _ _=>⟨ob.slots,k b ob q⟩,λ_ _ _ n _=>n,λb ob q _=>⟨ob,k b ob q⟩,λ_ _ q=>q,λ_ _ _ q=>q,λ_ ps q=>⟨#[],by rw[q];simp⟩⟩
theorem Un.refl:Un fs ex H H h h:=Un.kept λ_ _ q=>q
theorem Un.laid(k:∀b u,h.get? b=some u->h'.get? b=some u)(hp:h.objs.size<=a)(hn:H a=none):Un fs ex H (upd H a o) h h' where
 keep:=λb u q _ _ _=>k b u q
 slot:=λb u q _ _ _=>⟨u.slots,k b u q⟩
 free:=λb u q n _=>by rw[JX (QD (QQ (Qj q) hp))];exact n
 there:=λb u q _=>⟨u,k b u q⟩
 tups:=λb xs q=>by rw[JX (Z2 q hn)];exact q
 frzs:=λb u xs q=>by rw[JX (Z2 q hn)];exact q
 tbls:=λb ps q=>⟨#[],by rw[JX (Z2 q hn),q];simp⟩
theorem Un.write(mu:Mut (H x))(he:e=x∨H e=some (.own x))(k:∀b u,b≠e->h.get? b=some u->h'.get? b=some u)(heo:∃u,h'.get? e=some u):Un fs ex H (upd H x o) h h':=by
 have hx:∀b,H b=none->b≠x:=λb n z=>by subst z;rw[n] at mu;exact mu
 have hb:∀b,H b=none->b≠e:=λb n z=>by
  subst z;rcases he with r | r
  ·exact hx b n r
  ·rw[n] at r;cases r
 have hm:∀b u,H b=some u->¬Mut (some u)->b≠x:=λb u q nm z=>by subst z;rw[q] at mu;exact nm mu
 refine⟨λb u q n _ _=>k b u (hb b n) q,λb u q n _ _=>⟨u.slots,k b u (hb b n) q⟩,λb u q n _=>by rw[JX (hx b n)];exact n,λb u q _=>?_,
  λb xs q=>by rw[JX (hm b _ q λz=>z)];exact q,λb u xs q=>by rw[JX (hm b _ q λz=>z)];exact q,λb ps q=>⟨#[],by rw[JX (hm b _ q λz=>z),q];simp⟩⟩
 by_cases hbe:b=e
 ·subst hbe;exact heo
 ·exact⟨u,k b u hbe q⟩
end
def trk(h:Heap)(H:Hp):List Addr:=(Qp h.objs.size).filter λa=>(H a).isSome
def Qp3(h:Heap)(H:Hp):Heap:=PySem.W.hideAll h (trk h H)
theorem Qm9(h:Heap)(H:Hp):(Qp3 h H).objs.size=h.objs.size:=PySem.W.hideAll_size _ _
theorem Qp2{h:Heap}{H:Hp}{b:Addr}{o:Obj}(e:h.get? b=some o)(n:H b=none):(Qp3 h H).get? b=some o:=
 PySem.W.hideAll_get _ e λhm=>by
  have q:(H b).isSome=true:=(Qz.mp hm).2;rw[n] at q;simp at q
theorem Qul{h:Heap}{H:Hp}{b:Addr}{o:Obj}(e:(Qp3 h H).get? b=some o):h.get? b=some o/\H b=none:=by
 have e':h.get? b=some o:=PySem.W.of_hideAll (trk h H) e;refine⟨e',?_⟩;cases q:H b with
 |none=>rfl
 |some x=>
  have hm:b∈trk h H:=Qz.mpr ⟨QM.mpr (Qj e'),by simp[q]⟩;have z:(Qp3 h H).get? b=none:=PySem.W.hideAll_none (trk h H) hm;rw[z] at e;cases e
def Qvf(g h:Heap)(L:Addr):List (Addr×Obj):=(Qp h.objs.size).filterMap λa=>if a=L∨(g.get? a).isSome=true then none else(h.get? a).map λo=>(a,o)
def rest(g h:Heap)(L d:Addr):List (Addr×Obj):=(Qvf g h L).filter λp=>decide (p.1≠d)
structure Mod (K:PySem.W.Frag) (mg:Str->Option Value) (base:Heap):Prop where
 kin:K.In base
 glob:base.Ns mainGlobals mg
 blt:∃mb,base.Ns builtinsNs mb/\∀x:Str,x ≠ "__name__" -> mb x=bootBuiltins x
 nolimit:base.NoLimit
structure Cx where
 prog:QC
 w:Jf
 K:PySem.W.Frag
 mg:Str->Option Value
 base:Heap
 A:Ja
 N:List Str
 s₀:Shared
 H₀:Hp
 env:Env
 outer:List Env
 stack:List Env
 ex:List Addr
 fn:Str->Bool
 calm:Bool
 pn:List (Addr×Obj)
 xe:Value->Shared->Prop
def frs(l:List Env):List Addr:=l.filterMap (·.frame)
abbrev Cx.fs (X:Cx):List Addr:=frs X.outer
def Vis(sc:YV)(x:Str):Prop:=sc.names.lookup x=some .local∨sc.names.lookup x=some .cell∨sc.names.lookup x=some .free
def Loc(sc:YV)(x:Str):Prop:=sc.names.lookup x=some .local∨sc.names.lookup x=some .cell
def Look(env:Env)(h:Heap)(m:Str->Option Value)(x:Str)(u:Value):Prop:=
 (env.kindOf x=some .local/\m x=some u)∨((env.kindOf x=some .cell∨env.kindOf x=some .free)/\∃c,env.cells.lookup x=some c/\h.IsCell c (some u))
structure Cx.Ok (X:Cx):Prop where
 mod:Mod X.K X.mg X.base
 kind:X.env.scope.kind=.function
 glob:X.env.globals=mainGlobals
 blt:X.env.builtins=builtinsNs
 above:X.s₀.heap.objs.size<=X.env.locals
 inj:∀x y c,X.env.cells.lookup x=some c->X.env.cells.lookup y=some c->x=y
 has:∀x,(X.env.kindOf x=some .cell∨X.env.kindOf x=some .free)->∃c,X.env.cells.lookup x=some c
 cab:∀x c,X.fn x=true->X.env.cells.lookup x=some c->X.s₀.heap.objs.size<=c
 hd:X.calm=true->X.A.handled=none
 frames:X.A.frames=some X.stack
 stk:X.stack=X.outer∨(X.stack=X.env::X.outer/\X.env.frame=some X.env.locals)
 exf:∀b∈X.ex,b≠X.env.locals/\∀x c,X.env.cells.lookup x=some c->c≠b
 bs:∀b o,X.base.get? b=some o->X.s₀.heap.get? b=some o/\X.H₀ b=none
 bsz:X.base.objs.size<=X.s₀.heap.objs.size
 noex:∀b o,X.base.get? b=some o->b∉X.ex
 exfs:∀b∈X.ex,b∉X.fs
 funs:X.s₀.heap.FunFrames X.base X.outer
 frf:∀b∈X.fs,X.H₀ b=none
structure Inv (X:Cx) (pins:List (Addr×Obj)) (σ:List (Option V)) (H:Hp) (s:Shared):Prop where
 ok:X.Ok
 os:s.os=X.s₀.os
 bare:QeX s.gens
 base:Un X.fs X.ex X.H₀ H X.s₀.heap s.heap
 loc:∃m,s.heap.Ns X.env.locals m/\∀(i:Nat)(x:Str)(v:V),X.N[i]? = some x->σ[i]? = some (some v)->Vis X.env.scope x->∃u,RelV v u/\Look X.env s.heap m x u
 cell:∀x c,X.env.cells.lookup x=some c->∃v,s.heap.IsCell c v
 free:H X.env.locals=none
 freeC:∀x c,X.env.cells.lookup x=some c->H c=none
 pin:∀p∈X.pn++pins,s.heap.get? p.1=some p.2/\H p.1=none/\p.1≠X.env.locals/\p.1∉X.fs/\∀v,p.2.data≠.cell v
 hok:HOk X.prog X.w H s.heap
 len:σ.length=X.N.length
section
variable{X:Cx}{pins:List (Addr×Obj)}{σ:List (Option V)}{H H':Hp}{s:Shared}{h':Heap}
theorem Cx.Ok.nofr(ok:X.Ok){b:Addr}{o:Obj}(e:X.base.get? b=some o):b∉X.fs:=λhb=>by
 have:=(ok.funs.mem hb).1;rw[e] at this;cases this
theorem Inv.bs(I:Inv X pins σ H s):∀b o,X.base.get? b=some o->s.heap.get? b=some o/\H b=none:=λb o e=>
 ⟨I.base.keep b o (I.ok.bs b o e).1 (I.ok.bs b o e).2 (I.ok.nofr e) (I.ok.noex b o e),I.base.free b o (I.ok.bs b o e).1 (I.ok.bs b o e).2 (I.ok.noex b o e)⟩
theorem Inv.bk(I:Inv X pins σ H s):∀b o,X.base.get? b=some o->s.heap.get? b=some o:=λb o e=>(I.bs b o e).1
theorem Inv.mod(I:Inv X pins σ H s):Mod X.K X.mg X.base:=I.ok.mod
theorem Inv.kIn(I:Inv X pins σ H s):X.K.In s.heap:=I.ok.mod.kin.keeps I.bk
theorem Inv.fr(I:Inv X pins σ H s):∃m,Fr X.base X.env.locals s.heap m:=
 let ⟨m,hn,_⟩:=I.loc
 ⟨m,hn,I.bk,QX I.ok.bsz I.ok.above⟩
theorem Inv.lt(I:Inv X pins σ H s):X.env.locals<s.heap.objs.size:=let ⟨_,hn,_⟩:=I.loc;hn.lt
theorem Inv.sz(I:Inv X pins σ H s):X.s₀.heap.objs.size<=s.heap.objs.size:=QX I.ok.above (ZQ I.lt)
theorem Inv.nofs(I:Inv X pins σ H s){a:Addr}(h:s.heap.objs.size<=a):a∉X.fs:=λhb=>by
 obtain⟨_,o,ho,_⟩:=I.ok.funs.mem hb;exact absurd (QQ (Qj ho) (QX I.sz h)) (YH _)
theorem Inv.cne(I:Inv X pins σ H s):∀x c,X.env.cells.lookup x=some c->c≠X.env.locals:=λx c e z=>by
 obtain⟨v,o,ho,hd⟩:=I.cell x c e;obtain⟨m,⟨o',es,ep,ho',hd',_⟩,_⟩:=I.loc;rw[z,ho'] at ho;cases ho;rw[hd'] at hd;cases hd
theorem Inv.funs(I:Inv X pins σ H s):s.heap.FunFrames X.base X.outer:=by
 have all:∀(l:List Env),(∀b∈frs l,b∈X.fs)->X.s₀.heap.FunFrames X.base l->s.heap.FunFrames X.base l:=by
  intro l;induction l with
  |nil=>intro _ _;trivial
  |cons env r ih=>
   intro hs hl;obtain⟨hk,⟨L,o,hf,hn,ho,hd⟩,hr⟩:=hl;have hL:L∈X.fs:=hs L (by unfold frs;rw[Qa1,hf];exact ZD);obtain⟨sl,e⟩:=I.base.slot L o ho (I.ok.frf L hL) hL λz=>I.ok.exfs L z hL
   exact⟨hk,⟨L,_,hf,hn,e,hd⟩,ih (λb hb=>hs b (by unfold frs;rw[Qa1,hf];exact JS _ hb)) hr⟩
 exact all X.outer (λ_ hb=>hb) I.ok.funs
theorem Inv.stack(I:Inv X pins σ H s):s.heap.FunFrames X.base X.stack:=by
 rcases I.ok.stk with e | ⟨e,hf⟩
 ·rw[e];exact I.funs
 ·rw[e];obtain⟨m,hn,_⟩:=I.loc;refine .cons (by rw[I.ok.kind];decide) hf hn ?_ I.funs
  exact Heap.get?_none_of_le (QX I.ok.bsz I.ok.above)
theorem Inv.stkSub(I:Inv X pins σ H s):∀b∈frs X.stack,b∈X.env.locals::X.fs:=λb hb=>by
 rcases I.ok.stk with e | ⟨e,hf⟩
 ·rw[e] at hb;exact JS _ hb
 ·rw[e] at hb;unfold frs at hb;rw[Qa1,hf] at hb;exact hb
theorem Inv.stkFree(I:Inv X pins σ H s):∀b∈frs X.stack,H b=none:=λb hb=>by
 rcases Qy.mp (I.stkSub b hb) with e | hb
 ·rw[e];exact I.free
 ·obtain⟨_,o,ho,_⟩:=I.ok.funs.mem hb;exact I.base.free b o ho (I.ok.frf b hb) λz=>I.ok.exfs b z hb
theorem Inv.step{g':Array GenState}{t':Nat}{d':Drawn}{ch:List Addr}(I:Inv X pins σ H s)
  (hch:∀b∈ch,(b∈X.ex∨X.s₀.heap.objs.size<=b)/\b≠X.env.locals/\(∀x c,X.env.cells.lookup x=some c->c≠b)/\∀p∈X.pn++pins,p.1≠b)
  (keep:∀b o,b≠X.env.locals->b∉X.fs->b∉ch->s.heap.get? b=some o->H b=none->h'.get? b=some o)
  (slot:∀b o,b≠X.env.locals->b∈X.fs->b∉ch->s.heap.get? b=some o->H b=none->∃sl,h'.get? b=some { o with slots:=sl })(free:∀b o,b∉ch->s.heap.get? b=some o->H b=none->H' b=none)
  (there:∀b o,b∉ch->s.heap.get? b=some o->∃o',h'.get? b=some o')
  (tups:∀b xs,H b=some (.tup xs)->H' b=some (.tup xs))(frzs:∀b o u,H b=some (.frz o u)->H' b=some (.frz o u))(tbls:∀b ps,H b=some (.tbl ps)->∃more,H' b=some (.tbl (ps++more)))
  (ns:∀m,s.heap.Ns X.env.locals m->h'.Ns X.env.locals m)(hok:HOk X.prog X.w H' h')(hg:QeX g') :
  Inv X pins σ H' { s with heap:=h',gens:=g',drawn:=d',toks:=t' }:=by
 have neL:∀b o,X.s₀.heap.get? b=some o->b≠X.env.locals:=λb o e=>QD (QQ (Qj e) I.ok.above)
 have neC:∀b o,X.s₀.heap.get? b=some o->b∉X.ex->b∉ch:=λb o e hx hb=>by
  rcases(hch b hb).1 with z | z
  ·exact hx z
  ·exact absurd (QQ (Qj e) z) (YH _)
 have cellK:∀x c,X.env.cells.lookup x=some c->∀v,s.heap.IsCell c v->h'.IsCell c v:=λx c e v ⟨o,ho,hd⟩=>by
  have nch:c∉ch:=λz=>(hch c z).2.2.1 x c e rfl
  by_cases hc:c∈X.fs
  ·obtain⟨sl,q⟩:=slot c o (I.cne x c e) hc nch ho (I.freeC x c e);exact⟨_,q,hd⟩
  ·exact⟨o,keep c o (I.cne x c e) hc nch ho (I.freeC x c e),hd⟩
 refine⟨I.ok,I.os,hg,⟨λb o e n hb hx=>?_,λb o e n hb hx=>?_,λb o e n hx=>?_,λb o e hx=>?_,λb xs e=>tups b xs (I.base.tups b xs e),λb o xs e=>frzs b o xs (I.base.frzs b o xs e),λb ps e=>?_⟩,?_,λx c e=>?_,?_,λx c e=>?_,λp hp=>?_,hok,I.len⟩
 ·exact keep b o (neL b o e) hb (neC b o e hx) (I.base.keep b o e n hb hx) (I.base.free b o e n hx)
 ·obtain⟨sl,e1⟩:=I.base.slot b o e n hb hx;obtain⟨sl',e2⟩:=slot b _ (neL b o e) hb (neC b o e hx) e1 (I.base.free b o e n hx);exact⟨sl',e2⟩
 ·obtain⟨o',e1⟩:=I.base.there b o e hx;exact free b o' (neC b o e hx) e1 (I.base.free b o e n hx)
 ·obtain⟨o',e1⟩:=I.base.there b o e hx;exact there b o' (neC b o e hx) e1
 ·obtain⟨m1,e1⟩:=I.base.tbls b ps e;obtain⟨m2,e2⟩:=tbls b _ e1;exact⟨m1++m2,by rw[e2,Array.append_assoc]⟩
 ·obtain⟨m,hn,hl⟩:=I.loc;refine⟨m,ns m hn,λi x v e1 e2 e3=>?_⟩;obtain⟨u,r,l⟩:=hl i x v e1 e2 e3;refine⟨u,r,?_⟩;rcases l with l | ⟨k,c,e,z⟩
  ·exact .inl l
  ·exact .inr ⟨k,c,e,cellK x c e _ z⟩
 ·obtain⟨v,z⟩:=I.cell x c e;exact⟨v,cellK x c e v z⟩
 ·obtain⟨m,⟨o,_,_,ho,_⟩,_⟩:=I.loc;exact free _ o (λz=>(hch _ z).2.1 rfl) ho I.free
 ·obtain⟨v,o,ho,hd⟩:=I.cell x c e;exact free c o (λz=>(hch c z).2.2.1 x c e rfl) ho (I.freeC x c e)
 ·obtain⟨e,n,ne,nf,d⟩:=I.pin p hp;have nch:p.1∉ch:=λz=>(hch p.1 z).2.2.2 p hp rfl
  exact⟨keep p.1 p.2 ne nf nch e n,free p.1 p.2 nch e n,ne,nf,d⟩
theorem Inv.un{t':Nat}(I:Inv X pins σ H s)(u:Un X.fs [] H H' s.heap h')(hok:HOk X.prog X.w H' h'):Inv X pins σ H' { s with heap:=h',toks:=t' }:=by
 obtain⟨m,⟨o,es,ep,ho,r⟩,_⟩:=id I.loc;obtain⟨sl,hL⟩:=u.any ho I.free (by simp);exact I.step (g':=s.gens) (d':=s.drawn) (ch:=[]) (λ_ z=>nomatch z) (λb o _ hb _ e n=>u.keep b o e n hb (by simp)) (λb o _ hb _ e n=>u.slot b o e n hb (by simp)) (λb o _ e n=>u.free b o e n (by simp)) (λb o _ e=>u.there b o e (by simp)) u.tups u.frzs u.tbls (λm' hm=>by
  obtain⟨o',es',ep',ho',r'⟩:=hm;rw[ho] at ho';cases ho';exact⟨_,es',ep',hL,r'⟩) hok I.bare
theorem Inv.call{g':Array GenState}{t':Nat}{d':Drawn}{ch:List Addr}(I:Inv X pins σ H s)(u:Un (frs X.stack) ch H H' s.heap h')(hok:HOk X.prog X.w H' h')(hg:QeX g')
  (hch:∀b∈ch,(b∈X.ex∨X.s₀.heap.objs.size<=b)/\b≠X.env.locals/\(∀x c,X.env.cells.lookup x=some c->c≠b)/\∀p∈X.pn++pins,p.1≠b) :
  Inv X pins σ H' { s with heap:=h',gens:=g',drawn:=d',toks:=t' }:=by
 obtain⟨m,⟨o,es,ep,ho,r⟩,_⟩:=id I.loc;obtain⟨sl,hL⟩:=u.any ho I.free λz=>(hch _ z).2.1 rfl
 exact I.step (ch:=ch) hch (λb o hL hb hc e n=>u.keep b o e n (λz=>(Qy.mp (I.stkSub b z)).elim hL hb) hc) (λb o _ _ hc e n=>u.any e n hc) (λb o hc e n=>u.free b o e n hc) (λb o hc e=>u.there b o e hc) u.tups u.frzs u.tbls (λm' hm=>by
  obtain⟨o',es',ep',ho',r'⟩:=hm;rw[ho] at ho';cases ho';exact⟨_,es',ep',hL,r'⟩) hok hg
theorem Inv.turned{t':Nat}{it:Addr}(I:Inv X pins σ H s)(k:∀b o,b≠it->s.heap.get? b=some o->h'.get? b=some o)(hn:H it=none)(hL:it≠X.env.locals)
  (h1:it∈X.ex∨X.s₀.heap.objs.size<=it)(h2:∀x c,X.env.cells.lookup x=some c->c≠it)(h3:∀p∈X.pn++pins,p.1≠it):Inv X pins σ H { s with heap:=h',toks:=t' }:=by
 have nit:∀b u,H b=some u->b≠it:=λb u e z=>by rw[z,hn] at e;cases e
 refine I.step (g':=s.gens) (d':=s.drawn) (ch:=[it]) (λb hb=>?_) (λb o _ _ hc e _=>k b o (λz=>hc (by simp[z])) e) (λb o _ _ hc e _=>⟨o.slots,k b o (λz=>hc (by simp[z])) e⟩) (λ_ _ _ _ n=>n)
  (λb o hc e=>⟨o,k b o (λz=>hc (by simp[z])) e⟩) (λ_ _ e=>e) (λ_ _ _ e=>e) (λb ps e=>⟨#[],by rw[e];simp⟩) (λm hm=>?_) (λb u e=>?_) I.bare
 ·have e:b=it:=by simpa using hb
  subst e;exact⟨h1,hL,h2,h3⟩
 ·obtain⟨o,es,ep,ho,r⟩:=hm;exact⟨o,es,ep,k _ o (Qbv hL) ho,r⟩
 ·refine(I.hok b u e).stay (λc v hc q=>k c v ?_ q) (λ_ q=>q) λ_ _ q=>q
  rcases hc with z | z
  ·rw[z];exact nit b u e
  ·exact nit c _ z
theorem Inv.tok(I:Inv X pins σ H s)(t:Nat):Inv X pins σ H { s with toks:=t }:=I.un (h':=s.heap) (t':=t) Un.refl I.hok
theorem Inv.kept{t':Nat}(I:Inv X pins σ H s)(k:∀b u,s.heap.get? b=some u->h'.get? b=some u):Inv X pins σ H { s with heap:=h',toks:=t' }:=I.un (Un.kept k) (I.hok.kept k)
theorem Inv.laid{a:Addr}{o:HO}{t':Nat}(I:Inv X pins σ H s)(k:∀b u,s.heap.get? b=some u->h'.get? b=some u)(hp:s.heap.objs.size<=a)(new:ObjOk X.prog X.w (upd H a o) h' a o) :
  Inv X pins σ (upd H a o) { s with heap:=h',toks:=t' }:=I.un (Un.laid k hp (I.hok.fresh hp)) (I.hok.laid k hp new)
theorem Inv.write{x e:Addr}{o:HO}{t':Nat}(I:Inv X pins σ H s)(mu:Mut (H x))(he:e=x∨H e=some (.own x))(k:∀b u,b≠e->s.heap.get? b=some u->h'.get? b=some u)(heo:∃u,h'.get? e=some u)
  (new:ObjOk X.prog X.w (upd H x o) h' x o):Inv X pins σ (upd H x o) { s with heap:=h',toks:=t' }:=I.un (Un.write mu he k heo) (I.hok.write mu he k heo new)
theorem Inv.weak{σ':List (Option V)}(I:Inv X pins σ H s)(hl:σ'.length=σ.length)(w:∀(i:Nat) v,σ'[i]? = some (some v)->σ[i]? = some (some v)):Inv X pins σ' H s:=
 ⟨I.ok,I.os,I.bare,I.base,let ⟨m,hn,hl'⟩:=I.loc;⟨m,hn,λi x v e1 e2 e3=>hl' i x v e1 (w i v e2) e3⟩,I.cell,I.free,I.freeC,I.pin,I.hok,hl.trans I.len⟩
theorem Inv.pins_of{pins':List (Addr×Obj)}(I:Inv X pins σ H s)(h:∀p∈pins',s.heap.get? p.1=some p.2/\H p.1=none/\p.1≠X.env.locals/\p.1∉X.fs/\∀v,p.2.data≠.cell v):Inv X pins' σ H s:=
 ⟨I.ok,I.os,I.bare,I.base,I.loc,I.cell,I.free,I.freeC,λp hp=>(Q0.mp hp).elim (λz=>I.pin p (JT _ z)) (h p),I.hok,I.len⟩
theorem Qjs{N:List Str}(hN:N.Nodup){i j:Nat}{x:Str}(a:N[i]? = some x)(b:N[j]? = some x):i=j:=by
 obtain⟨h1,e1⟩:=QU.mp a;obtain⟨h2,e2⟩:=QU.mp b;exact(QsD hN).mp (e1.trans e2.symm)
theorem QgZ{M:Model}{A:Ja}{E:Value->Shared->Prop}{i:Nat}{x:Str}{v:V}{u:Value}{Q:Unit->Shared->Prop}(I:Inv X pins σ H s)(hN:X.N.Nodup)(hi:X.N[i]? = some x)(hx:Loc X.env.scope x)(r:RelV v u)
  (h:∀s',Inv X pins (σ.set i (some v)) H s'->(∃a,Qax a s.heap s'.heap/\(a=X.env.locals∨X.env.cells.lookup x=some a))->Q () s')(hf:X.fn x=true∨X.env.scope.names.lookup x=some .local:=by first | exact .inl rfl | exact .inr rfl | assumption):wpAny M A (storeName X.env x u) Q E s:=by
 obtain⟨m,hn,hl⟩:=id I.loc;have hcls:(X.env.scope.kind == .class||(X.env.scope.kind == .module&&X.env.locals != X.env.globals))=false:=by rw[I.ok.kind];rfl
 have hiσ:i < σ.length:=by rw[I.len];exact(QU.mp hi).1
 have cne:=I.cne;have tracked:∀{a:Addr}{h':Heap},(∃o,s.heap.get? a=some o/\H a=none)->Qax a s.heap h'->HOk X.prog X.w H h':=λ{a h'} ha hs b ob e=>by
  obtain⟨_,_,hfree⟩:=ha;refine(I.hok b ob e).stay (λc w' hc q=>(hs.2 c ?_).trans q) (λ_ q=>q) λ_ _ q=>q
  rintro rfl;rcases hc with rfl | hc
  ·rw[hfree] at e;cases e
  ·rw[hfree] at hc;cases hc
 rcases hx with hk | hk
 ·refine wpAny_storeName_local hk hn (λh' hn' hs=>?_) hcls;obtain⟨oL,_,_,hoL,_⟩:=id hn;refine h _ ⟨I.ok,I.os,I.bare,⟨λb o e n hb hx=>?_,λb o e n hb hx=>?_,I.base.free,λb o e hx=>?_,I.base.tups,I.base.frzs,I.base.tbls⟩,⟨_,hn',λj y v' e1 e2 e3=>?_⟩,λy c e=>?_,I.free,I.freeC,λp hp=>?_,tracked ⟨oL,hoL,I.free⟩ hs,by simpa using I.len⟩ ⟨_,hs,.inl rfl⟩
  ·exact(hs.2 b (QD (QQ (Qj e) I.ok.above))).trans (I.base.keep b o e n hb hx)
  ·obtain⟨sl,e1⟩:=I.base.slot b o e n hb hx;exact⟨sl,(hs.2 b (QD (QQ (Qj e) I.ok.above))).trans e1⟩
  ·obtain⟨o',e1⟩:=I.base.there b o e hx;exact⟨o',(hs.2 b (QD (QQ (Qj e) I.ok.above))).trans e1⟩
  ·by_cases hj:j=i
   ·subst hj;rw[hi] at e1;cases e1;rw[Qb8 hiσ] at e2;cases e2;exact⟨u,r,.inl ⟨hk,by simp⟩⟩
   ·rw[QcR (Qbv hj)] at e2;obtain⟨u',r',q⟩:=hl j y v' e1 e2 e3;refine⟨u',r',?_⟩;rcases q with⟨k,e⟩ | ⟨k,c,e,z⟩
    ·refine .inl ⟨k,?_⟩;have:y≠x:=λe=>hj (Qjs hN e1 (e ▸ hi))
     simp[this,e]
    ·exact .inr ⟨k,c,e,z.sameBut hs (cne y c e)⟩
  ·obtain⟨w',z⟩:=I.cell y c e;exact⟨w',z.sameBut hs (cne y c e)⟩
  ·obtain⟨e,n,ne,nf,d⟩:=I.pin p hp;exact⟨(hs.2 p.1 ne).trans e,n,ne,nf,d⟩
 ·have hfn:X.fn x=true:=by
   rcases hf with z | z
   ·exact z
   ·rw[z] at hk;cases hk
  obtain⟨c,hc⟩:=I.ok.has x (.inl hk);obtain⟨w',z⟩:=I.cell x c hc;refine wpAny_storeName_cell I.ok.kind hk hc z (λh' hc' hs=>?_);obtain⟨oc,hoc,hocd⟩:=id z;refine h { s with heap:=h' } ⟨I.ok,I.os,I.bare,⟨λb o e n hb hx=>?_,λb o e n hb hx=>?_,I.base.free,λb o e hx=>?_,I.base.tups,I.base.frzs,I.base.tbls⟩,⟨m,hn.sameBut hs (Qbv (cne x c hc)),λj y v' e1 e2 e3=>?_⟩,λy c' e=>?_,I.free,I.freeC,λp hp=>?_,tracked ⟨oc,hoc,I.freeC x c hc⟩ hs,by simpa using I.len⟩ ⟨c,hs,.inr hc⟩
  ·exact(hs.2 b (QD (QQ (Qj e) (I.ok.cab x c hfn hc)))).trans (I.base.keep b o e n hb hx)
  ·obtain⟨sl,e1⟩:=I.base.slot b o e n hb hx;exact⟨sl,(hs.2 b (QD (QQ (Qj e) (I.ok.cab x c hfn hc)))).trans e1⟩
  ·obtain⟨o',e1⟩:=I.base.there b o e hx;exact⟨o',(hs.2 b (QD (QQ (Qj e) (I.ok.cab x c hfn hc)))).trans e1⟩
  ·by_cases hj:j=i
   ·subst hj;rw[hi] at e1;cases e1;rw[Qb8 hiσ] at e2;cases e2;exact⟨u,r,.inr ⟨.inl hk,c,hc,hc'⟩⟩
   ·rw[QcR (Qbv hj)] at e2;obtain⟨u',r',q⟩:=hl j y v' e1 e2 e3;refine⟨u',r',?_⟩;rcases q with q | ⟨k,c',e,z'⟩
    ·exact .inl q
    ·refine .inr ⟨k,c',e,z'.sameBut hs ?_⟩;rintro rfl;exact hj (Qjs hN e1 (I.ok.inj _ _ _ e hc ▸ hi))
  ·by_cases hcc:c'=c
   ·subst hcc;exact⟨_,hc'⟩
   ·obtain⟨w2,z2⟩:=I.cell y c' e;exact⟨w2,z2.sameBut hs hcc⟩
  ·obtain⟨e,n,ne,nf,d⟩:=I.pin p hp;refine⟨(hs.2 p.1 ?_).trans e,n,ne,nf,d⟩;intro q;rw[q,hoc] at e;have q':oc=p.2:=QK e;exact d w' (by rw[<- q'];exact hocd)
theorem QfK{M:Model}{A:Ja}{E:Value->Shared->Prop}{i:Nat}{x:Str}{v:V}{u:Value}{Q:Unit->Shared->Prop}(I:Inv X pins σ H s)(hN:X.N.Nodup)(hi:X.N[i]? = some x)(hx:Loc X.env.scope x)(r:RelV v u)
  (h:∀s',Inv X pins (σ.set i (some v)) H s'->Q () s')(hf:X.fn x=true∨X.env.scope.names.lookup x=some .local:=by first | exact .inl rfl | exact .inr rfl | assumption):wpAny M A (storeName X.env x u) Q E s:=
 QgZ I hN hi hx r (λs' I' _=>h s' I') hf
theorem Inv.call'{s':Shared}{ch:List Addr}(I:Inv X pins σ H s)(ho:s'.os=s.os)(u:Un (frs X.stack) ch H H' s.heap s'.heap)(hok:HOk X.prog X.w H' s'.heap)(hg:QeX s'.gens)
  (hch:∀b∈ch,(b∈X.ex∨X.s₀.heap.objs.size<=b)/\b≠X.env.locals/\(∀x c,X.env.cells.lookup x=some c->c≠b)/\∀p∈X.pn++pins,p.1≠b):Inv X pins σ H' s':=by
 obtain⟨h',g',d',t',o'⟩:=s';have e:o'=s.os:=ho;subst e;exact I.call (g':=g') (t':=t') (d':=d') u hok hg hch
end
abbrev XK:=Value->Option Addr->Hp->Prop
abbrev St:=List (Option V)
abbrev VK:=V->Hp->Prop
abbrev TE:=St->Hp->VK->Prop
abbrev TT:=St->Hp->(Bool->Hp->Prop)->Prop
abbrev TA:=St->Hp->(List V->Hp->Prop)->Prop
structure Ends where
 nx:St->Hp->Prop
 rt:VK
 bk:St->Hp->Prop:=λ_ _=>False
 ct:St->Hp->Prop:=λ_ _=>False
abbrev TS:=Ends->St->Hp->Prop
def EP(X:Cx)(pins:List (Addr×Obj))(σ:St)(Q:VK)(u:Value)(s':Shared):Prop:=∃v H',Inv X pins σ H' s'/\RelV v u/\Q v H'
def TP(X:Cx)(pins:List (Addr×Obj))(σ:St)(Q:Bool->Hp->Prop)(b:Bool)(s':Shared):Prop:=∃H',Inv X pins σ H' s'/\Q b H'
def AP(X:Cx)(pins:List (Addr×Obj))(σ:St)(Q:List V->Hp->Prop)(us:List Value)(s':Shared):Prop:=∃vs H',Inv X pins σ H' s'/\Vals vs us/\Q vs H'
def SP(X:Cx)(pins:List (Addr×Obj))(D:Ends)(f:Flow)(s':Shared):Prop:=
 match f with
 |.next=>∃σ' H',Inv X pins σ' H' s'/\D.nx σ' H'
 |.brk=>∃σ' H',Inv X pins σ' H' s'/\D.bk σ' H'
 |.cont=>∃σ' H',Inv X pins σ' H' s'/\D.ct σ' H'
 |.ret u=>∃v σ' H',Inv X pins σ' H' s'/\RelV v u/\D.rt v H'
def PE(X:Cx)(e:Q1)(t:TE):Prop:=
 ∀(pins:List (Addr×Obj))(s:Shared)(σ:St)(H:Hp)(Q:VK),Inv X pins σ H s->t σ H Q->wpAny (model X.prog X.w) X.A (eval e X.env) (EP X pins σ Q) X.xe s
def PT(X:Cx)(e:Q1)(t:TT):Prop:=
 ∀(pins:List (Addr×Obj))(s:Shared)(σ:St)(H:Hp)(Q:Bool->Hp->Prop),Inv X pins σ H s->t σ H Q->wpAny (model X.prog X.w) X.A (isTrue e X.env (eval e X.env)) (TP X pins σ Q) X.xe s
def PW(X:Cx)(e:Q1)(t:TT):Prop:=
 ∀(whole:Sem Value)(pins:List (Addr×Obj))(s:Shared)(σ:St)(H:Hp)(Q:Bool->Hp->Prop),Inv X pins σ H s->t σ H Q->wpAny (model X.prog X.w) X.A (isTrue e X.env whole) (TP X pins σ Q) X.xe s
theorem PW.pt{X:Cx}{e:Q1}{t:TT}(h:PW X e t):PT X e t:=h _
def PA(X:Cx)(es:List Q1)(t:TA):Prop:=
 ∀(pos:Pos)(pins:List (Addr×Obj))(s:Shared)(σ:St)(H:Hp)(Q:List V->Hp->Prop),Inv X pins σ H s->t σ H Q->wpAny (model X.prog X.w) X.A (spliced (backTo pos (starEach es X.env))) (AP X pins σ Q) X.xe s
def PS(X:Cx)(st:ZY)(t:TS):Prop:=
 ∀(pins:List (Addr×Obj))(s:Shared)(σ:St)(H:Hp)(D:Ends),Inv X pins σ H s->t D σ H->wpAny (model X.prog X.w) X.A (exec st X.env) (SP X pins D) X.xe s
def PSs(X:Cx)(st:List ZY)(t:TS):Prop:=
 ∀(pins:List (Addr×Obj))(s:Shared)(σ:St)(H:Hp)(D:Ends),Inv X pins σ H s->t D σ H->wpAny (model X.prog X.w) X.A (execs st X.env) (SP X pins D) X.xe s
theorem thn{α:Type}{t:Sem α}{Q Q':α->Shared->Prop}{M:Model}{A:Ja}{E:Value->Shared->Prop}{s:Shared}(h:wpAny M A t Q E s)(hQ:∀a s,Q a s->Q' a s):wpAny M A t Q' E s:=wpAny_mono h hQ λ_ _ x=>x
section
variable{X:Cx}
def Qh9(i:Nat):TE:=λσ H Q=>∃v,σ[i]? = some (some v)/\Q v H
def tC(v:V):TE:=λ_ H Q=>Q v H
theorem QwC{i:Nat}{x:Str}{pos:Pos}(hN:X.N[i]? = some x)(hv:Vis X.env.scope x)(hd:(x == ("__debug__" : Str))=false:=by decide)(hcd:(x == ("__classdict__" : Str))=false:=by decide):PE X (.Name x pos) (Qh9 i):=by
 intro pins s σ H Q I h;obtain⟨v,e,h⟩:=h;obtain⟨m,hn,hl⟩:=I.loc;obtain⟨u,r,l⟩:=hl i x v hN e hv;have fin:EP X pins σ Q u s:=⟨v,H,I,r,h⟩;rcases l with⟨hk,hm⟩ | ⟨hk,c,hc,hcell⟩
 ·exact QyJ (Qvl I.ok.kind hk hn hm fin) hd
 ·rcases hk with hk | hk
  ·exact QyJ (QvA I.ok.kind hk hc hcell fin) hd
  ·exact QyJ (wpAny_loadName_free I.ok.kind hk hc hcell fin hcd) hd
theorem YE{i j pos}:PE X (.Constant (.int i) j pos) (tC (.int i)):=λ_ _ _ H _ I h=>wpAny_Constant_int ⟨.int i,H,I.tok _,⟨_,rfl⟩,h⟩
theorem QzB{b j pos}:PE X (.Constant (.bool b) j pos) (tC (.bl b)):=λ_ _ _ H _ I h=>Constant_bool ⟨.bl b,H,I,rfl,h⟩
def Gl(X:Cx)(x:Str):Prop:=X.env.kindOf x=some .globalImplicit
theorem Qiz{E:Value->Shared->Prop}{pins:List (Addr×Obj)}{s:Shared}{σ:St}{H:Hp}{x:Str}{u:Value}{pos:Pos}{Q:Value->Shared->Prop}(I:Inv X pins σ H s)(hg:Gl X x)(hm:X.mg x=some u)(h:Q u s)
  (hd:(x == ("__debug__" : Str))=false:=by decide):wpAny (model X.prog X.w) X.A (eval (.Name x pos) X.env) Q E s:=
 QgJ I.ok.kind hg (Calls.loadGlobal_global (by rw[I.ok.glob];exact I.mod.glob.keeps I.bk) hm h) hd
theorem Qca{E:Value->Shared->Prop}{pins:List (Addr×Obj)}{s:Shared}{σ:St}{H:Hp}{x:Str}{u:Value}{pos:Pos}{Q:Value->Shared->Prop}(I:Inv X pins σ H s)(hg:Gl X x)(hm:X.mg x=none)(hv:bootBuiltins x=some u)(h:Q u s)
  (hn:x ≠ "__name__" := by decide)(hd:(x == ("__debug__" : Str))=false:=by decide):wpAny (model X.prog X.w) X.A (eval (.Name x pos) X.env) Q E s:=by
 obtain⟨mb,h1,h2⟩:=I.mod.blt;exact QgJ I.ok.kind hg (Calls.loadGlobal_builtin (by rw[I.ok.glob];exact I.mod.glob.keeps I.bk) hm (by rw[I.ok.blt];exact h1.keeps I.bk) ((h2 x hn).trans hv) h) hd
theorem Qtw{x:Str}{v:V}{u:Value}{pos:Pos}(hg:Gl X x)(hm:X.mg x=some u)(r:RelV v u)(hd:(x == ("__debug__" : Str))=false:=by decide):PE X (.Name x pos) (tC v):=
 λ_ _ _ H _ I h=>Qiz I hg hm ⟨v,H,I,r,h⟩ hd
theorem Qty{x:Str}{v:V}{u:Value}{pos:Pos}(hg:Gl X x)(hm:X.mg x=none)(hv:bootBuiltins x=some u)(r:RelV v u)(hn:x ≠ "__name__" := by decide)(hd:(x == ("__debug__" : Str))=false:=by decide):PE X (.Name x pos) (tC v):=
 λ_ _ _ H _ I h=>Qca I hg hm hv ⟨v,H,I,r,h⟩ hn hd
variable{a b:Q1}{ta tb:TE}{pos:Pos}
def tB(t:TE):TT:=λσ H Q=>t σ H λx H1=>∃c,x=.bl c/\Q c H1
theorem Qwx{e:Q1}{t:TE}(h:PE X e t)(he:∀whole,isTrue e X.env whole=(do let v <- whole;standAt e.pos;holding [v] (truthy v)):=by intro _;rfl):PT X e (tB t):=by
 intro pins s σ H Q I hw;refine isTrue_plain (thn (h pins s σ H _ I hw) λv s1 ⟨x,H1,I1,r1,q1⟩=>?_) (he _);obtain⟨d,rfl,q⟩:=q1;cases r1;exact Zl ⟨H1,I1,q⟩
variable{tA tB':TT}{rest:List Q1}
def QBv(t u:TT):TT:=λσ H Q=>t σ H λc H1=>if c=true then u σ H1 Q else Q false H1
def tOr(t u:TT):TT:=λσ H Q=>t σ H λc H1=>if c=true then Q true H1 else u σ H1 Q
def QBs(t:TT):TT:=λσ H Q=>t σ H λc H1=>Q (!c) H1
theorem Qtj(ha:PT X a tA):PW X (.BoolOp .And [a] pos) tA:=by
 intro wh pins s σ H Q I h;refine isTrue_and (thn (ha pins s σ H Q I h) λc s1 e=>?_);cases c with
 |true=>exact isTrue_and_nil e
 |false=>exact e
theorem Qwv(ha:PT X a tA):PW X (.BoolOp .Or [a] pos) tA:=by
 intro wh pins s σ H Q I h;refine isTrue_or (thn (ha pins s σ H Q I h) λc s1 e=>?_);cases c with
 |false=>exact isTrue_or_nil e
 |true=>exact e
theorem Qww(ha:PT X a tA)(hb:PW X (.BoolOp .And (b::rest) pos) tB'):PW X (.BoolOp .And (a::b::rest) pos) (QBv tA tB'):=by
 intro wh pins s σ H Q I h;refine isTrue_and (thn (ha pins s σ H _ I h) λc s1 ⟨H1,I1,q1⟩=>?_);cases c with
 |true=>exact hb wh pins s1 σ H1 Q I1 q1
 |false=>exact⟨H1,I1,q1⟩
theorem Qzv(ha:PT X a tA)(hb:PW X (.BoolOp .Or (b::rest) pos) tB'):PW X (.BoolOp .Or (a::b::rest) pos) (tOr tA tB'):=by
 intro wh pins s σ H Q I h;refine isTrue_or (thn (ha pins s σ H _ I h) λc s1 ⟨H1,I1,q1⟩=>?_);cases c with
 |true=>exact⟨H1,I1,q1⟩
 |false=>exact hb wh pins s1 σ H1 Q I1 q1
theorem Qwy(ha:PT X a tA):PT X (.UnaryOp .Not a pos) (QBs tA):=by
 intro pins s σ H Q I h;exact isTrue_not (ha pins s σ H (λc H1=>Q (!c) H1) I h)
def Qzk(ta tb:TE):TE:=λσ H Q=>ta σ H λx H1=>∃c,x=.bl c/\if c=true then tb σ H1 Q else Q (.bl false) H1
def QBr(ta tb:TE):TE:=λσ H Q=>ta σ H λx H1=>∃c,x=.bl c/\if c=true then Q (.bl true) H1 else tb σ H1 Q
def Qzg(ta:TE):TE:=λσ H Q=>ta σ H λx H1=>∃c,x=.bl c/\Q (.bl (!c)) H1
theorem QwD{op}{t:TE}(h:PE X a t):PE X (.BoolOp op [a] pos) t:=λpins s σ H Q I hw=>BoolOp_one (h pins s σ H Q I hw)
theorem QwH(ha:PE X a ta)(hb:PE X (.BoolOp .And (b::rest) pos) tb):PE X (.BoolOp .And (a::b::rest) pos) (Qzk ta tb):=by
 intro pins s σ H Q I h;refine BoolOp_and (thn (ha pins s σ H _ I h) λv s1 ⟨x,H1,I1,r1,q1⟩=>?_);obtain⟨c,rfl,q1⟩:=q1;cases r1;refine Zl ?_
 cases c with
 |true=>exact hb pins s1 σ H1 Q I1 q1
 |false=>exact⟨.bl false,H1,I1,rfl,q1⟩
theorem QzA(ha:PE X a ta)(hb:PE X (.BoolOp .Or (b::rest) pos) tb):PE X (.BoolOp .Or (a::b::rest) pos) (QBr ta tb):=by
 intro pins s σ H Q I h;refine BoolOp_or (thn (ha pins s σ H _ I h) λv s1 ⟨x,H1,I1,r1,q1⟩=>?_);obtain⟨c,rfl,q1⟩:=q1;cases r1;refine Zl ?_
 cases c with
 |false=>exact hb pins s1 σ H1 Q I1 q1
 |true=>exact⟨.bl true,H1,I1,rfl,q1⟩
theorem QwE(ha:PE X a ta):PE X (.UnaryOp .Not a pos) (Qzg ta):=by
 intro pins s σ H Q I h;refine UnaryOp_ (thn (ha pins s σ H _ I h) λv s1 ⟨x,H1,I1,r1,q1⟩=>?_);obtain⟨c,rfl,q1⟩:=q1;cases r1;exact not_of (Zl ⟨.bl (!c),H1,I1,rfl,q1⟩)
def tIf(t:TT)(ta tb:TE):TE:=λσ H Q=>t σ H λc H1=>if c=true then ta σ H1 Q else tb σ H1 Q
theorem Qo3{c:Q1}(hc:PT X c tA)(ha:PE X a ta)(hb:PE X b tb):PE X (.IfExp c a b pos) (tIf tA ta tb):=by
 intro pins s σ H Q I h;refine wpAny_IfExp (thn (hc pins s σ H _ I h) λd s1 ⟨H1,I1,q1⟩=>?_);cases d with
 |true=>exact ha pins s1 σ H1 Q I1 q1
 |false=>exact hb pins s1 σ H1 Q I1 q1
end
def SqL(K:PySem.W.Frag)(H:Hp)(a:Addr)(xs:List V):Prop:=
 Rd H a (.lst xs) ∨
  ∃(o:Obj)(its:Array Value)(n:Nat),K.lookup a=some o/\o.cls=.type "list" /\ o.dict=none/\o.data=.seq its n/\its.size<=sizeLine/\Vals xs its.toList
def SqT(K:PySem.W.Frag)(H:Hp)(a:Addr)(xs:List V):Prop:=
 Rd H a (.tup xs) ∨
  ∃(o:Obj)(its:Array Value)(n:Nat),K.lookup a=some o/\o.cls=.type "tuple" /\ o.data=.seq its n/\its.size<=sizeLine/\Vals xs its.toList
def QBQ:Value->Option V
 |.none=>some .non
 |.bool b=>some (.bl b)
 |.int i _=>some (.int i)
 |.str x _=>some (.str x)
 |.bytes b _=>some (.byt b)
 |.float b _=>some (.flt b)
 |.ref a=>some (.ref a)
 |.type n=>some (.ty n)
 |_=>none
theorem RelV.abs{x:V}{u:Value}(r:RelV x u):QBQ u=some x:=by
 cases x with
 |non=>cases r;rfl
 |bl _=>cases r;rfl
 |int _=>obtain⟨t,rfl⟩:=r;rfl
 |str _=>obtain⟨t,rfl⟩:=r;rfl
 |byt _=>obtain⟨t,rfl⟩:=r;rfl
 |flt _=>obtain⟨t,rfl⟩:=r;rfl
 |ref _=>cases r;rfl
 |ty _=>cases r;rfl
theorem RelV.inj{x y:V}{u:Value}(r:RelV x u)(q:RelV y u):x=y:=QK (r.abs.symm.trans q.abs)
theorem Vals.inj:∀{xs ys:List V}{us:List Value},Vals xs us->Vals ys us->xs=ys
 |_,_,_,.nil,.nil=>rfl
 |_,_,_,.cons r t,.cons r' t'=>by rw[r.inj r',Vals.inj t t']
section
variable{X:Cx}{pins:List (Addr×Obj)}{σ:St}{H:Hp}{s:Shared}{a:Addr}{xs ys:List V}
theorem SqL.of{K:PySem.W.Frag}(h:H a=some (.lst xs)):SqL K H a xs:=.inl (.inl h)
theorem SqT.of{K:PySem.W.Frag}(h:H a=some (.tup xs)):SqT K H a xs:=.inl (.inl h)
theorem Inv.list(I:Inv X pins σ H s)(h:SqL X.K H a xs):∃its:List Value,Vals xs its/\PlainL s.heap a its.toArray/\xs.length<=sizeLine:=by
 rcases h with h | ⟨o,its,n,hk,hc,hd,hs,hz,r⟩
 ·obtain⟨z,its,n,r,e⟩:=h.ok I.hok;exact⟨its,r,⟨_,n,e,rfl,rfl,rfl⟩,z⟩
 ·refine⟨its.toList,r,⟨o,n,I.kIn a o hk,hc,hd,by simpa using hs⟩,?_⟩;have e:=r.length;simp only[Q4] at e;omega
theorem Inv.tuple(I:Inv X pins σ H s)(h:SqT X.K H a xs):∃its:List Value,Vals xs its/\IsTup s.heap a its.toArray/\xs.length<=sizeLine:=by
 rcases h with h | ⟨o,its,n,hk,hc,hs,hz,r⟩
 ·obtain⟨z,its,r,p⟩:=h.ok I.hok;exact⟨its,r,p.tup,z⟩
 ·refine⟨its.toList,r,⟨o,I.kIn a o hk,hc,n,by simpa using hs⟩,?_⟩;have e:=r.length;simp only[Q4] at e;omega
theorem Inv.list_inj(I:Inv X pins σ H s)(h:SqL X.K H a xs)(h':SqL X.K H a ys):xs=ys:=by
 obtain⟨its,r,⟨o,n,e,_,_,d⟩,_⟩:=I.list h;obtain⟨its',r',⟨o',n',e',_,_,d'⟩,_⟩:=I.list h';rw[e] at e';cases e';rw[d] at d';injection d' with d1 _
 have:its=its':=by simpa using congrArg Qj3 d1
 subst this;exact r.inj r'
theorem Inv.tuple_inj(I:Inv X pins σ H s)(h:SqT X.K H a xs)(h':SqT X.K H a ys):xs=ys:=by
 obtain⟨its,r,⟨o,e,_,n,d⟩,_⟩:=I.tuple h;obtain⟨its',r',⟨o',e',_,n',d'⟩,_⟩:=I.tuple h';rw[e] at e';cases e';rw[d] at d';injection d' with d1 _
 have:its=its':=by simpa using congrArg Qj3 d1
 subst this;exact r.inj r'
end
abbrev Cx.wish (X:Cx) (E:Value->Shared->Prop):Cx:={ X with xe:=E }
abbrev Cx.nox (X:Cx):Cx:=X.wish λ_ _=>False
theorem Cx.Ok.wish{X:Cx}(ok:X.Ok)(E:Value->Shared->Prop):(X.wish E).Ok:=
 ⟨ok.mod,ok.kind,ok.glob,ok.blt,ok.above,ok.inj,ok.has,ok.cab,ok.hd,ok.frames,ok.stk,ok.exf,ok.bs,ok.bsz,ok.noex,ok.exfs,ok.funs,ok.frf⟩
theorem Cx.Ok.unwish{X:Cx}{E:Value->Shared->Prop}(ok:(X.wish E).Ok):X.Ok:=
 ⟨ok.mod,ok.kind,ok.glob,ok.blt,ok.above,ok.inj,ok.has,ok.cab,ok.hd,ok.frames,ok.stk,ok.exf,ok.bs,ok.bsz,ok.noex,ok.exfs,ok.funs,ok.frf⟩
section
variable{X:Cx}{pins:List (Addr×Obj)}{σ:St}{H:Hp}{s:Shared}{E:Value->Shared->Prop}
theorem Inv.wish(I:Inv X pins σ H s)(E:Value->Shared->Prop):Inv (X.wish E) pins σ H s:=⟨I.ok.wish E,I.os,I.bare,I.base,I.loc,I.cell,I.free,I.freeC,I.pin,I.hok,I.len⟩
theorem Inv.unwish(I:Inv (X.wish E) pins σ H s):Inv X pins σ H s:=⟨I.ok.unwish,I.os,I.bare,I.base,I.loc,I.cell,I.free,I.freeC,I.pin,I.hok,I.len⟩
theorem SP.unwish{D:Ends}{f:Flow}{s':Shared}(h:SP (X.wish E) pins D f s'):SP X pins D f s':=by
 cases f with
 |next=>obtain⟨σ',H',I,q⟩:=h;exact⟨σ',H',I.unwish,q⟩
 |brk=>obtain⟨σ',H',I,q⟩:=h;exact⟨σ',H',I.unwish,q⟩
 |cont=>obtain⟨σ',H',I,q⟩:=h;exact⟨σ',H',I.unwish,q⟩
 |ret u=>obtain⟨v,σ',H',I,r,q⟩:=h;exact⟨v,σ',H',I.unwish,r,q⟩
theorem PE.nox{e:Q1}{t:TE}(h:PE X.nox e t):PE X e t:=λpins s σ H Q I hw=>
 wpAny_mono (h pins s σ H Q (I.wish _) hw) (λ_ _ ⟨v,H',I',r,q⟩=>⟨v,H',I'.unwish,r,q⟩) λ_ _ z=>ZC z
theorem PT.nox{e:Q1}{t:TT}(h:PT X.nox e t):PT X e t:=λpins s σ H Q I hw=>
 wpAny_mono (h pins s σ H Q (I.wish _) hw) (λ_ _ ⟨H',I',q⟩=>⟨H',I'.unwish,q⟩) λ_ _ z=>ZC z
theorem PSs.nox{st:List ZY}{t:TS}(h:PSs X.nox st t):PSs X st t:=λpins s σ H D I hw=>
 wpAny_mono (h pins s σ H D (I.wish _) hw) (λ_ _ q=>q.unwish) λ_ _ z=>ZC z
end
section
variable{X:Cx}{st:ZY}{rest:List ZY}{t u:TS}{e:Q1}{te:TE}{pos:Pos}
def Qzh:TS:=λD σ H=>D.nx σ H
def QBp(t u:TS):TS:=λD σ H=>t { D with nx:=u D } σ H
theorem Qin:PSs X [] Qzh:=λ_ _ σ H _ I h=>QdC ⟨σ,H,I,h⟩
theorem Qae(h1:PS X st t)(h2:PSs X rest u):PSs X (st::rest) (QBp t u):=by
 intro pins s σ H D I h;refine wpAny_execs_cons (thn (h1 pins s σ H { D with nx:=u D } I h) λf s1 q=>?_);cases f with
 |next=>
  obtain⟨σ',H',I',q⟩:=q;exact h2 pins s1 σ' H' D I' q
 |ret v=>exact q
 |brk=>exact q
 |cont=>exact q
theorem QbG(h1:PS X st t):PSs X [st] t:=by
 intro pins s σ H D I h;refine wpAny_execs_cons (thn (h1 pins s σ H D I h) λf s1 q=>?_);cases f with
 |next=>exact QdC q
 |ret v=>exact q
 |brk=>exact q
 |cont=>exact q
theorem Inv.quiet{pins:List (Addr×Obj)}{σ:St}{H:Hp}{s:Shared}(I:Inv X pins σ H s):interactive X.env=false:=by simp[interactive,I.ok.kind]
def Qls(te:TE):TS:=λD σ H=>te σ H λ_ H1=>D.nx σ H1
theorem QfY(he:PE X e te)(hs:swapsWith e none pos.line X.env=pure false:=by rfl):PS X (.Expr e pos) (Qls te):=by
 intro pins s σ H D I h;exact wpAny_Expr_any (thn (he pins s σ H _ I h) λv s1 ⟨x,H1,I1,r1,q1⟩=>⟨σ,H1,I1,q1⟩) I.quiet hs
def QBq(te:TE):TS:=λD σ H=>te σ H D.rt
theorem QcI(he:PE X e te):PS X (.Return (some e) pos) (QBq te):=by
 intro pins s σ H D I h;exact wpAny_Return_some (thn (he pins s σ H _ I h) λv s1 ⟨x,H1,I1,r1,q1⟩=>⟨x,σ,H1,I1,r1,q1⟩)
def QBu(c:TT)(t u:TS):TS:=λD σ H=>c σ H λb H1=>if b=true then t D σ H1 else u D σ H1
theorem Qtl{c:Q1}{a b:List ZY}{tc:TT}(hc:PT X c tc)(ha:PSs X a t)(hb:PSs X b u):PS X (.If c a b pos) (QBu tc t u):=by
 intro pins s σ H D I h;refine wpAny_If (thn (hc pins s σ H _ I h) λd s1 ⟨H1,I1,q1⟩=>?_);cases d with
 |true=>exact ha pins s1 σ H1 D I1 q1
 |false=>exact hb pins s1 σ H1 D I1 q1
end
abbrev TG:=V->St->Hp->(St->Hp->Prop)->Prop
abbrev TGs:=List V->St->Hp->(St->Hp->Prop)->Prop
def PG(X:Cx)(target:Q1)(t:TG):Prop:=
 ∀(pins:List (Addr×Obj))(s:Shared)(σ:St)(H:Hp)(v:V)(u:Value)(Q:St->Hp->Prop),Inv X pins σ H s->RelV v u->t v σ H Q ->
  wpAny (model X.prog X.w) X.A (assign target X.env u) (λ_ s'=>∃σ' H',Inv X pins σ' H' s'/\Q σ' H') X.xe s
def PGs(X:Cx)(ts:List Q1)(t:TGs):Prop:=
 ∀(pins:List (Addr×Obj))(s:Shared)(σ:St)(H:Hp)(vs:List V)(us:List Value)(Q:St->Hp->Prop),Inv X pins σ H s->Vals vs us->t vs σ H Q ->
  wpAny (model X.prog X.w) X.A (assignInOrder ((assignEach ts X.env).map (·.2)) us) (λ_ s'=>∃σ' H',Inv X pins σ' H' s'/\Q σ' H') X.xe s
abbrev TSet:=V->V->V->Hp->(Hp->Prop)->Prop
def QAy(X:Cx)(t:TSet):Prop:=
 ∀(pins:List (Addr×Obj))(s:Shared)(σ:St)(H:Hp)(o i v:V)(ov iv u:Value)(Q:Hp->Prop),Inv X pins σ H s->RelV o ov->RelV i iv->RelV v u->t o i v H Q ->
  wpAny (model X.prog X.w) X.A (setItem ov iv u) (λ_ s'=>∃H',Inv X pins σ H' s'/\Q H') X.xe s
abbrev TIp:=V->V->Hp->VK->Prop
def PIp(X:Cx)(op:Qcx)(t:TIp):Prop:=
 ∀(pins:List (Addr×Obj))(s:Shared)(σ:St)(H:Hp)(x y:V)(v u:Value)(Q:VK),Inv X pins σ H s->RelV x v->RelV y u->t x y H Q ->
  wpAny (model X.prog X.w) X.A (inplaceOp op v u) (EP X pins σ Q) X.xe s
section
variable{X:Cx}{pos:Pos}
def QdH(i:Nat):TG:=λv σ H Q=>Q (σ.set i (some v)) H
theorem Qek{i:Nat}{x:Str}(hN:X.N.Nodup)(hi:X.N[i]? = some x)(hx:Loc X.env.scope x)(hf:X.fn x=true∨X.env.scope.names.lookup x=some .local:=by first | exact .inl rfl | exact .inr rfl | assumption):PG X (.Name x pos) (QdH i):=by
 intro pins s σ H v u Q I r h;exact QyI (QfK I hN hi hx r (λs' I'=>⟨_,H,I',h⟩) hf)
def QAc:TGs:=λvs σ H Q=>vs=[]/\Q σ H
def Qp6(t:TG)(u:TGs):TGs:=λvs σ H Q=>∃v r,vs=v::r/\t v σ H λσ' H'=>u r σ' H' Q
theorem Qmf:PGs X [] QAc:=by
 intro pins s σ H vs us Q I r h;obtain⟨e,h⟩:=h;subst e;cases r;exact assignInOrder_nil ⟨σ,H,I,h⟩
theorem Qf2{e:Q1}{es:List Q1}{t:TG}{u:TGs}(h1:PG X e t)(h2:PGs X es u)
  (hs:(assignEach (e::es) X.env).map (·.2)=assign e X.env::(assignEach es X.env).map (·.2):=by rfl):PGs X (e::es) (Qp6 t u):=by
 intro pins s σ H vs us Q I r h;obtain⟨v,vr,e1,h⟩:=h;subst e1;cases r with
 |cons r rr=>
  rw[hs];refine assignInOrder_cons (thn (h1 pins s σ H _ _ _ I r h) λ_ s1 ⟨σ1,H1,I1,q1⟩=>?_);exact h2 pins s1 σ1 H1 _ _ Q I1 rr q1
def QAb(K:PySem.W.Frag)(n:Nat)(t:TGs):TG:=λv σ H Q=>∃a xs,v=.ref a/\SqT K H a xs/\xs.length=n/\t xs σ H Q
theorem QrY{es:List Q1}{k:Nat}{t:TGs}{n:Nat}(hc:X.calm=true)(h:PGs X es t)
  (hn:(assignEach es X.env).length=n:=by rfl)(hst:(assignEach es X.env).findIdx? (·.1)=none:=by rfl):PG X (.Tuple es k pos) (QAb X.K n t):=by
 intro pins s σ H v u Q I r hw;obtain⟨a,xs,e1,hq,hl,hw⟩:=hw;subst e1;cases r;obtain⟨its,rv,ht,hz⟩:=I.tuple hq;refine assign_Tuple_tuple (I.ok.hd hc) ht (by simp[hn,<- hl,rv.length]) hst λh' hx=>?_
 have I1:Inv X pins σ H { s with heap:=h' }:=I.kept (t':=s.toks) λb o e=>hx b o (QD (Qj e)) e
 exact h pins _ σ H xs _ Q I1 (by simpa using rv) hw
def gSub(to ti:TE)(t:TSet):TG:=λv σ H Q=>to σ H λo H1=>ti σ H1 λi H2=>t o i v H2 λH3=>Q σ H3
theorem QwB{o i:Q1}{to ti:TE}{t:TSet}(ho:PE X o to)(hi:PE X i ti)(hs:QAy X t)
  (ha:∀v,assign (.Subscript o i pos) X.env v=(do
   let ov <- holding [v] (eval o X.env)
   let iv <- holding [v,ov] (eval i X.env)
   standAt pos
   holding [v,ov,iv] (setItem ov iv v)
   release [v,ov,iv] []):=by intro _;rfl):PG X (.Subscript o i pos) (gSub to ti t):=by
 intro pins s σ H v u Q I r h;rw[ha];refine wpAny_bind (J1 (thn (ho pins s σ H _ I h) λov s1 ⟨x,H1,I1,r1,q1⟩=>?_));refine wpAny_bind (J1 (thn (hi pins s1 σ H1 _ I1 q1) λiv s2 ⟨y,H2,I2,r2,q2⟩=>?_));refine wpAny_bind (wpAny_standAt (wpAny_bind (J1 (thn (hs pins s2 σ H2 x y v ov iv u _ I2 r1 r2 r q2) λ_ s3 ⟨H3,I3,q3⟩=>?_))));exact wpAny_release ⟨σ,H3,I3,q3⟩
def Qox(te:TE)(g:TG):TS:=λD σ H=>te σ H λx H1=>g x σ H1 D.nx
theorem QrU{tg e:Q1}{te:TE}{g:TG}(he:PE X e te)(hg:PG X tg g)(hs:swapsWithSole [tg] e pos.line X.env=pure false:=by rfl)(hw:swappedStores [tg] e X.env=pure none:=by rfl)
  (h1:(assignEach [tg] X.env).map (·.2)=[assign tg X.env]:=by rfl):PS X (.Assign [tg] e pos) (Qox te g):=by
 intro pins s σ H D I h;refine wpAny_Assign_stores (thn (he pins s σ H _ I h) λv s1 ⟨x,H1,I1,r1,q1⟩=>?_) hs hw;rw[h1];exact thn (hg pins s1 σ H1 x v _ I1 r1 q1) λ_ s2 q=>q
theorem Qdv{i:Nat}{x:Str}{e:Q1}{te:TE}{pos':Pos}(hN:X.N.Nodup)(hi:X.N[i]? = some x)(hx:Loc X.env.scope x)(he:PE X e te)(hs:swapsWith e (some (.Name x pos')) pos.line X.env=pure false:=by rfl)(hf:X.fn x=true∨X.env.scope.names.lookup x=some .local:=by first | exact .inl rfl | exact .inr rfl | assumption) :
  PS X (.Assign [.Name x pos'] e pos) (Qox te (QdH i)):=by
 intro pins s σ H D I h;refine wpAny_Assign_Name (thn (he pins s σ H _ I h) λv s1 ⟨y,H1,I1,r1,q1⟩=>?_) hs;exact QfK I1 hN hi hx r1 (λs2 I2=>⟨_,H1,I2,q1⟩) hf
def QAF(i:Nat)(te:TE)(ti:TIp):TS:=λD σ H=>∃x,σ[i]? = some (some x)/\te σ H λy H1=>ti x y H1 λz H2=>D.nx (σ.set i (some z)) H2
theorem Qwz{i:Nat}{x:Str}{e:Q1}{te:TE}{op:Qcx}{ti:TIp}{pos':Pos}(hN:X.N.Nodup)(hi:X.N[i]? = some x)(hx:Loc X.env.scope x)(he:PE X e te)(ho:PIp X op ti)(hf:X.fn x=true∨X.env.scope.names.lookup x=some .local:=by first | exact .inl rfl | exact .inr rfl | assumption) :
  PS X (.AugAssign (.Name x pos') op e pos) (QAF i te ti):=by
 intro pins s σ H D I h;obtain⟨v,e1,h⟩:=h;obtain⟨m,hn,hl⟩:=I.loc;have vis:Vis X.env.scope x:=by rcases hx with k | k;exact .inl k;exact .inr (.inl k)
 obtain⟨u,r,l⟩:=hl i x v hi e1 vis;refine wpAny_AugAssign_Name ?_
 have go:wpAny (model X.prog X.w) X.A (eval e X.env) (λw s₂=>wpAny (model X.prog X.w) X.A (inplaceOp op u w) (λr s₃=>wpAny (model X.prog X.w) X.A (storeName X.env x r) (λ_=>SP X pins D .next) X.xe s₃) X.xe s₂) X.xe s:=by
  refine thn (he pins s σ H _ I h) λw s1 ⟨y,H1,I1,r1,q1⟩=>?_
  refine thn (ho pins s1 σ H1 v y u w _ I1 r r1 q1) λz s2 ⟨zv,H2,I2,r2,q2⟩=>?_
  exact QfK I2 hN hi hx r2 (λs3 I3=>⟨_,H2,I3,q2⟩) hf
 rcases l with⟨hk,hm⟩ | ⟨hk,c,hc,hcell⟩
 ·exact Qvl I.ok.kind hk hn hm go
 ·rcases hk with hk | hk
  ·exact QvA I.ok.kind hk hc hcell go
  ·rcases hx with k | k
   ·have:X.env.scope.names.lookup x=some .free:=hk;rw[k] at this;cases this
   ·have:X.env.scope.names.lookup x=some .free:=hk;rw[k] at this;cases this
def Qv5(to ti te:TE)(tget:V->V->Hp->VK->Prop)(tip:TIp)(tset:TSet):TS:=λD σ H=>to σ H λo H1=>ti σ H1 λi H2=>tget o i H2 λx H3=>te σ H3 λy H4=>tip x y H4 λz H5=>tset o i z H5 λH6=>D.nx σ H6
def QBi(X:Cx)(t:V->V->Hp->VK->Prop):Prop:=
 ∀(pins:List (Addr×Obj))(s:Shared)(σ:St)(H:Hp)(o i:V)(ov iv:Value)(Q:VK),Inv X pins σ H s->RelV o ov->RelV i iv->t o i H Q ->
  wpAny (model X.prog X.w) X.A (getItem ov iv) (EP X pins σ Q) X.xe s
theorem Qtm{o i e:Q1}{to ti te:TE}{tget:V->V->Hp->VK->Prop}{tip:TIp}{tset:TSet}{op:Qcx}{tpos:Pos}(ho:PE X o to)(hi:PE X i ti)(hg:QBi X tget)(he:PE X e te)(hp:PIp X op tip)(hs:QAy X tset)
  (ha:∀ov iv new,augStore i ov iv new=(do holding [new,ov,iv] (setItem ov iv new);release [new,ov,iv] [];pure .next):=by intros;rfl):PS X (.AugAssign (.Subscript o i tpos) op e pos) (Qv5 to ti te tget tip tset):=by
 intro pins s σ H D I h;refine wpAny_AugAssign_SubscriptAny (thn (ho pins s σ H _ I h) λov s1 ⟨x1,H1,I1,r1,q1⟩=>?_) ha;refine thn (hi pins s1 σ H1 _ I1 q1) λiv s2 ⟨x2,H2,I2,r2,q2⟩=>?_
 refine thn (hg pins s2 σ H2 x1 x2 ov iv _ I2 r1 r2 q2) λold s3 ⟨x3,H3,I3,r3,q3⟩=>?_
 refine thn (he pins s3 σ H3 _ I3 q3) λv s4 ⟨x4,H4,I4,r4,q4⟩=>?_
 refine thn (hp pins s4 σ H4 x3 x4 old v _ I4 r3 r4 q4) λnew s5 ⟨x5,H5,I5,r5,q5⟩=>?_
 exact thn (hs pins s5 σ H5 x1 x2 x5 ov iv new _ I5 r1 r2 r5 q5) λ_ s6 ⟨H6,I6,q6⟩=>⟨σ,H6,I6,q6⟩
def ipI(f:Int->Int->Int):TIp:=λx y H Q=>∃i j,x=.int i/\y=.int j/\Q (.int (f i j)) H
theorem Qm5:PIp X .Add (ipI λi j=>i+j):=by
 intro pins s σ H x y v u Q I r1 r2 h;obtain⟨i,j,e1,e2,q⟩:=h;subst e1;subst e2;obtain⟨t,rfl⟩:=r1;obtain⟨t',rfl⟩:=r2;exact iadd_int ⟨.int _,H,I.tok _,⟨_,rfl⟩,q⟩
theorem Qxx:PIp X .Sub (ipI λi j=>i - j):=by
 intro pins s σ H x y v u Q I r1 r2 h;obtain⟨i,j,e1,e2,q⟩:=h;subst e1;subst e2;obtain⟨t,rfl⟩:=r1;obtain⟨t',rfl⟩:=r2;exact isub_int ⟨.int _,H,I.tok _,⟨_,rfl⟩,q⟩
end
section
variable{X:Cx}{pos:Pos}
def QvZ(c:TT)(tb:TS):TS:=λD σ H=>∃W:Nat->St->Hp->Prop,(∃m,W m σ H)/\∀m σ H,W m σ H ->
 c σ H λb H1=>if b=true then ∃N:St->Hp->Prop,(∀σ' H',N σ' H'->∃m',m'<m/\W m' σ' H')/\tb { D with nx:=N,ct:=N,bk:=D.nx } σ H1 else D.nx σ H1
theorem QoX{c:Q1}{body:List ZY}{tc:TT}{tb:TS}(hp:QfA (model X.prog X.w) X.A X.env X.xe)(hc:PT X c tc)(hb:PSs X body tb):PS X (.While c body [] pos) (QvZ tc tb):=by
 intro pins s σ H D I h;obtain⟨W,⟨m0,w0⟩,turn⟩:=h;refine wpAny_While (codeAny_whileLoop (λn s'=>∃σ' H',Inv X pins σ' H' s'/\W n σ' H') ?_ m0 ⟨σ,H,I,w0⟩);rintro n s1 ⟨σ1,H1,I1,w1⟩;refine YO hp (thn (hc pins s1 σ1 H1 _ I1 (turn n σ1 H1 w1)) λb s2 ⟨H2,I2,q2⟩=>?_);cases b with
 |true=>
  obtain⟨N,hN,q2⟩:=q2;rw[if_pos rfl];refine YO hp (thn (hb pins s2 σ1 H2 _ I2 q2) λf s3 q3=>?_);cases f with
  |next=>
   obtain⟨σ3,H3,I3,n3⟩:=q3;obtain⟨m',hm,w3⟩:=hN σ3 H3 n3;exact⟨m',hm,σ3,H3,I3,w3⟩
  |cont=>
   obtain⟨σ3,H3,I3,n3⟩:=q3;obtain⟨m',hm,w3⟩:=hN σ3 H3 n3;exact⟨m',hm,σ3,H3,I3,w3⟩
  |brk=>exact q3
  |ret v=>exact q3
 |false=>
  rw[if_neg Qi];exact QdC ⟨σ1,H2,I2,q2⟩
end
structure It where
 go:Nat->Hp->Prop
 yld:Nat->Hp->V->Hp->Prop
 stop:Nat->Hp->Prop
def FpOk(X:Cx)(pins:List (Addr×Obj))(H:Hp)(b:Addr):Prop:=
 H b=none/\b≠X.env.locals/\b∉X.fs/\(b∈X.ex∨X.s₀.heap.objs.size<=b)/\(∀x c,X.env.cells.lookup x=some c->c≠b)/\∀p∈X.pn++pins,p.1≠b
theorem Inv.fpOk{X:Cx}{pins:List (Addr×Obj)}{σ:St}{H H':Hp}{s:Shared}{b:Addr}(I:Inv X pins σ H s)(hb:s.heap.objs.size<=b)(hn:H' b=none):FpOk X pins H' b:=by
 refine⟨hn,Qay (QQ I.lt hb),I.nofs hb,.inr (QX I.sz hb),λx c e z=>?_,λp hp z=>?_⟩
 ·obtain⟨v,q⟩:=I.cell x c e;exact absurd (QQ q.lt (by rw[z];exact hb)) (YH _)
 ·exact absurd (QQ (Qj (I.pin p hp).1) (by rw[z];exact hb)) (YH _)
structure Turn (P:QC) (w:Jf) (K:PySem.W.Frag) (tg:Q1) (J:It) (fp:List Addr) (it:Addr) (tn:Nat->Heap->Prop):Prop where
 mem:it∈fp
 obj:∀i h,tn i h->∀b∈fp,∃o,h.get? b=some o/\∀v,o.data≠.cell v
 keep:∀i h h',tn i h->(∀b∈fp,∀o,h.get? b=some o->h'.get? b=some o)->tn i h'
 item:∀(X:Cx),X.prog=P->X.w=w->X.K=K->X.calm=true->∀(i:Nat)(pins:List (Addr×Obj))(s:Shared)(σ:St)(H:Hp)(E:Value->Shared->Prop),Inv X pins σ H s->(∀b∈fp,FpOk X pins H b)->tn i s.heap->J.go i H ->
  wpAny (model P w) X.A (pyNext (.ref it)) (λr s1=>∃u,r=some u /\
   wpAny (model P w) X.A (letOwnedTupleGo tg (.ref it) u) (λ_ s2=>∃x H',Inv X pins σ H' s2/\RelV x u/\J.yld i H x H'/\tn (i+1) s2.heap/\∀b∈fp,H' b=none) E s1) E s
 done:∀(X:Cx),X.prog=P->X.w=w->X.K=K->X.calm=true->∀(i:Nat)(pins:List (Addr×Obj))(s:Shared)(σ:St)(H:Hp)(E:Value->Shared->Prop),Inv X pins σ H s->(∀b∈fp,FpOk X pins H b)->tn i s.heap->J.stop i H ->
  wpAny (model P w) X.A (pyNext (.ref it)) (λr s1=>r=none/\Inv X pins σ H s1) E s
 self:∀(A:Ja)(i:Nat)(s:Shared)(Q:Value->Shared->Prop)(E:Value->Shared->Prop),tn i s.heap->Q (.ref it) s->wpAny (model P w) A (pyIter (.ref it)) Q E s
abbrev TI:=St->Hp->(It->Hp->Prop)->Prop
def PIE(X:Cx)(pins:List (Addr×Obj))(σ:St)(tg:Q1)(R:It->Hp->Prop)(itv:Value)(s2:Shared):Prop:=
 ∃(it:Addr)(fp:List Addr)(tn:Nat->Heap->Prop)(J:It)(H':Hp),itv=.ref it/\Inv X pins σ H' s2/\Turn X.prog X.w X.K tg J fp it tn/\tn 0 s2.heap/\(∀b∈fp,FpOk X pins H' b)/\R J H'
def PI(X:Cx)(tg iter:Q1)(wi:TI):Prop:=
 ∀(pins:List (Addr×Obj))(s:Shared)(σ:St)(H:Hp)(R:It->Hp->Prop),Inv X pins σ H s->wi σ H R ->
  wpAny (model X.prog X.w) X.A (eval iter X.env) (λv s1=>wpAny (model X.prog X.w) X.A (pyIter v) (PIE X pins σ tg R) X.xe s1) X.xe s
theorem Qp4{M:Model}{A:Ja}{E:Value->Shared->Prop}{s:Shared}{tg:Q1}{it:Addr}{u:Value}{o:Obj}{n:String}{vs:Array Value}{Q:Unit->Shared->Prop}(ho:s.heap.get? it=some o)(hc:o.cls=.type n)(hd:o.data=.fields vs)
  (hn:["enumerate", "zip", "dict_itemiterator", "dict_reverseitemiterator", "odict_iterator", "itertools.zip_longest", "itertools.pairwise"].contains n=false)(hQ:Q () s):wpAny M A (letOwnedTupleGo tg (.ref it) u) Q E s:=by
 unfold letOwnedTupleGo;cases tg<;>first
  |exact wpAny_pure hQ
  |(cases u<;>first
    |exact wpAny_pure hQ
    |(refine wpAny_bind (wpAny_load ho ?_)
      rw[hc,hd];show wpAny M A (if(["enumerate", "zip", "dict_itemiterator", "dict_reverseitemiterator", "odict_iterator", "itertools.zip_longest", "itertools.pairwise"].contains n&&vs[0]? == some (rawInt _))=true then _ else _) Q E s;rw[if_neg (by intro h;rw[hn,QhT] at h;cases h)];exact wpAny_pure hQ))
def Itl(K:PySem.W.Frag)(a:Addr):It:=
 ⟨λi H=>∃xs x,SqL K H a xs/\xs[i]? = some x,λi H x H'=>H'=H/\∀xs,SqL K H a xs->xs[i]? = some x,λi H=>∃xs,SqL K H a xs/\xs.length<=i⟩
def Itt(K:PySem.W.Frag)(a:Addr):It:=
 ⟨λi H=>∃xs x,SqT K H a xs/\xs[i]? = some x,λi H x H'=>H'=H/\∀xs,SqT K H a xs->xs[i]? = some x,λi H=>∃xs,SqT K H a xs/\xs.length<=i⟩
def Itr(lo:Int)(n:Nat):It:=⟨λi _=>i<n,λi H x H'=>H'=H/\x=.int (lo+i),λi _=>n<=i⟩
theorem Qlk{P:QC}{w:Jf}{K:PySem.W.Frag}{tg:Q1}(a it:Addr):Turn P w K tg (Itl K a) [it] it (λi h=>h.IsListIter it a i) where
 mem:=by simp
 obj:=λi h st b hb=>by
  have e:b=it:=by simpa using hb
  subst e;obtain⟨o,e,c,d⟩:=st;exact⟨o,e,λv z=>by rw[d] at z;cases z⟩
 keep:=λi h h' st k=>st.at λo e=>k it (by simp) o e
 item:=by
  intro X hP hw hK hc i pins s σ H E I hf st hg;subst hP hw hK;obtain⟨xs,x,hq,hx⟩:=hg;obtain⟨its,rv,p,hz⟩:=I.list hq;obtain⟨u,hu,ru⟩:=rv.get hx;obtain⟨f0,f1,f2,f3,f4,f5⟩:=hf it (by simp);refine QcT st p.isList (x:=u) (by simpa using hu) λh' st' sb=>?_
  have I1:Inv X pins σ H { s with heap:=h' }:=I.turned (t':=s.toks) (λb o hb e=>(sb.2 b hb).trans e) f0 f1 f3 f4 f5;obtain⟨o,e,c,d⟩:=id st';exact⟨u,rfl,Qp4 (s:={ s with heap:=h' }) e c d (by decide) ⟨x,H,I1,ru,⟨rfl,λys hy=>by rw[I.list_inj hy hq];exact hx⟩,st',λb hb=>(hf b hb).1⟩⟩
 done:=by
  intro X hP hw hK hc i pins s σ H E I hf st hg;subst hP hw hK;obtain⟨xs,hq,hx⟩:=hg;obtain⟨its,rv,p,hz⟩:=I.list hq;obtain⟨f0,f1,f2,f3,f4,f5⟩:=hf it (by simp);have hl:=rv.length;exact QdB (I.ok.hd hc) st p.isList (by simp;omega) λh' eb=>⟨rfl,I.turned (t':=s.toks) (λb o hb e=>eb b o hb e) f0 f1 f3 f4 f5⟩
 self:=λ_ _ _ _ _ st h=>wpAny_pyIter_listiter st h
theorem Qj6{P:QC}{w:Jf}{K:PySem.W.Frag}{tg:Q1}(a it:Addr):Turn P w K tg (Itt K a) [it] it (λi h=>h.IsTupleIter it a i) where
 mem:=by simp
 obj:=λi h st b hb=>by
  have e:b=it:=by simpa using hb
  subst e;obtain⟨o,e,c,d⟩:=st;exact⟨o,e,λv z=>by rw[d] at z;cases z⟩
 keep:=λi h h' st k=>st.at λo e=>k it (by simp) o e
 item:=by
  intro X hP hw hK hc i pins s σ H E I hf st hg;subst hP hw hK;obtain⟨xs,x,hq,hx⟩:=hg;obtain⟨its,rv,p,hz⟩:=I.tuple hq;obtain⟨u,hu,ru⟩:=rv.get hx;obtain⟨f0,f1,f2,f3,f4,f5⟩:=hf it (by simp);refine wpAny_pyNext_tuple_item st (show s.heap.IsTuple a its.toArray from p) (x:=u) (by simpa using hu) λh' st' sb=>?_
  have I1:Inv X pins σ H { s with heap:=h' }:=I.turned (t':=s.toks) (λb o hb e=>(sb.2 b hb).trans e) f0 f1 f3 f4 f5;obtain⟨o,e,c,d⟩:=id st';exact⟨u,rfl,Qp4 (s:={ s with heap:=h' }) e c d (by decide) ⟨x,H,I1,ru,⟨rfl,λys hy=>by rw[I.tuple_inj hy hq];exact hx⟩,st',λb hb=>(hf b hb).1⟩⟩
 done:=by
  intro X hP hw hK hc i pins s σ H E I hf st hg;subst hP hw hK;obtain⟨xs,hq,hx⟩:=hg;obtain⟨its,rv,p,hz⟩:=I.tuple hq;obtain⟨f0,f1,f2,f3,f4,f5⟩:=hf it (by simp);have hl:=rv.length;exact wpAny_pyNext_tuple_end (I.ok.hd hc) st (show s.heap.IsTuple a its.toArray from p) (by simp;omega) λh' eb=>⟨rfl,I.turned (t':=s.toks) (λb o hb e=>eb b o hb e) f0 f1 f3 f4 f5⟩
 self:=λ_ _ _ _ _ st h=>wpAny_pyIter_tupleiter st h
theorem Qj7{P:QC}{w:Jf}{K:PySem.W.Frag}{tg:Q1}(it:Addr)(lo:Int)(n:Nat):Turn P w K tg (Itr lo n) [it] it (λi h=>Qj2 h it (lo+(i:Nat)*1) ((n:Int) - (i:Nat)) 1) where
 mem:=by simp
 obj:=λi h st b hb=>by
  have e:b=it:=by simpa using hb
  subst e;exact⟨_,st,λv z=>by
   have z':Data.fields _=Data.cell v:=z;cases z'⟩
 keep:=λi h h' st k=>k it (by simp) _ st
 item:=by
  intro X hP hw hK hc i pins s σ H E I hf st hg;subst hP hw hK;obtain⟨f0,f1,f2,f3,f4,f5⟩:=hf it (by simp);have W:=QyN (prog:=X.prog) (w:=X.w) (I.ok.hd hc) it lo 1 n;refine W.item i s _ _ hg st λv h' tk hv st' kk=>?_
  obtain⟨t,rfl⟩:=hv;have I1:Inv X pins σ H { s with heap:=h',toks:=tk }:=I.turned (λb o hb e=>kk b o (by simpa using hb) e) f0 f1 f3 f4 f5;refine⟨_,rfl,Qp4 (s:={ s with heap:=h',toks:=tk }) (n := "range_iterator") st' rfl rfl (by decide) ⟨.int (lo+i),H,I1,⟨t,?_⟩,⟨rfl,rfl⟩,st',λb hb=>(hf b hb).1⟩⟩;rw[Int.mul_one]
 done:=by
  intro X hP hw hK hc i pins s σ H E I hf st hg;subst hP hw hK;obtain⟨f0,f1,f2,f3,f4,f5⟩:=hf it (by simp);exact Qro (I.ok.hd hc) st (by have:n<=i:=hg;omega) λh' eb=>⟨rfl,I.turned (t':=s.toks) (λb o hb e=>eb b o hb e) f0 f1 f3 f4 f5⟩
 self:=λ_ _ _ _ _ st h=>QcU st h
section
variable{X:Cx}{tg:Q1}
def Qz5(K:PySem.W.Frag)(tl:TE):TI:=λσ H R=>tl σ H λx H1=>∃a,x=.ref a/\(∃xs,SqL K H1 a xs)/\R (Itl K a) H1
def QBM(K:PySem.W.Frag)(tl:TE):TI:=λσ H R=>tl σ H λx H1=>∃a,x=.ref a/\(∃xs,SqT K H1 a xs)/\R (Itt K a) H1
theorem Qtr{l:Q1}{tl:TE}(hl:PE X l tl):PI X tg l (Qz5 X.K tl):=by
 intro pins s σ H R I h;refine thn (hl pins s σ H _ I h) λv s1 ⟨x,H1,I1,r1,q1⟩=>?_
 obtain⟨a,e,⟨xs,hq⟩,q⟩:=q1;subst e;cases r1;obtain⟨its,rv,p,hz⟩:=I1.list hq;refine Qcd p.isList ?_
 refine⟨s1.heap.objs.size,[s1.heap.objs.size],_,_,H1,rfl,I1.kept (t':=s1.toks) λb o e=>Qf _ e,Qlk a _,⟨_,Qq _ rfl,rfl,rfl⟩,λb hb=>?_,q⟩;have e:b=s1.heap.objs.size:=by simpa using hb
 subst e;exact I1.fpOk (Qh _) (I1.hok.fresh (Qh _))
theorem QrX{l:Q1}{tl:TE}(hl:PE X l tl):PI X tg l (QBM X.K tl):=by
 intro pins s σ H R I h;refine thn (hl pins s σ H _ I h) λv s1 ⟨x,H1,I1,r1,q1⟩=>?_
 obtain⟨a,e,⟨xs,hq⟩,q⟩:=q1;subst e;cases r1;obtain⟨its,rv,p,hz⟩:=I1.tuple hq;refine Qfv (show s1.heap.IsTuple a its.toArray from p) ?_
 refine⟨s1.heap.objs.size,[s1.heap.objs.size],_,_,H1,rfl,I1.kept (t':=s1.toks) λb o e=>Qf _ e,Qj6 a _,⟨_,Qq _ rfl,rfl,rfl⟩,λb hb=>?_,q⟩;have e:b=s1.heap.objs.size:=by simpa using hb
 subst e;exact I1.fpOk (Qh _) (I1.hok.fresh (Qh _))
theorem QoU{pins:List (Addr×Obj)}{σ:St}{H:Hp}{s:Shared}{R:It->Hp->Prop}{E:Value->Shared->Prop}{lo hi:Int}{t u v:Tok}{tk:Nat}(I:Inv X pins σ H s)(h1 : -(2^62)<=lo)(h2:lo<2^62)(h3 : -(2^62)<=hi)(h4:hi<2^62)
  (q:R (Itr lo (hi - lo).toNat) H):wpAny (model X.prog X.w) X.A (pyIter (.ref s.heap.objs.size)) (PIE X pins σ tg R) E { s with heap:=s.heap.push { cls:=.type "range",data:=.fields #[.int lo t,.int hi u,.int 1 v] },toks:=tk }:=by
 refine wpAny_pyIter_range (IsRange.new ..) (small_one h1 h2 h3 h4) ?_
 have I1:Inv X pins σ H { s with heap:=s.heap.push { cls:=.type "range",data:=.fields #[.int lo t,.int hi u,.int 1 v] },toks:=tk }:=I.kept λb o e=>Qf _ e
 refine⟨(s.heap.push { cls:=.type "range",data:=.fields #[.int lo t,.int hi u,.int 1 v] }).objs.size,[(s.heap.push { cls:=.type "range",data:=.fields #[.int lo t,.int hi u,.int 1 v] }).objs.size],_,_,H,rfl,
  I1.kept (t':=tk) λb o e=>Qf _ e,Qj7 _ lo (hi - lo).toNat,?_,λb hb=>?_,q⟩
 ·have e1:lo+((0:Nat):Int)*1=lo:=by simp
  have e2:(((hi - lo).toNat:Nat):Int) - ((0:Nat):Int)=ZA lo hi 1:=by rw[Qod];split<;>omega
  show Qj2 _ _ (lo+((0:Nat):Int)*1) ((((hi - lo).toNat:Nat):Int) - ((0:Nat):Int)) 1;rw[e1,e2];exact Qq _ rfl
 ·have e:b=(s.heap.push { cls:=.type "range",data:=.fields #[.int lo t,.int hi u,.int 1 v] }).objs.size:=by simpa using hb
  subst e;exact I1.fpOk (Qh _) (I1.hok.fresh (Qh _))
def Qz4(ta:TA):TI:=λσ H R=>ta σ H λvs H1=>∃j:Int,vs=[.int j] /\ -(2^62)<=j/\j<2^62/\R (Itr 0 j.toNat) H1
theorem Qha{a:Q1}{ta:TA}{p pos:Pos}(hg:Gl X "range")(hm:X.mg "range" = none)(ha:PA X [a] ta)(hs:starEach [a] X.env=[(false,eval a X.env)]:=by rfl):PI X tg (.Call (.Name "range" p) [a] [] pos) (Qz4 ta):=by
 intro pins s σ H R I h;refine Call_ (Qca I hg hm boot_range (JV (thn (ha pos pins s σ H _ I h) λus s1 ⟨vs,H1,I1,r1,q1⟩=>?_) hs rfl));obtain⟨j,e,q1,q2,q⟩:=q1;subst e;cases r1 with
 |cons r rr=>
  cases rr;obtain⟨t,rfl⟩:=r;exact call_range_1 (QoU I1 (by omega) (by omega) q1 q2 (by simpa using q))
def tFor(wi:TI)(g:TG)(tb:TS):TS:=λD σ H=>wi σ H λJ H1=>∃W:Nat->Nat->St->Hp->Prop,(∃m,W 0 m σ H1)/\∀i m σ H,W i m σ H ->
 (J.stop i H/\D.nx σ H)∨(J.go i H/\∃N:St->Hp->Prop,(∀σ' H',N σ' H'->∃m',m'<m/\W (i+1) m' σ' H')/\∀x H',J.yld i H x H'->g x σ H' λσ2 H2=>tb { D with nx:=N,ct:=N,bk:=D.nx } σ2 H2)
def Qjo(fp:List Addr)(h:Heap):List (Addr×Obj):=fp.filterMap λb=>(h.get? b).map λo=>(b,o)
theorem Yc{fp:List Addr}{h:Heap}{b:Addr}{o:Obj}(hb:b∈fp)(e:h.get? b=some o):(b,o)∈Qjo fp h:=Qol.mpr ⟨b,hb,by rw[e];rfl⟩
theorem QmJ{fp:List Addr}{h:Heap}{p:Addr×Obj}(hp:p∈Qjo fp h):p.1∈fp/\h.get? p.1=some p.2:=by
 obtain⟨b,hb,e⟩:=Qol.mp hp;cases q:h.get? b with
 |none=>rw[q] at e;cases e
 |some o=>
  rw[q] at e;have e':(b,o)=p:=QK e;subst e';exact⟨hb,q⟩
theorem Inv.pinned{pins:List (Addr×Obj)}{σ:St}{H:Hp}{s:Shared}{fp:List Addr}(I:Inv X pins σ H s)(hf:∀b∈fp,FpOk X pins H b)(ho:∀b∈fp,∃o,s.heap.get? b=some o/\∀v,o.data≠.cell v):Inv X (pins++Qjo fp s.heap) σ H s:=
 I.pins_of λp hp=>(Q0.mp hp).elim (λz=>I.pin p (Qu _ z)) λz=>by
  obtain⟨hb,e⟩:=QmJ z;obtain⟨f0,f1,f2,_⟩:=hf p.1 hb;obtain⟨o,e',d⟩:=ho p.1 hb;rw[e] at e';cases e';exact⟨e,f0,f1,f2,d⟩
theorem Inv.unpinned{pins pl:List (Addr×Obj)}{σ:St}{H:Hp}{s:Shared}(I:Inv X (pins++pl) σ H s):Inv X pins σ H s:=I.pins_of λp hp=>I.pin p (Qu _ (JT _ hp))
theorem QrT{iter:Q1}{body:List ZY}{wi:TI}{g:TG}{tb:TS}{pos:Pos}(hp:QfA (model X.prog X.w) X.A X.env X.xe)(hc:X.calm=true)(hi:PI X tg iter wi)(hg:PG X tg g)(hb:PSs X body tb)
  (hs:∀x,foldedSetIterable iter X.env x=pure x:=by intro _;rfl):PS X (.For tg iter body [] pos) (tFor wi g tb):=by
 intro pins s σ H D I h;refine wpAny_For (thn (hi pins s σ H _ I h) λv s1 h1=>thn h1 λitv s2 h2=>?_) hs;obtain⟨it,fp,tn,J,H2,e,I2,T,st2,f2,W,⟨m0,w0⟩,turn⟩:=h2;subst e;have stat:∀{H':Hp},(∀b∈fp,H' b=none)->∀b∈fp,FpOk X pins H' b:=λhn b hb=>⟨hn b hb,(f2 b hb).2⟩
 refine codeAny_forLoop_any (λn s'=>∃i σ' H',Inv X pins σ' H' s'/\tn i s'.heap/\(∀b∈fp,H' b=none)/\W i n σ' H') ?_ m0 ⟨0,σ,H2,I2,st2,λb hb=>(f2 b hb).1,w0⟩
 rintro n s3 ⟨i,σ3,H3,I3,st3,fr3,w3⟩;rcases turn i n σ3 H3 w3 with⟨stop,qn⟩ | ⟨go,N,hN,step⟩
 ·refine YO hp (thn (T.done X rfl rfl rfl hc i pins s3 σ3 H3 X.xe I3 (stat fr3) st3 stop) λr s4 ⟨hr,I4⟩=>?_);subst hr;exact QdC ⟨σ3,H3,I4,qn⟩
 ·refine YO hp (thn (T.item X rfl rfl rfl hc i pins s3 σ3 H3 X.xe I3 (stat fr3) st3 go) λr s4 ⟨u,hr,h4⟩=>?_);subst hr;refine YO hp (thn h4 λ_ s5 ⟨x,H5,I5,r5,y5,st5,fr5⟩=>?_);have I5':=I5.pinned (stat fr5) (T.obj _ _ st5);refine YO hp (thn (hg _ s5 σ3 H5 x u _ I5' r5 (step x H5 y5)) λ_ s6 ⟨σ6,H6,I6,q6⟩=>?_);refine YO hp (thn (hb _ s6 σ6 H6 _ I6 q6) λf s7 q7=>?_);have again:∀{σ7:St}{H7:Hp},Inv X (pins++Qjo fp s5.heap) σ7 H7 s7->N σ7 H7->∃m,m<n/\∃i σ' H',Inv X pins σ' H' s7/\tn i s7.heap/\(∀b∈fp,H' b=none)/\W i m σ' H':=λ{σ7 H7} I7 n7=>by
   obtain⟨m',hm,w7⟩:=hN σ7 H7 n7;refine⟨m',hm,i+1,σ7,H7,I7.unpinned,T.keep _ _ _ st5 λb hb o e=>(I7.pin (b,o) (Qu _ (Qu _ (Yc hb e)))).1,λb hb=>?_,w7⟩;obtain⟨o,e,d⟩:=T.obj _ _ st5 b hb;exact(I7.pin (b,o) (Qu _ (Qu _ (Yc hb e)))).2.1
  cases f with
  |next=>obtain⟨σ7,H7,I7,n7⟩:=q7;exact again I7 n7
  |cont=>obtain⟨σ7,H7,I7,n7⟩:=q7;exact again I7 n7
  |brk=>obtain⟨σ7,H7,I7,q7⟩:=q7;exact⟨σ7,H7,I7.unpinned,q7⟩
  |ret v=>obtain⟨x7,σ7,H7,I7,r7,q7⟩:=q7;exact⟨x7,σ7,H7,I7.unpinned,r7,q7⟩
end
theorem Qng{lo:Int}{n:Nat}{g:TG}{tb:TS}{D:Ends}{σ:St}{H:Hp}(Pv:Nat->St->Hp->Prop)(h0:Pv 0 σ H)
  (hs:∀i σ H,i<n->Pv i σ H->g (.int (lo+i)) σ H λσ2 H2=>tb { D with nx:=Pv (i+1),ct:=Pv (i+1),bk:=D.nx } σ2 H2)(hd:∀σ H,Pv n σ H->D.nx σ H) :
  ∃W:Nat->Nat->St->Hp->Prop,(∃m,W 0 m σ H)/\∀i m σ H,W i m σ H ->
   ((Itr lo n).stop i H/\D.nx σ H)∨((Itr lo n).go i H/\∃N:St->Hp->Prop,(∀σ' H',N σ' H'->∃m',m'<m/\W (i+1) m' σ' H')/\∀x H',(Itr lo n).yld i H x H'->g x σ H' λσ2 H2=>tb { D with nx:=N,ct:=N,bk:=D.nx } σ2 H2):=by
 refine⟨λi m σ H=>m=n - i/\i<=n/\Pv i σ H,⟨n,by simp,Jc _,h0⟩,?_⟩;rintro i m σ H ⟨rfl,hi,p⟩;by_cases hlt:i<n
 ·refine .inr ⟨hlt,Pv (i+1),λσ' H' p'=>⟨n - (i+1),by omega,rfl,hlt,p'⟩,λx H' y=>?_⟩;obtain⟨e,y⟩:=y;subst e y;exact hs i σ _ hlt p
 ·have e:i=n:=by omega
  subst e;exact .inl ⟨Qh _,hd σ H p⟩
abbrev R2:=V->V->Hp->VK->Prop
def OpR(X:Cx)(f:Value->Value->Sem Value)(r:R2):Prop:=
 ∀(pins:List (Addr×Obj))(s:Shared)(σ:St)(H:Hp)(x y:V)(v u:Value)(Q:VK),Inv X pins σ H s->RelV x v->RelV y u->r x y H Q ->
  wpAny (model X.prog X.w) X.A (f v u) (EP X pins σ Q) X.xe s
def UnR(X:Cx)(f:Value->Sem Value)(r:V->Hp->VK->Prop):Prop:=
 ∀(pins:List (Addr×Obj))(s:Shared)(σ:St)(H:Hp)(x:V)(v:Value)(Q:VK),Inv X pins σ H s->RelV x v->r x H Q ->
  wpAny (model X.prog X.w) X.A (f v) (EP X pins σ Q) X.xe s
def CallR(X:Cx)(f:Value)(r:List V->Hp->VK->Prop):Prop:=
 ∀(pins:List (Addr×Obj))(s:Shared)(σ:St)(H:Hp)(xs:List V)(us:List Value)(Q:VK),Inv X pins σ H s->Vals xs us->r xs H Q ->
  wpAny (model X.prog X.w) X.A (call f us) (EP X pins σ Q) X.xe s
def QBR(X:Cx)(r:V->Hp->(Bool->Hp->Prop)->Prop):Prop:=
 ∀(pins:List (Addr×Obj))(s:Shared)(σ:St)(H:Hp)(x:V)(v:Value)(Q:Bool->Hp->Prop),Inv X pins σ H s->RelV x v->r x H Q ->
  wpAny (model X.prog X.w) X.A (truthy v) (TP X pins σ Q) X.xe s
def tOp(r:R2)(ta tb:TE):TE:=λσ H Q=>ta σ H λx H1=>tb σ H1 λy H2=>r x y H2 Q
def tUn(r:V->Hp->VK->Prop)(ta:TE):TE:=λσ H Q=>ta σ H λx H1=>r x H1 Q
def rI(C:Int->Int->Prop)(g:Int->Int->V):R2:=λx y H Q=>∃i j,x=.int i/\y=.int j/\C i j/\Q (g i j) H
def rI0(g:Int->Int->V):R2:=λx y H Q=>∃i j,x=.int i/\y=.int j/\Q (g i j) H
def rU(g:Int->V):V->Hp->VK->Prop:=λx H Q=>∃i,x=.int i/\Q (g i) H
section
variable{X:Cx}{a b c:Q1}{ta tb tc:TE}{pos:Pos}
theorem QAr(ha:PE X a ta)(hb:PE X b tb){pins:List (Addr×Obj)}{s:Shared}{σ:St}{H:Hp}{R:V->V->Hp->Prop}(I:Inv X pins σ H s)
  (h:ta σ H λx H1=>tb σ H1 λy H2=>R x y H2){Q:Value->Shared->Prop}{f:Value->Value->Sem Value}
  (hf:∀v u s2 x y H2,Inv X pins σ H2 s2->RelV x v->RelV y u->R x y H2->wpAny (model X.prog X.w) X.A (f v u) Q X.xe s2) :
  wpAny (model X.prog X.w) X.A (eval a X.env) (λv s₁=>wpAny (model X.prog X.w) X.A (eval b X.env) (λu s₂=>wpAny (model X.prog X.w) X.A (f v u) Q X.xe s₂) X.xe s₁) X.xe s:=by
 refine thn (ha pins s σ H _ I h) λv s1 ⟨x,H1,I1,r1,q1⟩=>?_
 refine thn (hb pins s1 σ H1 _ I1 q1) λu s2 ⟨y,H2,I2,r2,q2⟩=>?_
 exact hf v u s2 x y H2 I2 r1 r2 q2
theorem Qbd{op:Qcx}{r:R2}(ho:OpR X (binaryOp op) r)(ha:PE X a ta)(hb:PE X b tb):PE X (.BinOp a op b pos) (tOp r ta tb):=by
 intro pins s σ H Q I h;exact wpAny_BinOp (QAr ha hb I h λv u s2 x y H2 I2 rx ry q=>ho pins s2 σ H2 x y v u Q I2 rx ry q)
theorem Qzz{op:UnaryOp}{r:V->Hp->VK->Prop}(ho:UnR X (unaryOp op) r)(ha:PE X a ta):PE X (.UnaryOp op a pos) (tUn r ta):=by
 intro pins s σ H Q I h;exact UnaryOp_ (thn (ha pins s σ H _ I h) λv s1 ⟨x,H1,I1,r1,q1⟩=>ho pins s1 σ H1 x v Q I1 r1 q1)
theorem opI{f:Value->Value->Sem Value}{C:Int->Int->Prop}{g:Int->Int->Int}
  (rule:∀(i j:Int)(t u:Tok)(s:Shared)(Q:Value->Shared->Prop)(E:Value->Shared->Prop),C i j->Q (.int (g i j) s.toks) { s with toks:=s.toks+1 }->wpAny (model X.prog X.w) X.A (f (.int i t) (.int j u)) Q E s) :
  OpR X f (rI C λi j=>.int (g i j)):=by
 intro pins s σ H x y v u Q I rx ry h;obtain⟨i,j,rfl,rfl,hc,q⟩:=h;obtain⟨t,rfl⟩:=rx;obtain⟨t',rfl⟩:=ry;exact rule i j t t' s _ _ hc ⟨.int (g i j),H,I.tok _,⟨_,rfl⟩,q⟩
theorem Qyt{f:Value->Value->Sem Value}{g:Int->Int->Int}
  (rule:∀(i j:Int)(t u:Tok)(s:Shared)(Q:Value->Shared->Prop)(E:Value->Shared->Prop),Q (.int (g i j) s.toks) { s with toks:=s.toks+1 }->wpAny (model X.prog X.w) X.A (f (.int i t) (.int j u)) Q E s) :
  OpR X f (rI0 λi j=>.int (g i j)):=by
 intro pins s σ H x y v u Q I rx ry h;obtain⟨i,j,rfl,rfl,q⟩:=h;obtain⟨t,rfl⟩:=rx;obtain⟨t',rfl⟩:=ry;exact rule i j t t' s _ _ ⟨.int (g i j),H,I.tok _,⟨_,rfl⟩,q⟩
theorem Qyu{f:Value->Value->Sem Value}{g:Int->Int->Bool}
  (rule:∀(i j:Int)(t u:Tok)(s:Shared)(Q:Value->Shared->Prop)(E:Value->Shared->Prop),Q (.bool (g i j)) s->wpAny (model X.prog X.w) X.A (f (.int i t) (.int j u)) Q E s) :
  OpR X f (rI0 λi j=>.bl (g i j)):=by
 intro pins s σ H x y v u Q I rx ry h;obtain⟨i,j,rfl,rfl,q⟩:=h;obtain⟨t,rfl⟩:=rx;obtain⟨t',rfl⟩:=ry;exact rule i j t t' s _ _ ⟨.bl (g i j),H,I,rfl,q⟩
def QBl(i j:Int):Prop:=0<=j/\j<=1000000/\i.natAbs<2^64
def CMul(i j:Int):Prop:=(-(2^64)<i/\i<2^64)∨(-(2^64)<j/\j<2^64)
theorem CMul.ok{i j:Int}(h:CMul i j):IntMulOk i j:=by
 rcases h with⟨h1,h2⟩ | ⟨h1,h2⟩
 ·exact .of_left (intBits_le_64 h1 h2)
 ·exact .of_right (intBits_le_64 h1 h2)
theorem Qfk:OpR X (binaryOp .Add) (rI0 λi j=>.int (i+j)):=Qyt λ_ _ _ _ _ _ _ q=>add_int q
theorem Qem:OpR X (binaryOp .Sub) (rI0 λi j=>.int (i - j)):=Qyt λ_ _ _ _ _ _ _ q=>sub_int q
theorem Qfj:OpR X (binaryOp .Mult) (rI CMul λi j=>.int (i*j)):=opI λ_ _ _ _ _ _ _ hc q=>mul_int q hc.ok
theorem Qhh:OpR X (binaryOp .Mod) (rI (λ_ j=>0<j) λi j=>.int (i % j)):=opI λi j _ _ _ _ _ hc q=>by
 have h1:(0:Int)<j:=hc;exact mod_int' (by omega) (by rw[Int.fmod_eq_emod_of_nonneg i (by omega)];exact q)
theorem Qr2:OpR X (binaryOp .Pow) (rI QBl λi j=>.int (i^j.toNat)):=opI λ_ _ _ _ _ _ _ hc q=>pow_int_small hc.1 hc.2.1 hc.2.2 q
theorem Qjr:OpR X (binaryOp .LShift) (rI QBl λi j=>.int (i*2^j.toNat)):=opI λ_ _ _ _ _ _ _ hc q=>lshift_int_small hc.1 hc.2.1 hc.2.2 q
theorem Qw9:OpR X (binaryOp .BitAnd) (rI0 λi j=>.int (Qct i j)):=Qyt λ_ _ _ _ _ _ _ q=>and_int q
theorem QzL:OpR X (binaryOp .BitOr) (rI0 λi j=>.int (QcY i j)):=Qyt λ_ _ _ _ _ _ _ q=>or_int q
theorem unI{f:Value->Sem Value}{g:Int->Int}
  (rule:∀(i:Int)(t:Tok)(s:Shared)(Q:Value->Shared->Prop)(E:Value->Shared->Prop),Q (.int (g i) s.toks) { s with toks:=s.toks+1 }->wpAny (model X.prog X.w) X.A (f (.int i t)) Q E s) :
  UnR X f (rU λi=>.int (g i)):=by
 intro pins s σ H x v Q I rx h;obtain⟨i,rfl,q⟩:=h;obtain⟨t,rfl⟩:=rx;exact rule i t s _ _ ⟨.int (g i),H,I.tok _,⟨_,rfl⟩,q⟩
theorem QvR:UnR X (unaryOp .USub) (rU λi=>.int (-i)):=unI λ_ _ _ _ _ q=>neg_int q
end
def QAI:V->V->Bool
 |.non,.non=>true | .non,.int _=>true | .int _,.non=>true | .non,.bl _=>true | .bl _,.non=>true | .non,.str _=>true | .str _,.non=>true
 |.int _,.int _=>true | .bl _,.bl _=>true | .str _,.str _=>true | .byt _,.byt _=>true
 |.int _,.str _=>true | .str _,.int _=>true | .bl _,.str _=>true | .str _,.bl _=>true
 |_,_=>false
def rEq:R2:=λx y H Q=>QAI x y=true/\Q (.bl (decide (x=y))) H
def rNe:R2:=λx y H Q=>QAI x y=true/\Q (.bl (!decide (x=y))) H
theorem Qno{i j:Int}:decide (V.int i=V.int j)=(i == j):=by
 rw[J6];simp
theorem Qsf{i j:Bool}:decide (V.bl i=V.bl j)=(i == j):=by
 rw[J6];simp
theorem Qnn{i j:Str}:decide (V.str i=V.str j)=(i == j):=by
 rw[J6];simp
theorem Qnp{i j:Array UInt8}:decide (V.byt i=V.byt j)=(i.toList == j.toList):=by
 rw[J6];cases i;cases j;simp
section
variable{X:Cx}{a b c:Q1}{ta tb tc:TE}{pos:Pos}
theorem ZS{pins:List (Addr×Obj)}{σ:St}{H:Hp}{s:Shared}{Q:VK}{k k':Bool}(I:Inv X pins σ H s)(q:Q (.bl k) H)(e:k=k'):EP X pins σ Q (.bool k') s:=by
 subst e;exact⟨.bl k,H,I,rfl,q⟩
theorem QzN:OpR X (compareOp .Eq) rEq:=by
 intro pins s σ H x y v u Q I rx ry h;obtain⟨hs,q⟩:=h;cases x with
 |non=>
  cases rx;cases y with
  |non=>cases ry;exact PySem.EqNone.eq_none_none (ZS I q (by simp))
  |bl j=>cases ry;exact PySem.EqNone.eq_none_bool (ZS I q (by simp))
  |int j=>obtain⟨t',rfl⟩:=ry;exact PySem.EqNone.eq_none_int (ZS I q (by simp))
  |str j=>obtain⟨t',rfl⟩:=ry;exact PySem.EqNone.eq_none_str (ZS I q (by simp))
  |_=>exact absurd (show false=true from hs) Qi
 |bl i=>
  cases rx;cases y with
  |non=>cases ry;exact PySem.EqNone.eq_bool_none (ZS I q (by simp))
  |bl j=>cases ry;exact eq_bool (ZS I q Qsf)
  |str j=>obtain⟨t',rfl⟩:=ry;exact PySem.EqMixed.eq_bool_str (ZS I q (by simp))
  |_=>exact absurd (show false=true from hs) Qi
 |int i=>
  obtain⟨t,rfl⟩:=rx;cases y with
  |non=>cases ry;exact PySem.EqNone.eq_int_none (ZS I q (by simp))
  |int j=>obtain⟨t',rfl⟩:=ry;exact eq_int (ZS I q Qno)
  |str j=>obtain⟨t',rfl⟩:=ry;exact PySem.EqMixed.eq_int_str (ZS I q (by simp))
  |_=>exact absurd (show false=true from hs) Qi
 |str i=>
  obtain⟨t,rfl⟩:=rx;cases y with
  |non=>cases ry;exact PySem.EqNone.eq_str_none (ZS I q (by simp))
  |bl j=>cases ry;exact PySem.EqMixed.eq_str_bool (ZS I q (by simp))
  |int j=>obtain⟨t',rfl⟩:=ry;exact PySem.EqMixed.eq_str_int (ZS I q (by simp))
  |str j=>obtain⟨t',rfl⟩:=ry;exact eq_str (ZS I q Qnn)
  |_=>exact absurd (show false=true from hs) Qi
 |byt i=>
  obtain⟨t,rfl⟩:=rx;cases y with
  |byt j=>obtain⟨t',rfl⟩:=ry;exact PySem.W.eq_bytes (ZS I q Qnp)
  |_=>exact absurd (show false=true from hs) Qi
 |_=>cases y<;>exact absurd (show false=true from hs) Qi
theorem QzM:OpR X (compareOp .NotEq) rNe:=by
 intro pins s σ H x y v u Q I rx ry h;obtain⟨hs,q⟩:=h;cases x with
 |non=>
  cases rx;cases y with
  |non=>cases ry;exact PySem.EqNone.ne_none_none (ZS I q (by simp))
  |bl j=>cases ry;exact PySem.EqNone.ne_none_bool (ZS I q (by simp))
  |int j=>obtain⟨t',rfl⟩:=ry;exact PySem.EqNone.ne_none_int (ZS I q (by simp))
  |str j=>obtain⟨t',rfl⟩:=ry;exact PySem.EqNone.ne_none_str (ZS I q (by simp))
  |_=>exact absurd (show false=true from hs) Qi
 |bl i=>
  cases rx;cases y with
  |non=>cases ry;exact PySem.EqNone.ne_bool_none (ZS I q (by simp))
  |bl j=>cases ry;exact ne_bool (ZS I q (congrArg not Qsf))
  |str j=>obtain⟨t',rfl⟩:=ry;exact PySem.EqMixed.ne_bool_str (ZS I q (by simp))
  |_=>exact absurd (show false=true from hs) Qi
 |int i=>
  obtain⟨t,rfl⟩:=rx;cases y with
  |non=>cases ry;exact PySem.EqNone.ne_int_none (ZS I q (by simp))
  |int j=>obtain⟨t',rfl⟩:=ry;exact ne_int (ZS I q (congrArg not Qno))
  |str j=>obtain⟨t',rfl⟩:=ry;exact PySem.EqMixed.ne_int_str (ZS I q (by simp))
  |_=>exact absurd (show false=true from hs) Qi
 |str i=>
  obtain⟨t,rfl⟩:=rx;cases y with
  |non=>cases ry;exact PySem.EqNone.ne_str_none (ZS I q (by simp))
  |bl j=>cases ry;exact PySem.EqMixed.ne_str_bool (ZS I q (by simp))
  |int j=>obtain⟨t',rfl⟩:=ry;exact PySem.EqMixed.ne_str_int (ZS I q (by simp))
  |str j=>obtain⟨t',rfl⟩:=ry;exact ne_str (ZS I q (congrArg not Qnn))
  |_=>exact absurd (show false=true from hs) Qi
 |byt i=>
  obtain⟨t,rfl⟩:=rx;cases y with
  |byt j=>obtain⟨t',rfl⟩:=ry;exact PySem.W.ne_bytes (ZS I q (congrArg not Qnp))
  |_=>exact absurd (show false=true from hs) Qi
 |_=>cases y<;>exact absurd (show false=true from hs) Qi
theorem Qpv:OpR X (compareOp .Lt) (rI0 λi j=>.bl (decide (i<j))):=Qyu λ_ _ _ _ _ _ _ q=>lt_int q
theorem Qt1:OpR X (compareOp .LtE) (rI0 λi j=>.bl (decide (i<=j))):=Qyu λ_ _ _ _ _ _ _ q=>le_int q
theorem Qmu:OpR X (compareOp .Gt) (rI0 λi j=>.bl (decide (j<i))):=Qyu λ_ _ _ _ _ _ _ q=>gt_int q
theorem Qt3:OpR X (compareOp .GtE) (rI0 λi j=>.bl (decide (j<=i))):=Qyu λ_ _ _ _ _ _ _ q=>ge_int q
theorem OpR.or{f:Value->Value->Sem Value}{r r':R2}(h:OpR X f r)(h':OpR X f r'):OpR X f (λx y H Q=>r x y H Q∨r' x y H Q):=by
 intro pins s σ H x y v u Q I rx ry q;rcases q with q | q
 ·exact h pins s σ H x y v u Q I rx ry q
 ·exact h' pins s σ H x y v u Q I rx ry q
theorem ZW(b:Q1){op:QsF}(h:op≠.In:=by decide)(h2:op≠.NotIn:=by decide):behindInMarks op b=false:=by
 have e1:(op == CmpOp.In)=false:=by cases op<;>first | rfl | exact absurd rfl h
 have e2:(op == CmpOp.NotIn)=false:=by cases op<;>first | rfl | exact absurd rfl h2
 cases b<;>simp[behindInMarks,e1,e2]
theorem Qtx{op:QsF}{r:R2}(ho:OpR X (compareOp op) r)(ha:PE X a ta)(hb:PE X b tb)(hm:behindInMarks op b=false):PE X (.Compare a [op] [b] pos) (tOp r ta tb):=by
 intro pins s σ H Q I h;exact wpAny_Compare1 (QAr ha hb I h λv u s2 x y H2 I2 rx ry q=>ho pins s2 σ H2 x y v u Q I2 rx ry q) hm
def Qv0(t:TE):TT:=λσ H Q=>t σ H λx H'=>∃k,x=.bl k/\Q k H'
theorem QfX{op:QsF}{r:R2}(ho:OpR X (compareOp op) r)(ha:PE X a ta)(hb:PE X b tb)(hm:behindInMarks op b=false):PT X (.Compare a [op] [b] pos) (Qv0 (tOp r ta tb)):=by
 intro pins s σ H Q I h;refine wpAny_isTrue_Compare1 (thn (ha pins s σ H _ I h) λv s1 ⟨x,H1,I1,r1,q1⟩=>thn (hb pins s1 σ H1 _ I1 q1) λu s2 ⟨y,H2,I2,r2,q2⟩=>
  thn (ho pins s2 σ H2 x y v u _ I2 r1 r2 q2) λc s3 ⟨z,H3,I3,r3,k,e,q3⟩=>?_) hm
 subst e;cases r3;exact Zl ⟨H3,I3,q3⟩
def QrE(r r':R2)(ta tb tc:TE):TE:=λσ H Q=>ta σ H λx H1=>tb σ H1 λy H2=>r x y H2 λz H3=>∃k,z=.bl k /\
 (if k=true then tc σ H3 λw' H4=>r' y w' H4 Q else Q (.bl false) H3)
theorem Qo4{op op':QsF}{r r':R2}(ho:OpR X (compareOp op) r)(ho':OpR X (compareOp op') r')(ha:PE X a ta)(hb:PE X b tb)(hc:PE X c tc)
  (hm:lastMarks [op,op'] [b,c]=false:=by with_unfolding_all rfl):PE X (.Compare a [op,op'] [b,c] pos) (QrE r r' ta tb tc):=by
 intro pins s σ H Q I h;refine Compare_chain (thn (ha pins s σ H _ I h) λv s1 ⟨x,H1,I1,r1,q1⟩=>chain_link (thn (hb pins s1 σ H1 _ I1 q1) λu s2 ⟨y,H2,I2,r2,q2⟩=>
  thn (ho pins s2 σ H2 x y v u _ I2 r1 r2 q2) λd s3 ⟨z,H3,I3,r3,k,e,q3⟩=>?_)) hm
 subst e;cases r3;refine Zl ?_
 cases k with
 |false=>exact ite_ff ⟨.bl false,H3,I3,rfl,q3⟩
 |true=>exact ite_tt (chain_last (thn (hc pins s3 σ H3 _ I3 q3) λw' s4 ⟨z',H4,I4,r4,q4⟩=>ho' pins s4 σ H4 y z' u w' Q I4 r2 r4 q4))
def QAv(K:PySem.W.Frag)(x:V)(H:Hp)(k:Bool):Prop:=
 match x with
 |.non=>k=false
 |.bl b=>k=b
 |.int i=>k=(i != 0)
 |.str y=>y.length<=sizeLine/\k=((y.length:Int) != 0)
 |.byt y=>y.size<=sizeLine/\k=((y.size:Int) != 0)
 |.ref p=>(∃xs,SqL K H p xs/\k = !xs.isEmpty)∨(∃xs,SqT K H p xs/\k = !xs.isEmpty)∨∃kvs,H p=some (.dK kvs)/\k = !kvs.isEmpty
 |_=>False
theorem QkB{κ:Type}{kvs:List (κ×V)}{vs:List (κ×Value)}(r:KV kvs vs):(!vs.isEmpty) = !kvs.isEmpty:=by
 cases r<;>rfl
theorem Qfp{xs:List V}{its:List Value}(r:Vals xs its):(!its.toArray.isEmpty) = !xs.isEmpty:=by
 cases r<;>simp
theorem Qfn:(sizeLine:Nat)<2^63:=by rw[YQ];decide
theorem QvT:QBR X (λx H Q=>∃k,QAv X.K x H k/\Q k H):=by
 intro pins s σ H x v Q I rx h;obtain⟨k,e,q⟩:=h;have hl:=Qfn;have hs:sizeLine=16777216:=YQ;cases x with
 |non=>
  cases rx;have e':k=false:=e;subst e';exact truthy_none ⟨H,I,q⟩
 |bl b=>
  cases rx;have e':k=b:=e;subst e';exact Zl ⟨H,I,q⟩
 |int i=>
  obtain⟨t,rfl⟩:=rx;have e':k=(i != 0):=e;subst e';exact PySem.P.truthy_int ⟨H,I,q⟩
 |str y=>
  obtain⟨t,rfl⟩:=rx;obtain⟨hy,e'⟩:y.length<=sizeLine/\k=((y.length:Int) != 0):=e;subst e';exact PySem.P.truthy_str (by omega) ⟨H,I.tok _,q⟩
 |byt y=>
  obtain⟨t,rfl⟩:=rx;obtain⟨hy,e'⟩:y.size<=sizeLine/\k=((y.size:Int) != 0):=e;subst e';exact PySem.W.truthy_bytes (by omega) ⟨H,I.tok _,q⟩
 |ref p=>
  cases rx;have e':(∃xs,SqL X.K H p xs/\k = !xs.isEmpty)∨(∃xs,SqT X.K H p xs/\k = !xs.isEmpty)∨∃kvs,H p=some (.dK kvs)/\k = !kvs.isEmpty:=e
  rcases e' with⟨xs,hx,e'⟩ | ⟨xs,hx,e'⟩ | ⟨kvs,hx,e'⟩
  ·subst e';obtain⟨its,r,pl,hz⟩:=I.list hx;have hlen:=r.length;exact wpAny_truthy_list pl.isList (by simp only[Ql];omega) ⟨H,I.tok _,by rw[Qfp r];exact q⟩
  ·subst e';obtain⟨its,r,pl,hz⟩:=I.tuple hx;have hlen:=r.length;exact truthy_tuple pl (by simp only[Ql];omega) ⟨H,I.tok _,by rw[Qfp r];exact q⟩
  ·subst e';obtain⟨hz,hS,vs,r,m⟩:kvs.length<=sizeLine/\(p == sysModules)=false/\∃vs,KV kvs vs/\s.heap.DictOf (mixKind X.prog X.w) p vs:=I.hok p _ hx
   have hlen:kvs.length=vs.length:=Qvo r;exact wpAny_truthy_dict hS m (by omega) ⟨H,I.tok _,by rw[QkB r];exact q⟩
 |_=>exact(show False from e).elim
theorem QoW(ha:PE X a ta)(he:∀whole,isTrue a X.env whole=(do let v <- whole;standAt a.pos;holding [v] (truthy v))) :
  PT X a (λσ H Q=>ta σ H λx H'=>∃k,QAv X.K x H' k/\Q k H'):=by
 intro pins s σ H Q I h;exact isTrue_plain (thn (ha pins s σ H _ I h) λv s1 ⟨x,H1,I1,r1,q1⟩=>QvT pins s1 σ H1 x v Q I1 r1 q1) (he _)
theorem vals1{x:V}{us:List Value}(r:Vals [x] us):∃u,us=[u]/\RelV x u:=by
 cases r with
 |cons r1 r2=>cases r2;exact⟨_,rfl,r1⟩
theorem vals2{x y:V}{us:List Value}(r:Vals [x,y] us):∃u w',us=[u,w']/\RelV x u/\RelV y w':=by
 cases r with
 |cons r1 r2=>
  cases r2 with
  |cons r3 r4=>cases r4;exact⟨_,_,rfl,r1,r3⟩
theorem QhA(hc:X.calm=true):CallR X (.builtin "max") (λxs H Q=>∃i j,xs=[.int i,.int j]/\Q (.int (if j > i then j else i)) H):=by
 intro pins s σ H xs us Q I r h;obtain⟨i,j,rfl,q⟩:=h;obtain⟨u,w',rfl,⟨t,rfl⟩,⟨t',rfl⟩⟩:=vals2 r;refine max_two_ints (I.ok.hd hc) λh' tk k=>⟨_,H,I.kept k,?_,q⟩
 by_cases hj:j > i
 ·rw[if_pos hj,if_pos hj];exact⟨_,rfl⟩
 ·rw[if_neg hj,if_neg hj];exact⟨_,rfl⟩
theorem Qhz(hc:X.calm=true):CallR X (.builtin "min") (λxs H Q=>∃i j,xs=[.int i,.int j]/\Q (.int (if j<i then j else i)) H):=by
 intro pins s σ H xs us Q I r h;obtain⟨i,j,rfl,q⟩:=h;obtain⟨u,w',rfl,⟨t,rfl⟩,⟨t',rfl⟩⟩:=vals2 r;refine min_two_ints (I.ok.hd hc) λh' tk k=>⟨_,H,I.kept k,?_,q⟩
 by_cases hj:j<i
 ·rw[if_pos hj,if_pos hj];exact⟨_,rfl⟩
 ·rw[if_neg hj,if_neg hj];exact⟨_,rfl⟩
end
structure ObjM (h:Heap) (x dx C:Addr) (mA:Str->Option Value):Prop where
 obj:h.get? x=some (PySem.W.instObj C dx)
 ns:h.Ns1 dx mA
 ne:dx≠x
theorem QmW{h:Heap}{dx:Addr}{mA:Str->Option Value}(n:h.Ns1 dx mA):∃od,h.get? dx=some od/\∀name,PySem.W.lookIn name od=some (mA name):=by
 obtain⟨o,es,ep,ho,hd,hk,_,hm⟩:=n;refine⟨o,ho,λname=>?_⟩;have e:=hm name;unfold nsFind findBy at e;rw[<- Array.find?_toList] at e;unfold PySem.W.lookIn;rw[hd]
 dsimp only
 split
 ·rename_i y q
  rw[q] at e;exact congrArg some e
 ·rename_i q
  rw[q] at e;have a:es.toList.any (·.refKey)=false:=by
   rw[List.any_eq_false];intro y hy;obtain⟨z,t,hkey⟩:=hk y (QkY.mp hy);simp[DictEntry.refKey,hkey]
  have a':¬es.toList.any (·.refKey)=true:=by rw[a];exact Qi
  rw[if_neg a'];exact congrArg some e
theorem ObjM.look{h:Heap}{x dx C:Addr}{mA:Str->Option Value}(I:ObjM h x dx C mA):∃od,PySem.W.InstAt h x (PySem.W.instObj C dx) C (some od)/\∀name,PySem.W.lookIn name od=some (mA name):=
 let ⟨od,ho,hl⟩:=QmW I.ns
 ⟨od,⟨I.obj,rfl,rfl,ho⟩,hl⟩
section
variable{prog:QC}{w:Jf}{A:Ja}{E:Value->Shared->Prop}{s:Shared}{K:PySem.W.Frag}{x dx C f:Addr}{mA:Str->Option Value}{name:Str}{v:Value}
end
section
variable{P:QC}{w:Jf}{H H':Hp}{h h':Heap}{a C dx:Addr}{fs fs':List (Str×V)}
theorem QuH(hok:HOk P w H h)(e:H a=some (.ins C dx fs)):∃mA,ObjM h a dx C mA/\(∀f,QAw (fs.lookup f) (mA f))/\PySem.Within mA (fs.map (·.1))/\fs.length<=1000/\H dx=some (.own a):=by
 obtain⟨d,z,ne,ob,mA,n,r,q⟩:=(show ObjOk P w H h a (.ins C dx fs) from hok a _ e);exact⟨mA,⟨ob,n,ne⟩,r,q,z,d⟩
end
structure Cls (K:PySem.W.Frag) (C:Addr):Prop where
 pg:PySem.W.plainGet K C Str.empty=true
 hd:PySem.W.hasDictIn K C=true
 po:PySem.W.plainOver K C=true
 sa:PySem.W.findIn K (.ref C) "__setattr__" = some (some (.builtin "object.__setattr__"))
theorem Cls.get{K:PySem.W.Frag}{C:Addr}(c:Cls K C)(f:Str):PySem.W.plainGet K C f=true:=c.pg
section
variable{X:Cx}{pins:List (Addr×Obj)}{σ:St}{H:Hp}{s:Shared}{a C dx:Addr}{fs:List (Str×V)}{f:Str}{v:V}{A:Ja}{E:Value->Shared->Prop}
end
section
variable{X:Cx}{o e value:Q1}{f:Str}{pos pos' tpos:Pos}{ta tv:TE}
def rAdd:V->V->Hp->VK->Prop:=λx y H Q=>∃i j,x=.int i/\y=.int j/\Q (.int (i+j)) H
end
section
variable{X:Cx}{pins:List (Addr×Obj)}{σ:St}{H:Hp}{s:Shared}{A:Ja}{E:Value->Shared->Prop}{Q:Value->Shared->Prop}{c:Value}{b:Bool}
inductive TyOf (K:PySem.W.Frag) (H:Hp):V->Value->Prop where
 |non:TyOf K H .non (.type "NoneType")
 |bl (x:Bool):TyOf K H (.bl x) (.type "bool")
 |int (i:Int):TyOf K H (.int i) (.type "int")
 |str (x:Str):TyOf K H (.str x) (.type "str")
 |flt (x:UInt64):TyOf K H (.flt x) (.type "float")
 |lst {a:Addr} {xs:List V} (e:H a=some (.lst xs)):TyOf K H (.ref a) (.type "list")
 |frz {a:Addr} {o:Obj} {xs:List V} (e:H a=some (.frz o (.lst xs))):TyOf K H (.ref a) (.type "list")
 |tup {a:Addr} {xs:List V} (e:H a=some (.tup xs)):TyOf K H (.ref a) (.type "tuple")
 |dK {a:Addr} {kvs:List (Key×V)} (e:H a=some (.dK kvs)):TyOf K H (.ref a) (.type "dict")
 |dT {a:Addr} {kvs:List (List Key×V)} (e:H a=some (.dT kvs)):TyOf K H (.ref a) (.type "dict")
 |ins {a C dx:Addr} {fs:List (Str×V)} (e:H a=some (.ins C dx fs)) (cl:Cls K C) (ha:PySem.W.findIn K (.ref C) "__class__" = some (some (.builtin "object.__class__")))
   (hn:PySem.W.specialIn K (.builtin "object.__class__") "__get__" = some (some (.builtin "getset_descriptor.__get__"))) (htk:PySem.W.takesIn K (.builtin "object.__class__")=some true)
   (hm:PySem.W.mroIn K C (.type "object")=some true):TyOf K H (.ref a) (.ref C)
theorem Qm4{x:V}{u t:Value}(I:Inv X pins σ H s)(rx:RelV x u)(ty:TyOf X.K H x t)(e:PySem.W.kitOne X.K t c=some b)(h:∀tk,Q (.bool b) { s with toks:=tk }) :
  wpAny (model X.prog X.w) A (call (.builtin "isinstance") [u,c]) Q E s:=by
 cases ty with
 |non=>cases(show u=Js from rx);exact PySem.W.kia_one PySem.W.kitx_none I.kIn Qbu e (λz=>nomatch z) h
 |bl y=>cases(show u=Qbp y from rx);exact PySem.W.kia_one PySem.W.kitx_bool I.kIn Qbu e (λz=>nomatch z) h
 |int i=>obtain⟨t,q⟩:=(show ∃t,u=Y7 i t from rx);cases q;exact PySem.W.kia_one PySem.W.kitx_int I.kIn Qbu e (λz=>nomatch z) h
 |str y=>obtain⟨t,q⟩:=(show ∃t,u=Qsv y t from rx);cases q;exact PySem.W.kia_one PySem.W.kitx_str I.kIn Qbu e (λz=>nomatch z) h
 |flt y=>obtain⟨t,q⟩:=(show ∃t,u=QyP y t from rx);cases q;exact PySem.W.kia_one PySem.W.kitx_float I.kIn Qbu e (λz=>nomatch z) h
 |@lst a xs ea=>
  cases(show u=Zm a from rx);obtain⟨_,_,n,_,h1⟩:=(show ObjOk X.prog X.w H s.heap a (.lst xs) from I.hok a _ ea);exact PySem.W.kia_one PySem.W.kitx_list I.kIn ⟨_,h1,rfl⟩ e (λz=>nomatch z) h
 |@frz a ob xs ea=>
  cases(show u=Zm a from rx);obtain⟨_,_,_,n,_,h1⟩:=(show ObjOk X.prog X.w H s.heap a (.frz ob (.lst xs)) from I.hok a _ ea);exact PySem.W.kia_one PySem.W.kitx_list I.kIn ⟨_,h1,rfl⟩ e (λz=>nomatch z) h
 |@tup a xs ea=>
  cases(show u=Zm a from rx);obtain⟨_,_,_,p⟩:=(show ObjOk X.prog X.w H s.heap a (.tup xs) from I.hok a _ ea);obtain⟨o,h1,h2,_⟩:=p;exact PySem.W.kia_one PySem.W.kitx_tuple I.kIn ⟨o,h1,h2⟩ e (λz=>nomatch z) h
 |@dK a kvs ea=>
  cases(show u=Zm a from rx);obtain⟨_,_,vs,_,p⟩:=(show ObjOk X.prog X.w H s.heap a (.dK kvs) from I.hok a _ ea);obtain⟨o,es,ep,h1,h2,_⟩:=p;exact PySem.W.kia_one PySem.W.kitx_dict I.kIn ⟨o,h1,h2.1⟩ e (λz=>nomatch z) h
 |@dT a kvs ea=>
  cases(show u=Zm a from rx);obtain⟨_,_,xs,_,o,es,ep,h1,h2,_⟩:=(show ObjOk X.prog X.w H s.heap a (.dT kvs) from I.hok a _ ea);exact PySem.W.kia_one PySem.W.kitx_dict I.kIn ⟨o,h1,h2.1⟩ e (λz=>nomatch z) h
 |@ins a C dx fs ea cl ha hn htk hm=>
  cases(show u=Zm a from rx);obtain⟨mA,O,_⟩:=QuH I.hok ea;obtain⟨od,J,_⟩:=O.look;exact PySem.W.kia_one (PySem.W.kitx_own (cl.get _) cl.hd ha hn htk hm) I.kIn J e (λz=>nomatch z) h
end
structure Room (k:Nat) (A:Ja):Prop where
 hd:A.handled=none
 dp:A.depth+3*k+5<recursionLimit
 un:A.units+16*k+200<cLine
theorem Room.mono{j k:Nat}{A:Ja}(r:Room k A)(h:j<=k):Room j A:=⟨r.hd,by have:=r.dp;omega,by have:=r.un;omega⟩
theorem Room.deeper{k:Nat}{A:Ja}(r:Room (k+1) A)(env:Env):Room k (A.deeper env):=
 ⟨r.hd,by have:=r.dp;show A.depth+1+3*k+5<_;omega,by have:=r.un;show A.units+3+16*k+200<_;omega⟩
theorem Room.in1{k:Nat}{A:Ja}(r:Room (k+1) A):Room k A.in1:=
 ⟨r.hd,by have:=r.dp;show A.depth+3*k+5<_;omega,by have:=r.un;show A.units+1+16*k+200<_;omega⟩
theorem Room.depth{k:Nat}{A:Ja}(r:Room k A):A.depth<recursionLimit:=by have:=r.dp;omega
theorem Room.units{k:Nat}{A:Ja}(r:Room k A):A.units+64<cLine:=by have:=r.un;omega
def Qv2:TA:=λ_ H Q=>Q [] H
def QgV(ta:TE)(tr:TA):TA:=λσ H Q=>ta σ H λx H1=>tr σ H1 λxs H2=>Q (x::xs) H2
section
variable{X:Cx}{e:Q1}{es:List Q1}{te:TE}{t:TA}{pos:Pos}
theorem Yv:PA X [] Qv2:=λ_ _ _ _ H Q I h=>Calls.spliced_nil ⟨[],H,I,.nil,h⟩
theorem QbI(ha:PE X e te)(hr:PA X es t)(hs:starEach (e::es) X.env=(false,eval e X.env)::starEach es X.env:=by rfl):PA X (e::es) (QgV te t):=by
 intro pos pins s σ H Q I h;rw[hs];show wpAny _ _ (spliced ((false,eval e X.env)::backTo pos (starEach es X.env))) _ _ s;refine Calls.spliced_cons (thn (ha pins s σ H _ I h) λu s1 ⟨x,H1,I1,r1,q1⟩=>?_);exact thn (hr pos pins s1 σ H1 _ I1 q1) λus s2 ⟨xs,H2,I2,r2,q2⟩=>⟨x::xs,H2,I2,.cons r1 r2,q2⟩
def QBt(t:TA):TE:=λσ H Q=>t σ H λxs H1=>xs.length<=sizeLine/\∀p,H1 p=none->Q (.ref p) (upd H1 p (.lst xs))
theorem QrZ(h:PA X es t):PE X (.List es pos) (QBt t):=by
 intro pins s σ H Q I hq;refine Qyd (thn (h pos pins s σ H _ I hq) λus s1 ⟨xs,H1,I1,r,z,q⟩=>⟨by rw[<- r.length];exact z,?_⟩);have hf:H1 s1.heap.objs.size=none:=I1.hok.fresh (Qh _);refine⟨.ref s1.heap.objs.size,upd H1 s1.heap.objs.size (.lst xs),I1.laid (t':=s1.toks) (λb u e=>Qf _ e) (Qh _) ?_,rfl,q _ hf⟩;exact⟨z,us,0,r,Qq _ rfl⟩
end
abbrev Sp:=List V->Hp->VK->XK->Prop
abbrev CXT:=List Env->Hp->Shared->XK->Value->Shared->Prop
structure Env0 (P:QC) (w:Jf) (K:PySem.W.Frag) (mg:Str->Option Value) (base:Heap) (A:Ja) (outer:List Env) (s:Shared) (H:Hp):Prop where
 frames:A.frames=some outer
 mod:Mod K mg base
 bs:∀b o,base.get? b=some o->s.heap.get? b=some o/\H b=none
 bsz:base.objs.size<=s.heap.objs.size
 funs:s.heap.FunFrames base outer
 frf:∀b∈frs outer,H b=none
 hok:HOk P w H s.heap
 bare:QeX s.gens
def CE(outer:List Env)(P:QC)(w:Jf)(H:Hp)(s:Shared)(Q:VK)(u:Value)(s':Shared):Prop:=
 ∃v H',s'.os=s.os/\QeX s'.gens/\Un (frs outer) [] H H' s.heap s'.heap/\HOk P w H' s'.heap/\RelV v u/\Q v H'
def CR(CX:CXT)(outer:List Env)(P:QC)(w:Jf)(H:Hp)(s:Shared)(Q:VK)(E:XK)(r:QjX)(s':Shared):Prop:=
 match r with
 |.ok (.ret u)=>CE outer P w H s Q u s'
 |.ok _=>False
 |.error e=>CX outer H s E e s'
structure FnOk (P:QC) (w:Jf) (K:PySem.W.Frag) (mg:Str->Option Value) (base:Heap) (CX:CXT) (k:Nat) (f:Addr) (fd:QL) (ps:List Str) (sp:Sp):Prop where
 len:∀vs H Q E,sp vs H Q E->vs.length=ps.length
 run:∀(A:Ja)(outer:List Env)(s:Shared)(H:Hp)(args:Args)(us:List Value)(vs:List V)(Q:VK)(E:XK),Room k A->Env0 P w K mg base A outer s H->Qom s fd args (ps.zip us)->Vals vs us->sp vs H Q E ->
  codeAny (model P w) A (.call (.ref f) args) (CR CX outer P w H s Q E) s
theorem FnOk.imp{P:QC}{w:Jf}{K:PySem.W.Frag}{mg:Str->Option Value}{base:Heap}{CX:CXT}{k:Nat}{f:Addr}{fd:QL}{ps:List Str}{sp sp':Sp}(F:FnOk P w K mg base CX k f fd ps sp)
  (h:∀vs H Q E,sp' vs H Q E->sp vs H Q E):FnOk P w K mg base CX k f fd ps sp':=
 ⟨λvs H Q E q=>F.len vs H Q E (h _ _ _ _ q),λA outer s H args us vs Q E hr he hb hv hs=>F.run A outer s H args us vs Q E hr he hb hv (h _ _ _ _ hs)⟩
theorem Env0.in1{P:QC}{w:Jf}{K:PySem.W.Frag}{mg:Str->Option Value}{base:Heap}{A:Ja}{outer:List Env}{s:Shared}{H:Hp}(e:Env0 P w K mg base A outer s H) :
  Env0 P w K mg base A.in1 outer s H:=⟨e.frames,e.mod,e.bs,e.bsz,e.funs,e.frf,e.hok,e.bare⟩
section
variable{X:Cx}{pins:List (Addr×Obj)}{σ:St}{H:Hp}{s s':Shared}
theorem Inv.env0(I:Inv X pins σ H s):Env0 X.prog X.w X.K X.mg X.base X.A X.stack s H:=
 ⟨I.ok.frames,I.ok.mod,I.bs,QX I.ok.bsz I.sz,I.stack,I.stkFree,I.hok,I.bare⟩
theorem Inv.after{Q:VK}{u:Value}(I:Inv X pins σ H s)(h:CE X.stack X.prog X.w H s Q u s'):EP X pins σ Q u s':=by
 obtain⟨v,H',os,bare,un,hok,r,q⟩:=h;obtain⟨hh,g,d,t,os'⟩:=s';obtain rfl:os'=s.os:=os;exact⟨v,H',I.call (h':=hh) (g':=g) (d':=d) (t':=t) (ch:=[]) un hok bare (λb z=>absurd z (by simp)),r,q⟩
end
def Qv4(sp:Sp)(dvs:List V)(E:XK)(t:TA):TE:=λσ H Q=>t σ H λvs H1=>sp (vs++dvs) H1 Q E
def Binds(K:PySem.W.Frag)(fd:QL)(ps:List Str)(ds:List Value):Prop:=
 ∀(s:Shared)(us:List Value),K.In s.heap->(us++ds).length=ps.length->Qom s fd ⟨us,[]⟩ (ps.zip (us++ds))
theorem Binds.all{K:PySem.W.Frag}{fd:QL}{ps:List Str}(h:∀us:List Value,us.length=ps.length->bindArgs fd ⟨us,[]⟩=pure (ps.zip us)):Binds K fd ps []:=λs us _ hl=>by
 rw[ZB] at hl ⊢;exact .of_eq (h us hl)
def QeM(CX:CXT)(X:Cx)(E:XK):Prop:=∀(pins:List (Addr×Obj))(σ:St)(H:Hp)(s:Shared)(e:Value)(s':Shared),Inv X pins σ H s->CX X.stack H s E e s'->X.xe e s'
section
variable{X:Cx}{CX:CXT}{k:Nat}{f C:Addr}{fd:QL}{ps:List Str}{sp:Sp}{dvs:List V}{ds:List Value}{E:XK}{x m:Str}{p pos apos:Pos}{e o:Q1}{es:List Q1}{ta:TE}{t:TA}
theorem Qwf{pins:List (Addr×Obj)}{σ:St}{H:Hp}{s:Shared}{Q:VK}{us:List Value}{vs:List V}(F:FnOk X.prog X.w X.K X.mg X.base CX k f fd ps sp)(hr:Room k X.A)(hb:Binds X.K fd ps ds)(hd:Vals dvs ds)(hx:QeM CX X E)
  (I:Inv X pins σ H s)(r:Vals vs us)(h:sp (vs++dvs) H Q E):wpAny (model X.prog X.w) X.A (call (.ref f) us) (EP X pins σ Q) X.xe s:=by
 have r2:Vals (vs++dvs) (us++ds):=r.append hd;have hl:(us++ds).length=ps.length:=by rw[<- r2.length];exact F.len _ _ _ _ h
 refine QyH (QdE (F.run X.A X.stack s H ⟨us,[]⟩ (us++ds) (vs++dvs) Q E hr I.env0 (hb s us I.kIn hl) r2 h) λr s' hq=>?_);cases r with
 |error e=>exact hx pins σ H s e s' I hq
 |ok fl=>
  cases fl with
  |ret u=>exact I.after hq
  |next=>exact ZC hq
  |brk=>exact ZC hq
  |cont=>exact ZC hq
theorem Qip(F:FnOk X.prog X.w X.K X.mg X.base CX k f fd ps sp)(hr:Room k X.A)(hg:Gl X x)(hm:X.mg x=some (.ref f))(hk:PySem.W.keepIn X.K (.ref f)=true)(hb:Binds X.K fd ps ds)(hd:Vals dvs ds)(hx:QeM CX X E)
  (ha:PA X (e::es) t)(hdb:(x == ("__debug__" : Str))=false:=by decide)(he:starEach (e::es) X.env=(false,eval e X.env)::starEach es X.env:=by rfl)(hpl:(backTo pos (starEach es X.env)).any (·.1)=false:=by rfl) :
  PE X (.Call (.Name x p) (e::es) [] pos) (Qv4 sp dvs E t):=by
 intro pins s σ H Q I h;refine Qar (Qiz I hg hm ?_ hdb);refine PySem.W.callWith_K (h₀:=X.base) I.ok.mod.kin hk (thn (ha pos pins s σ H _ I h) λus s1 ⟨vs,H1,I1,r,q⟩=>⟨I1.kIn,?_⟩) he hpl;exact Qwf F hr hb hd hx I1 r q
end
section
variable{X:Cx}{CX:CXT}{k:Nat}{f C:Addr}{fd:QL}{ps ks:List Str}{sp:Sp}{E:XK}{x m:Str}{p pos apos kpos:Pos}{e o:Q1}{es:List Q1}{kws:List Qj1}{te ta:TE}{t tk:TA}{nm:Option Str}
variable{g:List Value->List Value->List Value}{gV:List V->List V->List V}
end
structure Jl (N P:List Str) (sc:YV):Prop where
 kind:sc.kind=.function
 co:sc.isCoroutine=false
 gen:sc.isGenerator=false
 nd:N.Nodup
 pre:N.take P.length=P
 par:∀x∈P,sc.names.lookup x=some .local∨sc.names.lookup x=some .cell
 nofree:∀y∈sc.names,y.2≠.free
theorem QhE{kindOf:Str->Option QaJ}{x:Str}:∀{binds:List (Str×Value)}{m:Str->Option Value},(∀v,(x,v)∉binds)->bindL kindOf binds m x=m x
 |[],_,_=>rfl
 |(n,v)::r,m,h=>by
  unfold bindL;rw[QhE λw hw=>h w (JS _ hw)];split
  ·have:x≠n:=by rintro rfl;exact h v ZD
   simp[this]
  ·rfl
theorem QhG{kindOf:Str->Option QaJ}{x:Str}:∀{binds:List (Str×Value)}{m:Str->Option Value},(∀v,(x,v)∉binds)->bindC kindOf binds m x=m x
 |[],_,_=>rfl
 |(n,v)::r,m,h=>by
  unfold bindC;rw[QhG λw hw=>h w (JS _ hw)];split
  ·rfl
  ·have:x≠n:=by rintro rfl;exact h v ZD
   simp[this]
theorem QhF{kindOf:Str->Option QaJ}{x:Str}{v:Value}:∀{P:List Str}{vs:List Value}{i:Nat}{m:Str->Option Value},P.Nodup->P[i]? = some x->vs[i]? = some v->kindOf x=some .local ->
  bindL kindOf (P.zip vs) m x=some v
 |[],_,_,_,_,h,_,_=>by simp at h
 |_::_,[],_,_,_,_,h,_=>by simp at h
 |p::P,w::vs,0,m,nd,h1,h2,hk=>by
  simp at h1 h2;subst h1;subst h2;show bindL kindOf ((p,w)::P.zip vs) m p=_;unfold bindL;rw[QhE λv hv=>(Zn.mp nd).1 (QgE hv).1,if_pos hk];simp
 |p::P,w::vs,i+1,m,nd,h1,h2,hk=>by
  show bindL kindOf ((p,w)::P.zip vs) m x=_;unfold bindL;exact QhF (i:=i) (Zn.mp nd).2 (by simpa using h1) (by simpa using h2) hk
theorem QhH{kindOf:Str->Option QaJ}{x:Str}{v:Value}:∀{P:List Str}{vs:List Value}{i:Nat}{m:Str->Option Value},P.Nodup->P[i]? = some x->vs[i]? = some v->kindOf x≠some .local ->
  bindC kindOf (P.zip vs) m x=some v
 |[],_,_,_,_,h,_,_=>by simp at h
 |_::_,[],_,_,_,_,h,_=>by simp at h
 |p::P,w::vs,0,m,nd,h1,h2,hk=>by
  simp at h1 h2;subst h1;subst h2;show bindC kindOf ((p,w)::P.zip vs) m p=_;unfold bindC;rw[QhG λv hv=>(Zn.mp nd).1 (QgE hv).1,if_neg hk];simp
 |p::P,w::vs,i+1,m,nd,h1,h2,hk=>by
  show bindC kindOf ((p,w)::P.zip vs) m x=_;unfold bindC;exact QhH (i:=i) (Zn.mp nd).2 (by simpa using h1) (by simpa using h2) hk
def start(N:List Str)(vs:List V):St:=vs.map some++QR (N.length - vs.length) none
def Qn8(CX:CXT)(P:QC)(w:Jf)(K:PySem.W.Frag)(mg:Str->Option Value)(base:Heap)(N:List Str)(qual:Str)(scope:YV)(f:Addr)(cd:Value)(A:Ja)(outer:List Env)(s:Shared)(H:Hp)(E:XK):Cx where
 prog:=P
 w:=w
 K:=K
 mg:=mg
 base:=base
 A:=A.deeper (envOfC qual scope s.heap.objs.size f cd)
 N:=N
 s₀:=s
 H₀:=H
 env:=envOfC qual scope s.heap.objs.size f cd
 outer:=outer
 stack:=envOfC qual scope s.heap.objs.size f cd::outer
 ex:=[]
 calm:=true
 fn:=λ_=>true
 pn:=[]
 xe:=λe s'=>wpAny (model P w) (A.deeper (envOfC qual scope s.heap.objs.size f cd)) (leaving (envOfC qual scope s.heap.objs.size f cd) e) (λ_ s''=>CX outer H s E e s'') (λe' s''=>CX outer H s E e' s'') s'
theorem QjN{sc:YV}{n:Nat}{x:Str}(h:sc.names.lookup x=some .cell):∃c,(cellsFrom n sc.names []).lookup x=some c:=by
 have q:=PySem.W.cellsFrom_some sc.names n [] (.inl h);exact Option.isSome_iff_exists.mp q
theorem Qm6{CX:CXT}{P:QC}{w:Jf}{K:PySem.W.Frag}{mg:Str->Option Value}{base:Heap}{N ps:List Str}{qual:Str}{scope:YV}{f:Addr}{cd:Value}{A:Ja}{outer:List Env}{s s1:Shared}{H:Hp}{E:XK}{us:List Value}{vs:List V}
  (S:Jl N ps scope)(hd:A.handled=none)(e0:Env0 P w K mg base A outer s H)(hl:vs.length=ps.length)(r:Vals vs us)
  (x:InCallC s s.heap.objs.size (bindL (envOfC qual scope s.heap.objs.size f cd).kindOf (ps.zip us) λ_=>none) (cellsFrom (s.heap.objs.size+1) scope.names []) (bindC (envOfC qual scope s.heap.objs.size f cd).kindOf (ps.zip us) λ_=>none) s1) :
  Inv (Qn8 CX P w K mg base N qual scope f cd A outer s H E) [] (start N vs) H s1:=by
 have hpl:ps.length<=N.length:=by have:=congrArg List.length S.pre;rw[YY] at this;omega
 obtain⟨h1,tk,rfl,hk⟩:=x.done;have noA:∀b:Addr,b∉(Qn8 CX P w K mg base N qual scope f cd A outer s H E).ex:=λb z=>absurd (show b∈([]:List Addr) from z) (by simp)
 refine⟨⟨e0.mod,S.kind,rfl,rfl,Qh _,λy z c h1 h2=>?_,λy hy=>?_,λy c _ h=>?_,λ_=>hd,Around.frames_deeper e0.frames,.inr ⟨rfl,rfl⟩,λb z=>absurd z (noA b),e0.bs,e0.bsz,λb _ _=>noA b,λb z=>absurd z (noA b),e0.funs,e0.frf⟩,
  rfl,e0.bare,Un.kept hk,⟨_,x.toInCall.ns,λi y v h1 h2 h3=>?_⟩,λy c h=>⟨_,x.cell y c h⟩,e0.hok.fresh (Qh _),λy c h=>?_,λp hp=>absurd (show p∈([]:List (Addr×Obj)) from hp) (by simp),e0.hok.kept hk,?_⟩
 ·exact name_of_addr x.apart (PySem.mem_of_lookup h1) (PySem.mem_of_lookup h2)
 ·have hy:scope.names.lookup y=some .cell∨scope.names.lookup y=some .free:=hy;rcases hy with hy | hy
  ·exact QjN hy
  ·exact absurd rfl (S.nofree _ (PySem.mem_of_lookup hy))
 ·exact ZQ (x.above y c (PySem.mem_of_lookup h))
 ·have hi:i<vs.length:=by
   unfold start at h2;by_cases hi:i<vs.length
   ·exact hi
   ·rw[ZX (by simpa using hi)] at h2;rw[ZM] at h2;split at h2<;>cases h2
  have ha:vs[i]? = some v:=by
   unfold start at h2;rw[Z4 (by simpa using hi),Qo] at h2;cases e:vs[i]? with
   |none=>rw[e] at h2;cases h2
   |some a=>rw[e] at h2;cases h2;rfl
  obtain⟨u,hu,rv⟩:=r.get ha;have hp:ps[i]? = some y:=by
   rw[<- S.pre,List.getElem?_take_of_lt (by omega)];exact h1
  have ndP:ps.Nodup:=by rw[<- S.pre];exact S.nd.sublist (List.take_sublist _ _)
  refine⟨u,rv,?_⟩;rcases S.par y (Q8 hp) with k | k
  ·exact .inl ⟨k,QhF ndP hp hu k⟩
  ·obtain⟨c,e⟩:=QjN (n:=s.heap.objs.size+1) k;refine .inr ⟨.inl k,c,e,?_⟩;have q:=x.cell y c e;rw[QhH ndP hp hu (by show scope.names.lookup y≠_;rw[k];decide)] at q;exact q
 ·exact e0.hok.fresh (ZQ (x.above y c (PySem.mem_of_lookup h)))
 ·unfold start;show _=N.length;rw[Qr,Qc,Qaw];omega
theorem QAe{CX:CXT}{P:QC}{w:Jf}{K:PySem.W.Frag}{mg:Str->Option Value}{base:Heap}{k:Nat}{f:Addr}{name qual:Str}{params:Arguments}{body:List ZY}{scope:YV}{dV kV doc pm cdv ct oc:Value}{an od:Option Addr}
  {osl:Array (Option Value)} {N ps:List Str} {sp:Sp} (lk:K.lookup f=some ⟨oc,od,.func (PySem.W.fnOf name qual params body scope dV kV doc pm an cdv ct),osl⟩) (hcd:PySem.W.codeIn K cdv qual=true) (S:Jl N ps scope)
  (len:∀vs H Q E,sp vs H Q E->vs.length=ps.length)
  (hbody:∀(A:Ja)(outer:List Env)(s:Shared)(H:Hp)(vs:List V)(Q:VK)(E:XK),Room k (A.deeper (envOfC qual scope s.heap.objs.size f cdv))->sp vs H Q E ->
   ∃t,PSs (Qn8 CX P w K mg base N qual scope f cdv A outer s H E) body t/\t { nx:=λ_ H'=>Q .non H',rt:=Q } (start N vs) H) :
  FnOk P w K mg base CX (k+1) f (PySem.W.fnOf name qual params body scope dV kV doc pm an cdv ct) ps sp:=by
 refine⟨len,λA outer s H args us vs Q E hr e0 hb r hsp=>?_⟩;have hl:=len _ _ _ _ hsp;have KX:K.In s.heap:=e0.mod.kin.keeps λb o e=>(e0.bs b o e).1
 have lim:s.heap.NoLimit:=e0.mod.nolimit.keeps λb o e=>(e0.bs b o e).1
 have hkind:∀y∈ps.zip us,scope.names.lookup y.1=some .local∨(scope.names.lookup y.1=some .cell/\((cellsFrom (s.heap.objs.size+1) scope.names []).lookup y.1).isSome=true):=λ⟨n,v⟩ hy=>by
  rcases S.par n (QgE hy).1 with q | q
  ·exact .inl q
  ·exact .inr ⟨q,PySem.W.cellsFrom_some _ _ _ (.inl q)⟩
 refine codeAny_call_function hr.depth (KX _ _ lk) rfl S.co S.gen rfl (PySem.W.codeRec_of KX hcd) (hb _ _ _ _ ?_);refine wpAny_newFunctionEnv_cells S.kind hkind λenv he s1 x=>?_
 subst he;refine⟨lim.keeps x.toInCall.keep,codeAny_func ?_⟩;obtain⟨t,ht,hq⟩:=hbody A outer s H vs Q E (hr.deeper _) hsp;have I:Inv (Qn8 CX P w K mg base N qual scope f cdv A outer s H E) [] (start N vs) H s1:=Qm6 S hr.hd e0 hl r x;refine wpAny_mono (ht [] s1 (start N vs) H _ I hq) (λfl s' hs=>?_) λe s' hs=>hs
 have fin:∀{σ':St}{H':Hp}{v:V}{u:Value},Inv (Qn8 CX P w K mg base N qual scope f cdv A outer s H E) [] σ' H' s'->RelV v u->Q v H'->CE outer P w H s Q u s':=
  λ{σ' H' v u} J rv q=>⟨v,H',J.os,J.bare,J.base,J.hok,rv,q⟩
 cases fl with
 |ret u=>
  obtain⟨v,σ',H',J,rv,q⟩:=hs;exact fin J rv q
 |next=>
  obtain⟨σ',H',J,q⟩:=hs;exact fin (v:=V.non) (u:=Js) J rfl q
 |brk=>
  obtain⟨_,_,_,q⟩:=hs;exact ZC q
 |cont=>
  obtain⟨_,_,_,q⟩:=hs;exact ZC q
section
variable{X:Cx}{x:Str}{p pos:Pos}{e:Q1}{es:List Q1}{t:TA}{id T:String}{r:List V->Hp->VK->Prop}
def tCB(r:List V->Hp->VK->Prop)(t:TA):TE:=λσ H Q=>t σ H λvs H1=>r vs H1 Q
theorem QcJ(hc:CallR X (.builtin id) r)(hg:Gl X x)(hm:X.mg x=none)(hv:bootBuiltins x=some (.builtin id))(ha:PA X (e::es) t)(hn:x ≠ "__name__" := by decide)(hdb:(x == ("__debug__" : Str))=false:=by decide)
  (he:starEach (e::es) X.env=(false,eval e X.env)::starEach es X.env:=by rfl)(hpl:(backTo pos (starEach es X.env)).any (·.1)=false:=by rfl):PE X (.Call (.Name x p) (e::es) [] pos) (tCB r t):=by
 intro pins s σ H Q I h;refine Qar (Qca I hg hm hv ?_ hn hdb);exact PyProof.Rows.callWith_builtin1 (thn (ha pos pins s σ H _ I h) λus s1 ⟨vs,H1,I1,r1,q1⟩=>hc pins s1 σ H1 vs us Q I1 r1 q1) he hpl
theorem Qhb(hc:CallR X (.type T) r)(hg:Gl X x)(hm:X.mg x=none)(hv:bootBuiltins x=some (.type T))(ha:PA X (e::es) t)(hn:x ≠ "__name__" := by decide)(hdb:(x == ("__debug__" : Str))=false:=by decide)
  (he:starEach (e::es) X.env=(false,eval e X.env)::starEach es X.env:=by rfl)(hpl:(backTo pos (starEach es X.env)).any (·.1)=false:=by rfl):PE X (.Call (.Name x p) (e::es) [] pos) (tCB r t):=by
 intro pins s σ H Q I h;refine Qar (Qca I hg hm hv ?_ hn hdb);exact JV (thn (ha pos pins s σ H _ I h) λus s1 ⟨vs,H1,I1,r1,q1⟩=>hc pins s1 σ H1 vs us Q I1 r1 q1) he hpl
end
end L2
namespace HT
theorem Qjl(A:Ja)(s:Shared)(a:Int)(t:Tok)(c:Int)(u:Tok)(prog:QC)(w:Jf)(E:Value->Shared->Prop)(Q:Value->Shared->Prop)(h:Q (.bool (decide (a<c))) s) :
  wpAny (model prog w) A (richCompare .Lt (.int a t) (.int c u)) Q E s:=
 (PyProof.Rows.lt_int h:wpAny (model prog w) A (compareOp .Lt (.int a t) (.int c u)) Q E s)
section
open PySem.SeqAt
open PySem.AutoSeq1 (wpAny_loadPart')
open PySem.MeetsSeq PySem.MeetsSeq2 PySem.MeetsSeq3
end
section
variable{prog:QC}{w:Jf}{A:Ja}{E:Value->Shared->Prop}{s:Shared}
theorem Qu8{t b:Addr}{vs ws:List Value}{Q:Value->Shared->Prop}(ht:IsTup s.heap t vs.toArray)(hb:IsTup s.heap b ws.toArray)(hv:vs≠[])
  (h1:ws=[]->Q (.ref t) s)(h2:ws≠[]->Q (.ref s.heap.objs.size) { s with heap:=s.heap.push { cls:=.type "tuple",data:=.seq (vs++ws).toArray } })
  (hsz:vs.length+ws.length<=sizeLine):wpAny (model prog w) A (binaryOp .Add (.ref t) (.ref b)) Q E s:=by
 obtain⟨⟨cls,dd,data,sl⟩,ho,hc,n,hd⟩:=id ht;obtain⟨⟨cls2,dd2,data2,sl2⟩,ho2,hc2,n2,hd2⟩:=id hb;simp only at hc hd hc2 hd2;subst hc hd hc2 hd2;have e:vs.toArray++ws.toArray=(vs++ws).toArray:=by simp
 by_cases hw:ws=[]
 ·exact Qsu ⟨_,ho,rfl⟩ ⟨_,ho2,rfl⟩ QhW Qoc PySem.F.slot_tuple_add PySem.F.entry_tuple_add (PySem.F.args_tuple_add_2 _ _)
   (tuple_addW1 t b vs.toArray ws.toArray n n2 dd dd2 sl sl2 (by simpa using hv) (by simp[hw])) ⟨ho,ho2,h1 hw⟩
 ·refine Qsu ⟨_,ho,rfl⟩ ⟨_,ho2,rfl⟩ QhW Qoc PySem.F.slot_tuple_add PySem.F.entry_tuple_add (PySem.F.args_tuple_add_2 _ _)
   (tuple_addW2 t b vs.toArray ws.toArray n n2 dd dd2 sl sl2 (by simpa using hv) (by simpa using hw) (by rw[Ql,Ql];exact hsz)) ⟨ho,ho2,?_⟩
  rw[e];exact h2 hw
def sIx(n d:Nat):Option Int->Nat
 |none=>d
 |some v=>if v<0 then(v+(n:Int)).toNat else min v.toNat n
theorem QfQ(n d:Nat):sIx n d none=d:=rfl
theorem QlT(n d k:Nat):sIx n d (some (k:Int))=min k n:=by
 show(if(k:Int)<0 then((k:Int)+(n:Int)).toNat else min (k:Int).toNat n)=min k n;rw[if_neg (by omega),QV]
theorem Qwe(n d:Nat)(hd:d<=n)(o:Option Int):sIx n d o<=n:=by
 cases o with
 |none=>exact hd
 |some v=>
  show(if v<0 then(v+(n:Int)).toNat else min v.toNat n)<=n;by_cases hv:v<0
  ·rw[if_pos hv];omega
  ·rw[if_neg hv];exact QfB _ _
theorem Qnx(v:Int)(n d:Nat):(if v<0 then max (v+(n:Int)) 0 else min v (n:Int))=((sIx n d (some v):Nat):Int):=by
 show(if v<0 then max (v+(n:Int)) 0 else min v (n:Int))=(((if v<0 then(v+(n:Int)).toNat else min v.toNat n):Nat):Int);by_cases hv:v<0
 ·simp only[if_pos hv];omega
 ·simp only[if_neg hv];omega
theorem QkR(lo hi:Option Int)(n:Nat):QaA lo hi 1 (n:Int)=(((sIx n 0 lo:Nat):Int),((sIx n n hi:Nat):Int)):=by
 have h1:¬((1:Int)<0):=by omega
 unfold QaA;simp only[h1,if_false];refine QdK ?_ ?_
 ·cases lo with
  |none=>rfl
  |some v=>exact Qnx v n 0
 ·cases hi with
  |none=>rfl
  |some v=>exact Qnx v n n
theorem Qkp(i j:Nat):Yq (i:Int) (j:Int) 1=j - i:=by
 unfold Yq;have h1:(1:Int) > 0:=by omega
 simp only[h1,if_true,Int.ediv_one];split<;>omega
theorem Qfa{v:Value}{o:Option Int}{Q:Option Int->Shared->Prop}(p:QhQ v o)(h:Q o s):wpAny (model prog w) A (Qy6 v) Q E s:=by
 cases p with
 |none=>exact slicePart_none h
 |int i t=>exact slicePart_int h
theorem Qbk{sl:Addr}{vl vu:Value}{lo hi:Option Int}{n:Nat}{Q:Int×Int×Nat->Shared->Prop}(hs:s.heap.IsSliceOf sl vl vu .none)(pl:QhQ vl lo)(pu:QhQ vu hi)
  (h:Q (((sIx n 0 lo:Nat):Int),1,sIx n n hi - sIx n 0 lo) s):wpAny (model prog w) A (Qdq (.ref sl) (pure (n:Int))) Q E s:=by
 obtain⟨os,hos,hcs,hds⟩:=id hs;unfold Qdq Qy7;refine wpAny_bind (wpAny_bind (Zg hos hds (x:=vl) rfl (wpAny_bind (Zg hos hds (x:=vu) rfl (wpAny_bind (Zg hos hds (x:=.none) rfl (wpAny_pure ?_)))))));refine wpAny_bind (slicePart_none ?_);show wpAny _ _ (if((1:Int) == 0)=true then _ else _) _ _ s;rw[if_neg (by decide)];refine wpAny_bind (Qfa pl (wpAny_bind (Qfa pu (wpAny_bind (wpAny_pure ?_)))));show wpAny _ _ (match QaA lo hi 1 (n:Int) with | (lo,hi)=>pure (lo,(1:Int),Yq lo hi 1)) _ _ s;rw[QkR lo hi n];show wpAny _ _ (pure (((sIx n 0 lo:Nat):Int),(1:Int),Yq ((sIx n 0 lo:Nat):Int) ((sIx n n hi:Nat):Int) 1)) _ _ s;rw[Qkp];exact wpAny_pure h
theorem QoZ(xs:Array Value)(i k:Nat):((Qp k).filterMap λ(m:Nat)=>xs[((i:Int)+(m:Int)*1).toNat]?).toArray=((xs.toList.drop i).take k).toArray:=by
 have e:(λ(m:Nat)=>xs[((i:Int)+(m:Int)*1).toNat]?)=λm=>xs[i+m]? := by
  funext m
  have:((i:Int)+(m:Int)*1).toNat=i+m:=by omega
  rw[this]
 rw[e];have:=pick_run xs i k;rw[Yp] at this;have e2:((λx=>xs[x]?)∘λx=>i+x)=λm=>xs[i+m]? := rfl
 rw[e2] at this;rw[this]
theorem Qdj{t sl:Addr}{items:Array Value}{vl vu:Value}{lo hi:Option Int}{Q:Value->Shared->Prop}(ht:IsTup s.heap t items)(hs:s.heap.IsSliceOf sl vl vu .none)(pl:QhQ vl lo)(pu:QhQ vu hi)
  (hw:¬(sIx items.size 0 lo=0/\sIx items.size items.size hi=items.size))
  (h:Q (.ref s.heap.objs.size) { s with heap:=s.heap.push { cls:=.type "tuple",data:=.seq ((items.toList.drop (sIx items.size 0 lo)).take (sIx items.size items.size hi - sIx items.size 0 lo)).toArray } })
  (hsz:items.size<=sizeLine):wpAny (model prog w) A (getItem (.ref t) (.ref sl)) Q E s:=by
 have htake:sizeOk (.seq ((items.toList.drop (sIx items.size 0 lo)).take (sIx items.size items.size hi - sIx items.size 0 lo)).toArray):=by
  show((items.toList.drop (sIx items.size 0 lo)).take (sIx items.size items.size hi - sIx items.size 0 lo)).toArray.size<=sizeLine;rw[Ql,YY,Qe5,Q4];omega
 have hj:sIx items.size items.size hi<=items.size:=Qwe _ _ (Qh _) hi;obtain⟨os,hos,hcs,hds⟩:=id hs;have hTs:s.TypeIs (.ref sl) "slice" := ⟨os,hos,hcs⟩;unfold getItem
 try with_reducible refine J1 ?_
 first | refine wpAny_bind (wpAny_pure ?_) | skip
 refine wpAny_bind (QyE ht.typeIs (by decide) ?_);refine wpAny_bind (Zc (name:=Y3 "__getitem__") ht.typeIs JY
  (JL JY ht.typeIs QvC ?_ (Qye _ _)))
 show wpAny _ _ (Qdp (.ref t) >>= _) _ _ s;refine wpAny_bind (tupleItemsOf_ ht ?_);refine wpAny_bind (QdA hTs ?_);rw[if_pos (by decide)];refine wpAny_bind (Qbk hs pl pu ?_);have hno:¬((((sIx items.size 0 lo:Nat):Int) == 0&&(1:Int) == 1&&(sIx items.size items.size hi - sIx items.size 0 lo) == items.size)=true):=by
  intro q;rw[JH,JH] at q;have q1:((sIx items.size 0 lo:Nat):Int)=0:=eq_of_beq q.1.1;have q2:sIx items.size items.size hi - sIx items.size 0 lo=items.size:=eq_of_beq q.2;exact hw ⟨by omega,by omega⟩
 show wpAny _ _ (if(((sIx items.size 0 lo:Nat):Int) == 0&&(1:Int) == 1&&(sIx items.size items.size hi - sIx items.size 0 lo) == items.size)=true then _ else _) _ _ s;rw[if_neg hno,QoZ]
 first
  |exact wpAny_bind (m:=YA _) (Jr (wpAny_pure ⟨_,rfl,wpAny_pure h⟩) htake)
  |exact wpAny_bind (m:=YA _) (Jr (wpAny_bind (wpAny_pure (wpAny_pure ⟨_,rfl,wpAny_pure h⟩))) htake)
  |exact wpAny_bind (wpAny_bind (m:=YA _) (Jr (wpAny_pure (wpAny_pure ⟨_,rfl,wpAny_pure h⟩)) htake))
  |exact wpAny_bind (wpAny_bind (m:=YA _) (Jr (wpAny_pure ⟨_,rfl,wpAny_pure h⟩) htake))
end
end HT
namespace L2
abbrev TO:=St->Hp->(Option Int->Hp->Prop)->Prop
def PO(X:Cx)(e:Option Q1)(t:TO):Prop:=
 ∀(pins:List (Addr×Obj))(s:Shared)(σ:St)(H:Hp)(Q:Option Int->Hp->Prop),Inv X pins σ H s->t σ H Q ->
  wpAny (model X.prog X.w) X.A (evalPart e X.env) (λu s'=>∃o H',Inv X pins σ H' s'/\QhQ u o/\Q o H') X.xe s
def QsU:TO:=λ_ H Q=>Q none H
def Qzf(t:TE):TO:=λσ H Q=>t σ H λx H1=>∃i,x=.int i/\Q (some i) H1
theorem intsAre_of{ns:List Int}:∀{us:List Value},Vals (ns.map V.int) us->Qbs us ns:=by
 induction ns with
 |nil=>intro us r;rw[QyY] at r;cases r;exact .nil
 |cons n ns ih=>
  intro us r;rw[JF] at r;cases r with
  |cons r1 r2=>
   obtain⟨t,e⟩:=r1;subst e;exact .cons n t (ih r2)
section
variable{X:Cx}{e:Q1}{te:TE}{lo hi:Option Q1}{tl th:TO}{pos p2:Pos}
theorem Qto:PO X none QsU:=by
 intro pins s σ H Q I h;rw[evalPart_none];exact wpAny_pure ⟨none,H,I,.none,h⟩
theorem Qtn(h:PE X e te):PO X (some e) (Qzf te):=by
 intro pins s σ H Q I hw;rw[evalPart_some];refine thn (h pins s σ H _ I hw) λu s1 ⟨x,H1,I1,r1,q1⟩=>?_
 obtain⟨i,rfl,q⟩:=q1;obtain⟨t,rfl⟩:=r1;exact⟨some i,H1,I1,.int i t,q⟩
def SlR(X:Cx)(r:V->Option Int->Option Int->Hp->VK->Prop):Prop:=
 ∀(pins:List (Addr×Obj))(s:Shared)(σ:St)(H:Hp)(x:V)(v vl vu:Value)(lo hi:Option Int)(sl:Addr)(Q:VK),Inv X pins σ H s->RelV x v->s.heap.IsSliceOf sl vl vu .none->QhQ vl lo->QhQ vu hi->r x lo hi H Q ->
  ∃T id,typeLookup (.type T) "__getitem__" = pure (some (.builtin id))/\s.TypeIs v T/\wpAny (model X.prog X.w) X.A (getItem v (.ref sl)) (EP X pins σ Q) X.xe s
def tSl(r:V->Option Int->Option Int->Hp->VK->Prop)(te:TE)(tl th:TO):TE:=λσ H Q=>te σ H λx H1=>tl σ H1 λl H2=>th σ H2 λu H3=>r x l u H3 Q
theorem Qo0{r:V->Option Int->Option Int->Hp->VK->Prop}(hr:SlR X r)(he:PE X e te)(hl:PO X lo tl)(hu:PO X hi th):PE X (.Subscript e (.Slice lo hi none p2) pos) (tSl r te tl th):=by
 intro pins s σ H Q I h;refine Subscript_ (thn (he pins s σ H _ I h) λv s1 ⟨x,H1,I1,r1,q1⟩=>?_);refine wpAny_Slice (thn (hl pins s1 σ H1 _ I1 q1) λvl s2 ⟨l,H2,I2,pl,q2⟩=>thn (hu pins s2 σ H2 _ I2 q2) λvu s3 ⟨u,H3,I3,pu,q3⟩=>?_);rw[evalPart_none];refine wpAny_pure ?_
 have I4:Inv X pins σ H3 { s3 with heap:=s3.heap.push { cls:=.type "slice",data:=.fields #[vl,vu,.none] } }:=I3.kept (t':=s3.toks) λb ob q=>Qf _ q
 obtain⟨T,id,hT,ht,hg⟩:=hr pins { s3 with heap:=s3.heap.push { cls:=.type "slice",data:=.fields #[vl,vu,.none] } } σ H3 x v vl vu l u s3.heap.objs.size Q I4 r1 (Qyo ..) pl pu q3;show wpAny (model X.prog X.w) X.A (subscriptTail e (.Slice lo hi none p2) v (.ref s3.heap.objs.size)) (EP X pins σ Q) X.xe { s3 with heap:=s3.heap.push { cls:=.type "slice",data:=.fields #[vl,vu,.none] } };exact tail_any (ops:=[.ref s3.heap.objs.size,v]) ht hT hg (by with_unfolding_all rfl)
def QjL(xs:List V)(lo hi:Option Int):List V:=(xs.drop (HT.sIx xs.length 0 lo)).take (HT.sIx xs.length xs.length hi - HT.sIx xs.length 0 lo)
theorem QeH(xs:List V)(lo hi:Option Int):(QjL xs lo hi).length<=xs.length:=by
 unfold QjL;rw[YY,Qe5];omega
def QBw(K:PySem.W.Frag):V->Option Int->Option Int->Hp->VK->Prop:=λx lo hi H Q=>∃a xs,x=.ref a/\SqT K H a xs /\
 ¬(HT.sIx xs.length 0 lo=0/\HT.sIx xs.length xs.length hi=xs.length)/\∀p,H p=none->Q (.ref p) (upd H p (.tup (QjL xs lo hi)))
theorem Qv8:SlR X (QBw X.K):=by
 intro pins s σ H x v vl vu lo hi sl Q I rx hs pl pu h;obtain⟨a,xs,rfl,hx,hw,q⟩:=h;cases rx;obtain⟨its,r,ht,hz⟩:=I.tuple hx;have hlen:its.toArray.size=xs.length:=by rw[Ql];exact r.length.symm
 refine⟨"tuple",_,JY.lookup,ht.typeIs,?_⟩;refine HT.Qdj ht hs pl pu (by rw[hlen];exact hw) ?_ (by rw[hlen];exact hz)
 rw[hlen];refine⟨.ref s.heap.objs.size,_,I.laid (t':=s.toks) (o:=.tup (QjL xs lo hi)) (λb ob q=>Qf _ q) (Qh _) ?_,rfl,q _ (I.hok.fresh (Qh _))⟩;exact⟨QX (QeH xs lo hi) hz,_,(r.drop (HT.sIx xs.length 0 lo)).take (HT.sIx xs.length xs.length hi - HT.sIx xs.length 0 lo),TupN.new _ _⟩
def Qzr(K:PySem.W.Frag):R2:=λx y H Q=>∃a b xs ys,x=.ref a/\y=.ref b/\SqT K H a xs/\SqT K H b ys/\xs≠[]/\xs.length+ys.length<=sizeLine /\
 (ys=[]->Q (.ref a) H)/\(ys≠[]->∀p,H p=none->Q (.ref p) (upd H p (.tup (xs++ys))))
theorem Vals.nil_iff{xs:List V}{us:List Value}(r:Vals xs us):us=[]↔xs=[]:=by
 cases r with
 |nil=>simp
 |cons _ _=>simp
theorem Qt4:OpR X (binaryOp .Add) (Qzr X.K):=by
 intro pins s σ H x y v u Q I rx ry h;obtain⟨a,b,xs,ys,rfl,rfl,ha,hb,hx,hz,q1,q2⟩:=h;cases rx;cases ry;obtain⟨its,r1,p1,_⟩:=I.tuple ha;obtain⟨its2,r2,p2,_⟩:=I.tuple hb;refine HT.Qu8 p1 p2 (λz=>hx (r1.nil_iff.mp z)) (λz=>⟨.ref a,H,I,rfl,q1 (r2.nil_iff.mp z)⟩) (λz=>?_) (by rw[<- r1.length,<- r2.length];exact hz);refine⟨.ref s.heap.objs.size,_,I.laid (t':=s.toks) (o:=.tup (xs++ys)) (λb ob q=>Qf _ q) (Qh _) ?_,rfl,q2 (λw=>z (r2.nil_iff.mpr w)) _ (I.hok.fresh (Qh _))⟩;exact⟨by rw[Qr];exact hz,_,r1.append r2,TupN.new _ _⟩
end
def ixN(n:Nat)(i:Int):Option Nat:=if 0<=i then(if i<n then some i.toNat else none) else if -(n:Int)<=i then some (i+n).toNat else none
def atI{α:Type}(xs:List α)(i:Int):Option α:=(ixN xs.length i).bind λj=>xs[j]?
theorem Qm2{n:Nat}{i:Int}{j:Nat}(h:ixN n i=some j):seqIndex? i n=some j/\j<n /\ -(n:Int)<=i/\i<n:=by
 unfold ixN at h;by_cases h0:0<=i
 ·rw[if_pos h0] at h;by_cases h1:i<n
  ·rw[if_pos h1] at h;have e:i.toNat=j:=QK h;exact⟨by rw[QjV h0 h1,e],by omega,by omega,h1⟩
  ·rw[if_neg h1] at h;cases h
 ·rw[if_neg h0] at h;by_cases h1 : -(n:Int)<=i
  ·rw[if_pos h1] at h;have e:(i+n).toNat=j:=QK h;exact⟨by rw[QhM (by omega) h1,e],by omega,h1,by omega⟩
  ·rw[if_neg h1] at h;cases h
theorem QiS{α:Type}{xs:List α}{i:Int}{v:α}(h:atI xs i=some v):∃j,seqIndex? i xs.length=some j/\xs[j]? = some v/\j<xs.length /\ -(xs.length:Int)<=i/\i<xs.length:=by
 unfold atI at h;cases e:ixN xs.length i with
 |none=>rw[e] at h;cases h
 |some j=>
  rw[e] at h;obtain⟨h1,h2,h3,h4⟩:=Qm2 e;exact⟨j,h1,h,h2,h3,h4⟩
theorem Q6{α:Type}{xs:List α}{j:Nat}{v:α}(h:xs[j]? = some v):atI xs (j:Int)=some v:=by
 have hj:j<xs.length:=(QU.mp h).1;have e:ixN xs.length (j:Int)=some j:=by
  unfold ixN;rw[if_pos (by omega),if_pos (by omega)];simp
 unfold atI;rw[e];exact h
theorem QjR{α:Type}(xs:List α)(v:α):atI (xs++[v]) (-1)=some v:=by
 have hl:(xs++[v]).length=xs.length+1:=by simp
 have e:ixN (xs++[v]).length (-1)=some xs.length:=by
  unfold ixN;rw[hl,if_neg (by decide),if_pos (by omega)]
  congr 1
  omega
 unfold atI;rw[e];show(xs++[v])[xs.length]? = some v;simp
def QiW(b:Q1):Prop:=∀o i,subscripted b false o i=operate [o,i] (getItem o i)
def IxR(X:Cx)(r:R2):Prop:=
 ∀(value slice:Q1)(pins:List (Addr×Obj))(s:Shared)(σ:St)(H:Hp)(x y:V)(v u:Value)(Q:VK),Inv X pins σ H s->RelV x v->RelV y u->r x y H Q ->
  subscripted slice false v u=operate [v,u] (getItem v u)->wpAny (model X.prog X.w) X.A (subscriptTail value slice v u) (EP X pins σ Q) X.xe s
def MtR(X:Cx)(id:String)(r:V->List V->Hp->VK->Prop):Prop:=
 ∀(pins:List (Addr×Obj))(s:Shared)(σ:St)(H:Hp)(x:V)(xs:List V)(v:Value)(us:List Value)(Q:VK),Inv X pins σ H s->RelV x v->Vals xs us->r x xs H Q ->
  wpAny (model X.prog X.w) X.A (call (.builtin id) (v::us)) (EP X pins σ Q) X.xe s
section
variable{X:Cx}{a b:Q1}{ta tb:TE}{pos:Pos}
theorem Qmh{r:R2}(hr:IxR X r)(ha:PE X a ta)(hb:PE X b tb)(hs:QiW b):PE X (.Subscript a b pos) (tOp r ta tb):=by
 intro pins s σ H Q I h;exact Subscript_ (QAr ha hb I h λv u s2 x y H2 I2 rx ry q=>hr a b pins s2 σ H2 x y v u Q I2 rx ry q (hs _ _))
def Qys(K:PySem.W.Frag):R2:=λx y H Q=>∃p xs i v,x=.ref p/\y=.int i/\SqL K H p xs/\atI xs i=some v/\Q v H
def QAP(K:PySem.W.Frag):R2:=λx y H Q=>∃p xs i v,x=.ref p/\y=.int i/\SqT K H p xs/\atI xs i=some v/\Q v H
theorem Qgb:IxR X (Qys X.K):=by
 intro value slice pins s σ H x y v u Q I rx ry h hs;obtain⟨p,xs,i,z,rfl,rfl,hq,he,q⟩:=h;cases rx;obtain⟨t,rfl⟩:=ry;obtain⟨its,r,pl,hz⟩:=I.list hq;obtain⟨j,h1,h2,h3,h4,h5⟩:=QiS he;obtain⟨w,ew,rw'⟩:=r.get h2;have hl:=r.length;have hn:=Qfn;have fin:EP X pins σ Q w s:=⟨z,H,I,rw',q⟩;by_cases h0:0<=i
 ·have hj:i.toNat=j:=by
   rw[QjV h0 h5] at h1;exact QK h1
  exact item_listR pl.isList h0 (by omega) (by rw[hj];simpa using ew) fin hs
 ·have hj:(i+(its.toArray.size:Int)).toNat=j:=by
   rw[QhM (by omega) h4] at h1;rw[Ql,<- hl];exact QK h1
  exact Qrq (x:=w) pl.isList.typeIs QyL.lookup
   (Qrp (Q:=λr s'=>r=w/\EP X pins σ Q r s') pl.isList (by omega) (by rw[Ql]<;>omega) (by omega) (by rw[hj];simpa using ew) ⟨rfl,fin⟩) hs
theorem Qr7:IxR X (QAP X.K):=by
 intro value slice pins s σ H x y v u Q I rx ry h hs;obtain⟨p,xs,i,z,rfl,rfl,hq,he,q⟩:=h;cases rx;obtain⟨t,rfl⟩:=ry;obtain⟨its,r,pl,hz⟩:=I.tuple hq;obtain⟨j,h1,h2,h3,h4,h5⟩:=QiS he;obtain⟨w,ew,rw'⟩:=r.get h2;have hl:=r.length;have hn:=Qfn;have fin:EP X pins σ Q w s:=⟨z,H,I,rw',q⟩;exact Qrq (x:=w) pl.typeIs slot_tuple_getitem.lookup
  (getItem_tuple (j:=j) (Q:=λr s'=>r=w/\EP X pins σ Q r s') pl (by omega) (by omega) (by rw[Ql,<- hl];exact h1) (by simpa using ew) ⟨rfl,fin⟩) hs
theorem Qkx(its:List Value)(n j:Nat)(u:Value):ZE (·.setIfInBounds j u) { cls:=.type "list",data:=.seq its.toArray n }={ cls:=.type "list",data:=.seq (its.set j u).toArray n }:=by
 simp[ZE]
theorem Inv.lst{pins:List (Addr×Obj)}{σ:St}{H:Hp}{s:Shared}{p:Addr}{xs:List V}(I:Inv X pins σ H s)(h:H p=some (.lst xs)) :
  ∃(its:List Value)(n:Nat),Vals xs its/\s.heap.get? p=some { cls:=.type "list",data:=.seq its.toArray n }/\xs.length<=sizeLine:=by
 obtain⟨z,its,n,r,e⟩:=I.hok p _ h;exact⟨its,n,r,e,z⟩
theorem Inv.lstUpd{pins:List (Addr×Obj)}{σ:St}{H:Hp}{s:Shared}{p:Addr}{xs ys:List V}{its its':List Value}{n n':Nat}{f:Obj->Obj}(I:Inv X pins σ H s)(h:H p=some (.lst xs))
  (ho:s.heap.get? p=some { cls:=.type "list",data:=.seq its.toArray n })(hf:f { cls:=.type "list",data:=.seq its.toArray n }={ cls:=.type "list",data:=.seq its'.toArray n' })(r:Vals ys its')(hz:ys.length<=sizeLine)(t:Nat) :
  Inv X pins σ (upd H p (.lst ys)) { s with heap:=s.heap.update p f,toks:=t }:=by
 have e:(s.heap.update p f).get? p=some { cls:=.type "list",data:=.seq its'.toArray n' }:=by
  rw[J5 f ho (by rw[hf]<;>rfl),hf]
 refine I.write (x:=p) (e:=p) (by rw[h];trivial) (.inl rfl) (λb u hb q=>(Zu _ _ (Qbv hb)).trans q) ⟨_,e⟩ ?_
 exact⟨hz,its',n',r,e⟩
def Qwm:V->V->V->Hp->(Hp->Prop)->Prop:=λo i v H Q=>∃p xs k j,o=.ref p/\i=.int k/\H p=some (.lst xs)/\ixN xs.length k=some j/\Q (upd H p (.lst (xs.set j v)))
theorem Qjg:QAy X Qwm:=by
 intro pins s σ H o i v ov iv u Q I ro ri rv h;obtain⟨p,xs,k,j,rfl,rfl,hp,hj,q⟩:=h;cases ro;obtain⟨t,rfl⟩:=ri;obtain⟨its,n,r,ho,hz⟩:=I.lst hp;obtain⟨h1,h2,h3,h4⟩:=Qm2 hj;have hl:=r.length;have hn:=Qfn;have I':Inv X pins σ (upd H p (.lst (xs.set j v))) { s with heap:=s.heap.update p (ZE (·.setIfInBounds j u)) }:=
  I.lstUpd hp ho (Qkx its n j u) (r.set rv j) (by rw[Yb];exact hz) s.toks
 by_cases h0:0<=k
 ·have hk:k.toNat=j:=by
   rw[QjV h0 h4] at h1;exact QK h1
  exact PySem.W.ki_setAt ho h0 (by omega) (by rw[Ql,<- hl];exact h4) (by rw[hk];exact⟨_,I',q⟩)
 ·have hk:(k+(its.toArray.size:Int)).toNat=j:=by
   rw[QhM (by omega) h3] at h1;rw[Ql,<- hl];exact QK h1
  exact PySem.W.ki_setBack ho (by omega) (by rw[Ql,<- hl];exact h3) (by omega) (by rw[hk];exact⟨_,I',q⟩)
theorem Qg2(lo hi:Option Int)(n:Nat):(sliceBounds lo hi none n).1=((HT.sIx n 0 lo:Nat):Int)/\(sliceBounds lo hi none n).2.1=((HT.sIx n n hi:Nat):Int)/\(sliceBounds lo hi none n).2.2=1:=by
 refine⟨?_,?_,rfl⟩
 ·cases lo with
  |none=>simp[sliceBounds,HT.sIx]
  |some i=>
   simp only[sliceBounds,HT.sIx,Qoi,show(1:Int) > 0 by decide,if_true];by_cases h:i<0
   ·simp only[h,if_true]<;>omega
   ·simp only[h,if_false]<;>omega
 ·cases hi with
  |none=>simp[sliceBounds,HT.sIx]
  |some i=>
   simp only[sliceBounds,HT.sIx,Qoi,show(1:Int) > 0 by decide,if_true];by_cases h:i<0
   ·simp only[h,if_true]<;>omega
   ·simp only[h,if_false]<;>omega
theorem QfN(its:List Value)(lo hi:Option Int):slicePick its.toArray lo hi none=((its.drop (HT.sIx its.length 0 lo)).take (HT.sIx its.length its.length hi - HT.sIx its.length 0 lo)).toArray:=by
 obtain⟨h1,h2,h3⟩:=Qg2 lo hi its.toArray.size;unfold slicePick;rw[h1,h2,h3];simp only[sliceRange_one,pick_run,Ql]<;>rfl
def QBx(K:PySem.W.Frag):V->Option Int->Option Int->Hp->VK->Prop:=λx lo hi H Q=>∃a xs,x=.ref a/\SqL K H a xs/\∀p,H p=none->Q (.ref p) (upd H p (.lst (QjL xs lo hi)))
theorem Qs0:SlR X (QBx X.K):=by
 intro pins s σ H x v vl vu lo hi sl Q I rx hs pl pu h;obtain⟨a,xs,rfl,hx,q⟩:=h;cases rx;obtain⟨its,r,ht,hz⟩:=I.list hx;have hlen:=r.length;refine⟨"list",_,QyL.lookup,ht.isList.typeIs,?_⟩;refine wpAny_getItem_list_slice ht.isList hs pl pu .none (by simp) ?_ (by rw[Ql]<;>omega)
 rw[QfN,<- hlen];refine⟨.ref s.heap.objs.size,_,I.laid (t':=s.toks) (o:=.lst (QjL xs lo hi)) (λb ob q=>Qf _ q) (Qh _) ?_,rfl,q _ (I.hok.fresh (Qh _))⟩;exact⟨QX (QeH xs lo hi) hz,_,0,(r.drop (HT.sIx xs.length 0 lo)).take (HT.sIx xs.length xs.length hi - HT.sIx xs.length 0 lo),Qq _ rfl⟩
def Qgi:V->Bool
 |.non=>true
 |.bl _=>true
 |.int _=>true
 |.str _=>true
 |_=>false
def eqV:V->V->Bool
 |.non,.non=>true
 |.bl a,.bl b=>a == b
 |.bl a,.int b=>(if a then 1 else 0) == b
 |.int a,.bl b=>a == (if b then 1 else 0)
 |.int a,.int b=>a == b
 |.str a,.str b=>a == b
 |_,_=>false
theorem QxB{A:Ja}{s:Shared}{y x:V}{u v:Value}(ry:RelV y u)(rx:RelV x v)(fy:Qgi y=true)(fx:Qgi x=true):Qof A s u v (eqV y x):=by
 cases y with
 |non=>
  cases ry;cases x with
  |non=>cases rx;exact SeqAt.EqAt.same _
  |bl b=>cases rx;exact SeqAt.EqAt.none_bool b
  |int b=>obtain⟨t,rfl⟩:=rx;exact SeqAt.EqAt.none_int b t
  |str b=>obtain⟨t,rfl⟩:=rx;exact SeqAt.EqAt.none_str b t
  |_=>exact absurd (show false=true from fx) Qi
 |bl a=>
  cases ry;cases x with
  |non=>cases rx;exact SeqAt.EqAt.bool_none a
  |bl b=>cases rx;exact SeqAt.EqAt.bool_bool a b
  |int b=>obtain⟨t,rfl⟩:=rx;exact SeqAt.EqAt.bool_int a b t
  |str b=>obtain⟨t,rfl⟩:=rx;exact SeqAt.EqAt.bool_str a b t
  |_=>exact absurd (show false=true from fx) Qi
 |int a=>
  obtain⟨t',rfl⟩:=ry;cases x with
  |non=>cases rx;exact SeqAt.EqAt.int_none a t'
  |bl b=>cases rx;exact SeqAt.EqAt.int_bool a t' b
  |int b=>obtain⟨t,rfl⟩:=rx;exact SeqAt.EqAt.int_int a t' b t
  |str b=>obtain⟨t,rfl⟩:=rx;exact QhZ a t' b t
  |_=>exact absurd (show false=true from fx) Qi
 |str a=>
  obtain⟨t',rfl⟩:=ry;cases x with
  |non=>cases rx;exact SeqAt.EqAt.str_none a t'
  |bl b=>cases rx;exact SeqAt.EqAt.str_bool a t' b
  |int b=>obtain⟨t,rfl⟩:=rx;exact QhY a t' b t
  |str b=>obtain⟨t,rfl⟩:=rx;exact SeqAt.EqAt.str_str a t' b t
  |_=>exact absurd (show false=true from fx) Qi
 |_=>exact absurd (show false=true from fy) Qi
def eqU(x:V)(u:Value):Bool:=match u with
 |.none=>eqV .non x
 |.bool b=>eqV (.bl b) x
 |.int i _=>eqV (.int i) x
 |.str z _=>eqV (.str z) x
 |_=>false
theorem Qsc{x y:V}{u:Value}(r:RelV y u)(f:Qgi y=true):eqU x u=eqV y x:=by
 cases y with
 |non=>cases r;rfl
 |bl b=>cases r;rfl
 |int i=>obtain⟨t,rfl⟩:=r;rfl
 |str z=>obtain⟨t,rfl⟩:=r;rfl
 |_=>exact absurd (show false=true from f) Qi
theorem QiU{x:V}:∀{xs:List V}{us:List Value},Vals xs us->xs.all Qgi=true->us.any (eqU x)=xs.any λy=>eqV y x
 |_,_,.nil,_=>rfl
 |y::xs,u::us,.cons r t,f=>by
  rw[Qyn,JH] at f;rw[QdM,QdM,Qsc r f.1,QiU t f.2]
theorem Qf8{A:Ja}{s:Shared}{x:V}{v:Value}(rx:RelV x v)(fx:Qgi x=true):∀{xs:List V}{us:List Value},Vals xs us->xs.all Qgi=true->∀u∈us,Qof A s u v (eqU x u)
 |_,_,.nil,_=>λu hu=>by cases hu
 |y::xs,u::us,.cons r t,f=>λu' hu=>by
  rw[Qyn,JH] at f;rcases Qy.mp hu with rfl | hu
  ·rw[Qsc r f.1];exact QxB r rx f.1 fx
  ·exact Qf8 rx fx t f.2 u' hu
def inV(x:V)(xs:List V):Bool:=xs.any λy=>eqV y x
def rIn(K:PySem.W.Frag)(neg:Bool):R2:=λx y H Q=>∃p xs,y=.ref p/\(SqL K H p xs∨SqT K H p xs)/\Qgi x=true/\xs.all Qgi=true/\Q (.bl (if neg then !inV x xs else inV x xs)) H
theorem Qhg:OpR X (compareOp .NotIn) (rIn X.K true):=by
 intro pins s σ H x y v u Q I rx ry h;obtain⟨p,xs,rfl,hq,fx,fs,q⟩:=h;cases ry;rcases hq with hq | hq
 ·obtain⟨its,r,pl,hz⟩:=I.list hq;refine Qn2 (eqU x) pl.isList (λw hw=>Qf8 rx fx r fs w (by simpa using hw)) ⟨.bl _,H,I,rfl,?_⟩;rw[show its.toArray.any (eqU x)=its.any (eqU x) by simp,QiU r fs];exact q
 ·obtain⟨its,r,pl,hz⟩:=I.tuple hq;refine Qk3 (eqU x) pl (λw hw=>Qf8 rx fx r fs w (by simpa using hw)) ⟨.bl _,H,I,rfl,?_⟩;rw[show its.toArray.any (eqU x)=its.any (eqU x) by simp,QiU r fs];exact q
theorem QbN:CallR X (.builtin "len") (λxs H Q=>∃p ys,xs=[.ref p]/\(SqL X.K H p ys∨SqT X.K H p ys)/\Q (.int ys.length) H):=by
 intro pins s σ H xs us Q I r h;obtain⟨p,ys,rfl,hq,q⟩:=h;obtain⟨u,rfl,rx⟩:=vals1 r;cases rx;have hn:=Qfn;rcases hq with hq | hq
 ·obtain⟨its,r',pl,hz⟩:=I.list hq;have hlen:=r'.length;exact Calls.call_len_list pl.isList (by simp only[Ql]<;>omega) ⟨.int ys.length,H,I.tok _,⟨s.toks+1,by rw[Ql,hlen]⟩,q⟩
 ·obtain⟨its,r',pl,hz⟩:=I.tuple hq;have hlen:=r'.length;exact len_tuple pl (by simp only[Ql]<;>omega) ⟨.int ys.length,H,I.tok _,⟨s.toks+1,by rw[Ql,hlen]⟩,q⟩
theorem QhB:CallR X (.type "list") (λxs H Q=>∃p ys,xs=[.ref p]/\(SqL X.K H p ys∨SqT X.K H p ys)/\∀l,H l=none->Q (.ref l) (upd H l (.lst ys))):=by
 intro pins s σ H xs us Q I r h;obtain⟨p,ys,rfl,hq,q⟩:=h;obtain⟨u,rfl,rx⟩:=vals1 r;cases rx;have fin:∀(its:List Value),Vals ys its->ys.length<=sizeLine->∀(h':Heap)(c':Nat),(∀b o',s.heap.get? b=some o'->h'.get? b=some o') ->
   h'.get? s.heap.objs.size=some { cls:=.type "list",dict:=none,data:=.seq its.toArray c',slots:=#[] }->EP X pins σ Q (.ref s.heap.objs.size) { s with heap:=h' }:=λits r' hz h' c' kp e=>
  ⟨.ref s.heap.objs.size,_,I.laid (t':=s.toks) kp (Qh _) (show ObjOk X.prog X.w _ h' _ (.lst ys) from⟨hz,its,c',r',e⟩),rfl,q _ (I.hok.fresh (Qh _))⟩
 rcases hq with hq | hq
 ·obtain⟨its,r',pl,hz⟩:=I.list hq;have hlen:=r'.length;obtain⟨o,ho,hc,n,hd⟩:=pl.isList;exact call_list_seq p (.inl rfl) ho hc hd (λh' c' kp e=>fin its r' hz h' c' kp e) (by simp only[Ql]<;>omega)
 ·obtain⟨its,r',pl,hz⟩:=I.tuple hq;have hlen:=r'.length;obtain⟨o,ho,hc,n,hd⟩:=pl;exact call_list_seq p (.inr rfl) ho hc hd (λh' c' kp e=>fin its r' hz h' c' kp e) (by simp only[Ql]<;>omega)
theorem QcM:CallR X (.type "tuple") (λxs H Q=>∃p ys,xs=[.ref p]/\((SqL X.K H p ys/\∀l,H l=none->Q (.ref l) (upd H l (.tup ys)))∨(SqT X.K H p ys/\Q (.ref p) H))):=by
 intro pins s σ H xs us Q I r h;obtain⟨p,ys,rfl,h⟩:=h;obtain⟨u,rfl,rx⟩:=vals1 r;cases rx;rcases h with⟨hq,q⟩ | ⟨hq,q⟩
 ·obtain⟨its,r',pl,hz⟩:=I.list hq;have hlen:=r'.length;refine call_tuple_list pl.isList (λh' kp=>?_) (by simp only[Ql]<;>omega);have I1:Inv X pins σ H { s with heap:=h' }:=I.kept (t':=s.toks) kp;have I2:Inv X pins σ (upd H h'.objs.size (.tup ys)) { s with heap:=h'.push { cls:=.type "tuple",data:=.seq its.toArray } }:=
   I1.laid (t':=s.toks) (λb o e=>Qf _ e) (Qh _) (show ObjOk X.prog X.w _ _ _ (.tup ys) from⟨hz,its,r',TupN.new _ _⟩)
  exact⟨.ref h'.objs.size,_,I2,rfl,q _ (I1.hok.fresh (Qh _))⟩
 ·obtain⟨its,r',pl,hz⟩:=I.tuple hq;exact call_tuple_same pl ⟨.ref p,H,I,rfl,q⟩
def tyV(K:PySem.W.Frag)(T:String)(x:V)(H:Hp):Prop:=match x with
 |.str _=>T = "str"
 |.int _=>T = "int"
 |.ref p=>(T = "list" /\ ∃xs,SqL K H p xs)∨(T = "tuple" /\ ∃o,K.lookup p=some o/\o.cls=.type "tuple" /\ o.dict=none) ∨
   (T = "dict" /\ ((∃kvs,H p=some (.dK kvs))∨∃kvs,H p=some (.dT kvs)))∨(T = "set" /\ ∃S n,H p=some (.set S n))
 |_=>False
theorem QrA{pins:List (Addr×Obj)}{σ:St}{H:Hp}{s:Shared}{T:String}{x:V}{v:Value}(I:Inv X pins σ H s)(r:RelV x v)(ty:tyV X.K T x H) :
  s.TypeIs v T/\∀a,v=.ref a->∃ob,s.heap.get? a=some ob/\ob.dict=none:=by
 cases x with
 |str z=>
  obtain⟨t,rfl⟩:=r;cases(show T = "str" from ty);exact⟨typeIs_str s z t,λ_ e=>nomatch e⟩
 |int i=>
  obtain⟨t,rfl⟩:=r;cases(show T = "int" from ty);exact⟨QyK s i t,λ_ e=>nomatch e⟩
 |ref p=>
  cases r;rcases ty with⟨rfl,xs,hq⟩ | ⟨rfl,o,hk,hc,hd⟩ | ⟨rfl,hk⟩ | ⟨rfl,S,n,hk⟩
  ·obtain⟨its,_,pl,_⟩:=I.list hq;refine⟨pl.isList.typeIs,λa e=>?_⟩;cases e;obtain⟨o,n,e,c,hd,_⟩:=pl;exact⟨o,e,hd⟩
  ·refine⟨⟨o,I.kIn p o hk,hc⟩,λa e=>?_⟩;cases e;exact⟨o,I.kIn _ o hk,hd⟩
  ·have z:∃o,s.heap.get? p=some o/\o.ExactDict:=by
    rcases hk with⟨kvs,hk⟩ | ⟨kvs,hk⟩
    ·obtain⟨_,_,_,_,o,_,_,e,ex,_⟩:=I.hok p _ hk;exact⟨o,e,ex⟩
    ·obtain⟨_,_,_,_,o,_,_,e,ex,_⟩:=I.hok p _ hk;exact⟨o,e,ex⟩
   obtain⟨o,e,ex⟩:=z;refine⟨⟨o,e,ex.1⟩,λa e2=>?_⟩;cases e2;exact⟨o,e,ex.2.1⟩
  ·obtain⟨o,_,_,_,e,ex,_⟩:=I.hok p _ hk;refine⟨⟨o,e,ex.1⟩,λa e2=>?_⟩;cases e2;exact⟨o,e,ex.2.1⟩
 |_=>exact ZC ty
def QAE(K:PySem.W.Frag)(T:String)(r:V->List V->Hp->VK->Prop)(to:TE):TE:=λσ H Q=>to σ H λx H1=>tyV K T x H1/\r x [] H1 Q
def tBM(K:PySem.W.Frag)(T:String)(r:V->List V->Hp->VK->Prop)(to:TE)(t:TA):TE:=λσ H Q=>to σ H λx H1=>tyV K T x H1/\t σ H1 λxs H2=>r x xs H2 Q
variable{o e:Q1}{es:List Q1}{to:TE}{t:TA}{name:Str}{apos cpos:Pos}{T id:String}{r:V->List V->Hp->VK->Prop}
theorem QwF(pa:PlainAttrs T)(slot:Slot T name id)(hty:typeOf (.builtin id)=pure (.type "method_descriptor"))(hm:MtR X id r)(ho:PE X o to)
  (hbase:attributeBase o name X.env (eval o X.env)=eval o X.env:=by rfl)(hline:(apos.endLine == cpos.line)=true:=by rfl):PE X (.Call (.Attribute o name apos) [] [] cpos) (QAE X.K T r to):=by
 intro pins s σ H Q I h;refine wpAny_Call_method0_late hbase hline (thn (ho pins s σ H _ I h) λv s1 ⟨x,H1,I1,r1,ty,q1⟩=>?_);obtain⟨h1,h2⟩:=QrA I1 r1 ty;exact⟨T,id,pa,slot,hty,h1,h2,Qi0 rfl (PySem.evalArgs_none (hm pins s1 σ H1 x [] v [] Q I1 r1 .nil q1))⟩
theorem QwG(pa:PlainAttrs T)(slot:Slot T name id)(hty:typeOf (.builtin id)=pure (.type "method_descriptor"))(hm:MtR X id r)(ho:PE X o to)(ha:PA X (e::es) t)
  (hbase:attributeBase o name X.env (eval o X.env)=eval o X.env:=by rfl)
  (hfew:((backTo cpos (starEach (e::es) X.env)).all (λx => !x.1)&&(backToKw cpos (keywordEach [] X.env)).all (λx=>x.1.isSome)
   && decide ((e::es).length+([]:List Qj1).length+(if([]:List Qj1).isEmpty then 0 else 1)<30))=true:=by rfl)
  (hline:(apos.endLine == cpos.line)=true:=by rfl) (hs:starEach (e::es) X.env=(false,eval e X.env)::starEach es X.env:=by rfl) (hplain:(backTo cpos (starEach es X.env)).any (·.1)=false:=by rfl) :
  PE X (.Call (.Attribute o name apos) (e::es) [] cpos) (tBM X.K T r to t):=by
 intro pins s σ H Q I h;refine wpAny_Call_method_late hbase hfew hline rfl (thn (ho pins s σ H _ I h) λv s1 ⟨x,H1,I1,r1,ty,q1⟩=>?_);obtain⟨h1,h2⟩:=QrA I1 r1 ty;refine⟨T,id,pa,slot,hty,h1,h2,?_⟩;have hA:=ha cpos pins s1 σ H1 _ I1 q1;rw[hs] at hA ⊢;refine Qi0 (by show(false||(backTo cpos (starEach es X.env)).any (·.1))=false;rw[hplain]<;>rfl) (Calls.evalArgs_plain ?_);exact thn hA λus s2 ⟨vs,H2,I2,r2,q2⟩=>hm pins s2 σ H2 x vs v us Q I2 r1 r2 q2
end
def MtM(X:Cx)(id:String)(r:V->List V->Hp->VK->Prop):Prop:=
 ∀(pins:List (Addr×Obj))(s:Shared)(σ:St)(H:Hp)(x:V)(xs:List V)(v:Value)(us:List Value)(Q:VK),Inv X pins σ H s->RelV x v->Vals xs us->r x xs H Q ->
  wpAny (model X.prog X.w) X.A (call (.builtin id) (v::us)) (EP X pins σ Q) X.xe s
theorem Vals.one:∀{x:V}{us:List Value},Vals [x] us->∃u,us=[u]/\RelV x u
 |_,_,.cons r .nil=>⟨_,rfl,r⟩
theorem Vals.zero:∀{us:List Value},Vals [] us->us=[]
 |_,.nil=>rfl
theorem Vals.dropLast{xs:List V}{us:List Value}(h:Vals xs us):Vals xs.dropLast us.dropLast:=by
 induction h with
 |nil=>exact .nil
 |cons r t ih=>
  cases t with
  |nil=>exact .nil
  |cons q t'=>exact .cons r ih
theorem Vals.reverse{xs:List V}{us:List Value}(h:Vals xs us):Vals xs.reverse us.reverse:=by
 induction h with
 |nil=>exact .nil
 |cons r t ih=>rw[Qru,Qru];exact Vals.append ih (.cons r .nil)
theorem Vals.rep{xs:List V}{us:List Value}(h:Vals xs us):∀k:Nat,Vals (QR k xs).flatten (QR k us).flatten
 |0=>.nil
 |k+1=>by
  rw[Jq,Jq,Ju,Ju];exact Vals.append h (Vals.rep h k)
theorem QkE{α:Type}(l:List α):l.eraseIdx (l.length - 1)=l.dropLast:=by
 induction l with
 |nil=>rfl
 |cons a r ih=>
  cases r with
  |nil=>rfl
  |cons b r=>
   have e:(a::b::r).length - 1=((b::r).length - 1)+1:=by
    have h1:(a::b::r).length=r.length+2:=rfl;have h2:(b::r).length=r.length+1:=rfl;omega
   rw[e,List.eraseIdx_cons_succ,ih]
   all_goals rfl
theorem foldl_rep(its:List Value):∀(k:Nat)(acc:List Value),
  Qrv (λx1 x2=>x1++x2) acc.toArray (QR k its.toArray)=(acc++(QR k its).flatten).toArray
 |0,acc=>by simp
 |k+1,acc=>by
  have e:acc.toArray++its.toArray=(acc++its).toArray:=by simp
  have e2:(acc++its)++(QR k its).flatten=acc++(QR (k+1) its).flatten:=by
   rw[Jq,Ju,QeP]
  rw[<- e2,<- foldl_rep its k (acc++its),<- e,Jq,Qvt]
section
variable{X:Cx}{pins:List (Addr×Obj)}{σ:St}{H:Hp}{s:Shared}{l b:Addr}{xs ys zs:List V}
theorem Inv.lset{its its':List Value}{n:Nat}{f:Array Value->Array Value}{t':Nat}(I:Inv X pins σ H s)(hH:H l=some (.lst xs))
  (e:s.heap.get? l=some { cls:=.type "list",data:=.seq its.toArray n })(hf:f its.toArray=its'.toArray)(hv:Vals ys its')(hz:ys.length<=sizeLine) :
  Inv X pins σ (upd H l (.lst ys)) { s with heap:=s.heap.update l (ZE f),toks:=t' }:=by
 have q:=PySem.IsL.update e f;rw[hf] at q;refine I.write (x:=l) (e:=l) (by rw[hH];exact trivial) (.inl rfl) (λb' u hb hu=>(Zu s.heap (ZE f) (Qbv hb)).trans hu) ⟨_,q⟩ ?_
 exact⟨hz,its',_,hv,q⟩
theorem Inv.lnew{its:List Value}{t':Nat}(I:Inv X pins σ H s)(hv:Vals ys its)(hz:ys.length<=sizeLine) :
  Inv X pins σ (upd H s.heap.objs.size (.lst ys)) { s with heap:=s.heap.push { cls:=.type "list",data:=.seq its.toArray },toks:=t' }:=
 I.laid (λ_ _ q=>Qf _ q) (Qh _) ⟨hz,its,0,hv,Qq _ rfl⟩
theorem Inv.fresh(I:Inv X pins σ H s):H s.heap.objs.size=none:=I.hok.fresh (Qh _)
theorem Inv.lstM(I:Inv X pins σ H s)(hH:H l=some (.lst xs)):xs.length<=sizeLine/\∃(its:List Value)(n:Nat),Vals xs its/\xs.length=its.length/\s.heap.get? l=some { cls:=.type "list",data:=.seq its.toArray n }:=by
 obtain⟨z,its,n,r,e⟩:=I.hok l _ hH;exact⟨z,its,n,r,r.length,e⟩
theorem QpF{n:Nat}(h:n<=sizeLine):QaL n=false:=by
 unfold QaL;exact decide_eq_false (by omega)
end
section
variable{X:Cx}
def Ql2:V->List V->Hp->VK->Prop:=λx vs H Q=>∃l xs y,x=.ref l/\vs=[y]/\H l=some (.lst xs)/\xs.length<sizeLine/\Q .non (upd H l (.lst (xs++[y])))
theorem Qhm:MtM X "list.append" Ql2:=by
 intro pins s σ H x vs v us Q I rx rv h;obtain⟨l,xs,y,rfl,rfl,hH,hz,q⟩:=h;cases rx;obtain⟨u,rfl,ru⟩:=rv.one;obtain⟨z,its,n,r,hl,e⟩:=I.lstM hH;refine QgK F.slot_list_append ⟨_,e,rfl⟩ F.entry_list_append (F.args_list_append_2 _ _) (PySem.list_append l its.toArray n u (by rw[Ql];omega)) ⟨e,?_⟩;refine⟨.non,_,I.lset (its':=its++[u]) hH e (by simp) (r.append (.cons ru .nil)) ?_,rfl,q⟩;rw[Qr,List.length_singleton];omega
def QAL:V->List V->Hp->VK->Prop:=λx vs H Q=>∃l xs y,x=.ref l/\vs=[]/\H l=some (.lst xs)/\xs[xs.length - 1]? = some y/\Q y (upd H l (.lst xs.dropLast))
theorem Qxh:MtM X "list.pop" QAL:=by
 intro pins s σ H x vs v us Q I rx rv h;obtain⟨l,xs,y,rfl,rfl,hH,hy,q⟩:=h;cases rx;have hus:=rv.zero;subst hus;obtain⟨z,its,n,r,hl,e⟩:=I.lstM hH;obtain⟨u,hu,ru⟩:=r.get hy;have hy':its.toArray[its.toArray.size - 1]? = some u:=by
  show its.toArray[its.length - 1]? = some u;rw[<- Qcf,<- hl];exact hu
 refine QgK F.slot_list_pop ⟨_,e,rfl⟩ F.entry_list_pop (F.args_list_pop_1 _) (MeetsSeq.list_pop_last l its.toArray n u hy' (by rw[Ql];omega)) ⟨e,?_⟩;refine⟨y,_,I.lset (its':=its.dropLast) hH e ?_ r.dropLast ?_,ru,q⟩
 ·show its.toArray.eraseIdxIfInBounds (its.toArray.size - 1)=its.dropLast.toArray;rw[Ql,List.eraseIdxIfInBounds_toArray,QkE]
 ·rw[List.length_dropLast];omega
def QAU:R2:=λx y H Q=>∃l b xs zs,x=.ref l/\y=.ref b/\H l=some (.lst xs)/\H b=some (.lst zs)/\xs.length+zs.length<=sizeLine/\∀p,H p=none->Q (.ref p) (upd H p (.lst (xs++zs)))
theorem Qw8:OpR X (binaryOp .Add) QAU:=by
 intro pins s σ H x y v u Q I rx ry h;obtain⟨l,b,xs,zs,rfl,rfl,hH,hB,hz,q⟩:=h;cases rx;cases ry;obtain⟨z,its,n,r,hl,e⟩:=I.lstM hH;obtain⟨z2,its2,n2,r2,hl2,e2⟩:=I.lstM hB;refine PySem.P.add_list e e2 ?_ (by rw[Ql,Ql];omega)
 have ea:its.toArray++its2.toArray=(its++its2).toArray:=by simp
 rw[ea];exact⟨.ref _,_,I.lnew (t':=s.toks) (r.append r2) (by rw[Qr];omega),rfl,q _ I.fresh⟩
def QAK:R2:=λx y H Q=>∃l k xs,x=.ref l/\y=.int k/\H l=some (.lst xs) /\ -(2^63)<=k/\k<2^63/\xs.length*k.toNat<=sizeLine /\
 ∀p,H p=none->Q (.ref p) (upd H p (.lst (QR k.toNat xs).flatten))
theorem QuC{α:Type}(xs:List α)(k:Nat):(QR k xs).flatten.length=k*xs.length:=by
 induction k with
 |zero=>simp
 |succ k ih=>rw[Jq,Ju,Qr,ih,Qk7,Nat.add_comm]
theorem QwZ:OpR X (binaryOp .Mult) QAK:=by
 intro pins s σ H x y v u Q I rx ry h;obtain⟨l,k,xs,rfl,rfl,hH,h1,h2,hz,q⟩:=h;cases rx;obtain⟨t,rfl⟩:=ry;obtain⟨z,its,n,r,hl,e⟩:=I.lstM hH;have hlen:its.toArray.size*k.toNat<=sizeLine:=by rw[Ql,<- hl];exact hz
 have hcap:¬its.toArray.size*k.toNat > (2^63 - 1) / 8:=by
  have:(sizeLine:Nat)<=(2^63 - 1) / 8:=by decide
  omega
 have hfit:¬(!Builtin.List.listFitsIndex k)=true:=by
  rw[fitsIndex_both h1 h2];exact Qi
 have hlong:¬QaL (its.toArray.size*k.toNat)=true:=by
  rw[QpF hlen];exact Qi
 have hnew:Qrv (λx1 x2=>x1++x2) #[] (QR (if its.toArray.isEmpty=true then 0 else k.toNat) its.toArray)=(QR k.toNat its).flatten.toArray:=by
  have f0:∀m:Nat,Qrv (λx1 x2=>x1++x2) #[] (QR m its.toArray)=(QR m its).flatten.toArray:=λm=>by
   have:=foldl_rep its m [];rw[QgF] at this;exact this
  rw[f0];cases its with
  |nil=>simp
  |cons a r'=>rw[if_neg (by simp)]
 refine wpAny_binaryOp_repeat_ref (T := "list") (U := "int") (by decide) ⟨_,e,rfl⟩ (λs'=>QyK s' k t) noFill_list_mul F.fills_int_mul Qy3 repeat_list F.slot_int_index.lookup
  (QgK Qy3 (QyK s k t) F.entry_int_rmul (F.args_int_rmul_2 _ _) (int___rmul___int_list k t l its.toArray n)
   ⟨e,rfl,⟨_,e,rfl⟩,QgK F.slot_list_mul ⟨_,e,rfl⟩ F.entry_list_mul (F.args_list_mul_2 _ _) (AutoListH.list___mul___list_int_3 l its.toArray n k t hfit hcap hlong) ⟨e,?_⟩⟩)
 rw[hnew];exact⟨.ref _,_,I.lnew (t':=s.toks) (r.rep k.toNat) (by rw[QuC,Nat.mul_comm];exact hz),rfl,q _ I.fresh⟩
end
section
variable{prog:QC}{w:Jf}{A:Ja}{E:Value->Shared->Prop}{s:Shared}
end
section
variable{X:Cx}
end
end L2
namespace Att
open PySem.W PySem.Calls
theorem Qeu{P:Params}{h:Heap}:∀(ns:List Int)(vs:List Value),WellAll P h vs (ns.map WData.int)->Qbs vs ns:=by
 intro ns;induction ns with
 |nil=>
  intro vs w;rw[QyY] at w;cases w;exact .nil
 |cons n ns ih=>
  intro vs w;rw[JF] at w;cases w with
  |cons a b=>
   cases a;exact .cons _ _ (ih _ b)
theorem QlK{l:OpenLaw}{n:Nat}(hn:l.most=some n){P:Params}{h:Heap}{args:List WData}{vals:List Value}
  (hpre:l.row.toRowW.claim.pre args=true)(hwl:WellAll P h vals args) :
  ∃a vs ns,vals=[Zm a]/\args=[WData.list (ns.map WData.int)]/\h.get? a=some { cls:=.type "list",data:=.seq vs.toArray }/\Qbs vs ns/\ns.length<=n:=by
 have hsh:WShape.hasAll [] args [.list .int]=true:=(pre_splitW hpre).1;have hc:l.pre.holds [] { args:=args }=true:=(pre_splitW hpre).2;obtain⟨d,r,rfl,h1,h2⟩:=hasAllW_cons hsh;obtain rfl:=hasAllW_nil h2;obtain⟨xs,rfl,h3⟩:=hasW_list h1;obtain⟨ns,rfl⟩:=items_int h3;have hlen:ns.length<=n:=by
  unfold OpenLaw.pre at hc;have h4:(WTm.not (.lt (.lit (.int (n:Int))) (.len (.arg 0)))).holds [] { args:=[.list (ns.map .int)] }=true:=by
   have h4:=(holds_andW hc).1;rw[hn] at h4;exact h4
  have h5:=condW_of h4 (w_not (w_lt w_lit (w_len_list (w_arg rfl))));rw[Qc] at h5;refine Nat.le_of_not_lt λq=>?_
  have q':(n:Int)<((ns.length:Nat):Int):=by omega
  first
   |(rw[decide_eq_true q'] at h5;exact absurd h5 (by decide))
   |(simp at h5;omega)
 cases hwl with
 |cons w1 w2=>
  cases w2;cases w1 with
  |list ho hall=>exact⟨_,_,ns,rfl,rfl,ho,Qeu ns _ hall,hlen⟩
theorem Qmc(l:OpenLaw)(args:List WData):l.row.toRowW.claim.post args (.bool true) args=true:=
 postW_of (r:=l.row.toRowW) (X:=(true == true))
  (show QyO [] (.bool true) .bool=true by first | rfl | decide | simp[QyO,WShape.arms,WShape.armsAll])
  (show(WTm.eq .res (.lit (.bool true))).value [] { args:=args,res:=some (.bool true),after:=args }=some (.bool (true == true)) from w_eq_bool (w_res rfl) w_lit) rfl
theorem QiR{l:OpenLaw}{n:Nat}{q:QC}{loose:List Str}{XP:(Str->Option Value)->Heap->Prop}{YP:Jf->Heap->Prop}{d:DefRec}
  (hn:l.most=some n)(hdf:d.params.defaults=[])
  (call:∀(w:Jf)(s₀ s₁:Shared)(mg mb:Str->Option Value)(fa:Addr)(o:Obj)(pm cd doc:Value)(a:Addr)(vs:List Value)(ns:List Int),
   Ground q loose [] XP w s₀ mg mb s₁.heap->YP w s₁.heap ->
   s₁.heap.get? fa=some o->o.data=.func (docDef d.name d.params d.body d.scope pm cd doc)->s₁.heap.CodeRec cd d.name->mg d.name=some (.ref fa) ->
   s₁.heap.get? a=some { cls:=.type "list",data:=.seq vs.toArray }->Qbs vs ns->ns.length<=n->s₁.gens=#[] ->
   codeAny (model l.prog w) callerA (.call (.ref fa) ⟨[.ref a],[]⟩) (λr s'=>r=.ok (.ret (.bool true))/\OldK s₁.heap s'.heap/\s'.os=s₁.os/\QeX s'.gens) s₁) :
  WalkO q loose XP YP l.row.toRowW d [] (λf vs=>PySem.call f vs):=by
 intro w s₀ s₁ mg mb G Y fa o pm cd doc dV kV ho hd hcd hD hmg hg args vals as hpre hlay hrd hwl hlo;obtain rfl:dV=.none:=Dflts.none hD hdf;obtain rfl:kV=.none:=Dflts.noKw hD;obtain⟨a,vs,ns,rfl,rfl,hobj,hints,hlen⟩:=QlK hn hpre hwl;refine enter_call (QdE (call w s₀ s₁ mg mb fa o pm cd doc a vs ns G Y ho (fd_plain hd) hcd hmg hobj hints hlen hg) λr s' hq=>?_);obtain⟨rfl,h2,h3,h4⟩:=hq;exact⟨.inl ⟨.bool true,.bool true,[],rfl,λ_=>rfl,.bool true,Qmc l _,λ_=>⟨QyZ,λ_ hm=>(nomatch hm)⟩⟩,h2,h3,h4⟩
section
variable{prog:QC}{w:Jf}{A:Ja}{E:Value->Shared->Prop}{s:Shared}{K:Frag}
end
end Att
namespace L2
theorem QgR:∀{vs:List Value}{ns:List Int},Qbs vs ns->Vals (ns.map V.int) vs
 |_,_,.nil=>.nil
 |_,_,.cons n t h=>.cons ⟨t,rfl⟩ (QgR h)
def QAz(H:Hp):Prop:=∀b,H b=none∨∃o xs,H b=some (.frz o (.lst xs))
theorem Qp0{P:QC}{w:Jf}{K:PySem.W.Frag}{mg mb:Str->Option Value}{CX:CXT}{k:Nat}{fa a:Addr}{fd:QL}{x:Str}{sp:Sp}{s₁:Shared}{vs:List Value}{ns:List Int}
  (KX:K.In s₁.heap)(hns:s₁.heap.Ns mainGlobals mg)(hb:s₁.heap.Ns builtinsNs mb)(hbb:∀x:Str,x ≠ "__name__" -> mb x=bootBuiltins x)(hlim:s₁.heap.NoLimit)(hg:s₁.gens=#[])
  (ha:s₁.heap.get? a=some { cls:=.type "list",data:=.seq vs.toArray })(hi:Qbs vs ns)(hl:ns.length<=sizeLine)(hr:Room k callerA)
  (F:∀base:Heap,K.In base->base.Ns mainGlobals mg->FnOk P w K mg base CX k fa fd [x] sp)(hbind:∀(s:Shared)(u:Value),Qom s fd ⟨[u],[]⟩ [(x,u)])
  (hsp:∀H:Hp,QAz H->SqL K H a (ns.map V.int)->sp [.ref a] H (λv _=>v=.bl true) λ_ _ _=>False)
  (hCX:∀H e s',CX [] H s₁ (λ_ _ _=>False) e s'->False) :
  codeAny (model P w) callerA (.call (.ref fa) ⟨[.ref a],[]⟩) (λr s'=>r=.ok (.ret (.bool true))/\OldK s₁.heap s'.heap/\s'.os=s₁.os/\QeX s'.gens) s₁:=by
 have rv:=QgR hi;have lenV:=hi.length;have core:∀H:Hp,QAz H->SqL K H a (ns.map V.int)->HOk P w H s₁.heap->(∀b,H b≠none->b=a)->(H a≠none->K.lookup a=none) ->
   codeAny (model P w) callerA (.call (.ref fa) ⟨[.ref a],[]⟩) (λr s'=>r=.ok (.ret (.bool true))/\OldK s₁.heap s'.heap/\s'.os=s₁.os/\QeX s'.gens) s₁:=by
  intro H hO hS hok hA hK;have base_of:∀{b:Addr}{o:Obj},s₁.heap.get? b=some o->H b=none->(Qp3 s₁.heap H).get? b=some o:=λe n=>Qp2 e n
  have noA:∀{b:Addr}{o:Obj}{es:Array DictEntry}{ep:Nat},s₁.heap.get? b=some o->o.data=.dict es ep->H b=none:=λ{b o es ep} e d=>by
   cases q:H b with
   |none=>rfl
   |some u=>
    have e':b=a:=hA b (by rw[q];simp);subst e';rw[ha] at e;cases e;have d':Data.seq vs.toArray _=Data.dict es ep:=d;cases d'
  have nsK:∀{b:Addr}{m:Str->Option Value},s₁.heap.Ns b m->(Qp3 s₁.heap H).Ns b m:=λ{b m} ⟨o,es,ep,e,d,r⟩=>⟨o,es,ep,base_of e (noA e d),d,r⟩
  have hKb:K.In (Qp3 s₁.heap H):=λb o e=>base_of (KX b o e) (by
   cases q:H b with
   |none=>rfl
   |some u=>
    have e':b=a:=hA b (by rw[q];simp);subst e';rw[hK (by rw[q];simp)] at e;cases e)
  have hM:Mod K mg (Qp3 s₁.heap H):=⟨hKb,nsK hns,⟨mb,nsK hb,hbb⟩,let ⟨mc,h1,h2⟩:=hlim;⟨mc,nsK h1,h2⟩⟩;have e0:Env0 P w K mg (Qp3 s₁.heap H) callerA [] s₁ H:=⟨rfl,hM,λb o e=>Qul e,Nat.le_of_eq (Qm9 _ _),trivial,λb hb=>absurd (show b∈([]:List Addr) from hb) (by simp),hok,.of_eq hg⟩;refine QdE ((F _ hKb (nsK hns)).run callerA [] s₁ H ⟨[.ref a],[]⟩ [.ref a] [.ref a] _ _ hr e0 (hbind s₁ (.ref a)) (.cons rfl .nil) (hsp H hO hS)) λr s' h=>?_
  cases r with
  |error e=>exact(hCX H e s' h).elim
  |ok fl=>
   cases fl with
   |next=>exact ZC h
   |brk=>exact ZC h
   |cont=>exact ZC h
   |ret u=>
    obtain⟨v,H',os,bare,un,hok',r',q⟩:=h;have q':v=.bl true:=q;subst q';obtain rfl:u=Qbp true:=r';refine⟨rfl,OldK.of_keep λb o e=>?_,os,bare⟩;cases q:H b with
    |none=>exact un.keep b o e q (by intro z;exact absurd (show b∈([]:List Addr) from z) (by simp)) (by simp)
    |some u=>
     rcases hO b with z | ⟨ob,xs,z⟩
     ·rw[q] at z;cases z
     ·have z2:=un.frzs b ob _ z;obtain⟨e1,_⟩:=hok b _ z;obtain⟨e2,_⟩:=hok' b _ z2;rw[e] at e1;cases e1;exact e2
 cases hk:K.lookup a with
 |some o=>
  have e:=KX a o hk;rw[ha] at e;cases e;refine core (λ_=>none) (λ_=>.inl rfl) (.inr ⟨_,vs.toArray,_,hk,rfl,rfl,rfl,by rw[Ql,lenV];exact hl,by simpa using rv⟩) (λb u z=>by have z':(none:Option HO)=some u:=z;cases z') (λb z=>absurd rfl z) λz=>absurd rfl z
 |none=>
  refine core (λb=>if b=a then some (.frz { cls:=.type "list",data:=.seq vs.toArray } (.lst (ns.map V.int))) else none) (λb=>?_) (.inl (.inr ⟨{ cls:=.type "list",data:=.seq vs.toArray },if_pos rfl⟩)) (λb u z=>?_) (λb z=>?_) λ_=>hk
  ·by_cases hb:b=a
   ·exact .inr ⟨_,_,if_pos hb⟩
   ·exact .inl (if_neg hb)
  ·by_cases hb:b=a
   ·have z':=(if_pos hb).symm.trans z;cases z';subst hb;exact⟨ha,by rw[Qc];exact hl,vs,_,rv,ha⟩
   ·have z':=(if_neg hb).symm.trans z;cases z'
  ·by_cases hb:b=a
   ·exact hb
   ·exact absurd (if_neg hb) z
theorem QsN{l:PySem.W.OpenLaw}{n k:Nat}{q:QC}{loose:List Str}{XP:(Str->Option Value)->Heap->Prop}{YP:Jf->Heap->Prop}{d:DefRec}{K:Params->PySem.W.Frag}{CX:Jf->CXT}{sp:Jf->Sp}{x:Str}
  (hn:l.most=some n)(hn2:n<=sizeLine)(hdf:d.params.defaults=[])(hr:Room k callerA)
  (hY:∀(w:Jf)(h:Heap),YP w h->(K w.params).In h)
  (F:∀(w:Jf)(mg:Str->Option Value)(fa:Addr)(h:Heap),(K w.params).In h->h.Ns mainGlobals mg->mg d.name=some (.ref fa) ->
   ∃fd:QL,(∀(s:Shared)(u:Value),Qom s fd ⟨[u],[]⟩ [(x,u)]) /\
    ∀base:Heap,(K w.params).In base->base.Ns mainGlobals mg->FnOk l.prog w (K w.params) mg base (CX w) k fa fd [x] (sp w))
  (hsp:∀(w:Jf)(H:Hp)(a:Addr)(ns:List Int),ns.length<=n->QAz H->SqL (K w.params) H a (ns.map V.int)->sp w [.ref a] H (λv _=>v=.bl true) λ_ _ _=>False)
  (hCX:∀(w:Jf)(H:Hp)(s:Shared)(e:Value)(s':Shared),CX w [] H s (λ_ _ _=>False) e s'->False) :
  PySem.W.WalkO q loose XP YP l.row.toRowW d [] (λf vs=>PySem.call f vs):=by
 refine Att.QiR hn hdf λw s₀ s₁ mg mb fa o pm cd doc a vs ns G Y ho hd hcd hmg hobj hints hlen hg=>?_
 have KX:=hY w _ Y;obtain⟨fd,hb,hF⟩:=F w mg fa _ KX G.T.g hmg;exact Qp0 KX G.T.g G.T.b G.T.builtins G.T.nolimit hg hobj hints (QX hlen hn2) hr hF hb (λH hO hS=>hsp w H a ns hlen hO hS) λH e s'=>hCX w H s₁ e s'
def Jo(s:ZY):Arguments:=match s with
 |.FunctionDef _ a _ _ _ _ _ _ _ _=>a
 |_=>{ posonlyargs:=[],args:=[],vararg:=none,kwonlyargs:=[],kw_defaults:=[],kwarg:=none,defaults:=[] }
def Jh(s:ZY):List ZY:=match s with
 |.FunctionDef _ _ b _ _ _ _ _ _ _=>b
 |_=>[]
def Qm(s:ZY):YV:=match s with
 |.FunctionDef _ _ _ _ _ _ sc _ _ _=>sc
 |_=>{ kind:=.function,names:=[],isGenerator:=false,isCoroutine:=false }
abbrev CX0:CXT:=λ_ _ _ _ _ _=>False
abbrev E0:XK:=λ_ _ _=>False
structure Fun (K:PySem.W.Frag) (x qual:Str) (st:ZY) (f:Addr) (fd:QL):Prop where
 ex:∃(oc:Value)(od:Option Addr)(kV doc pm:Value)(an:Option Addr)(cdv ct:Value)(osl:Array (Option Value)),
  fd=PySem.W.fnOf x qual (Jo st) (Jh st) (Qm st) .none kV doc pm an cdv ct/\K.lookup f=some ⟨oc,od,.func fd,osl⟩/\PySem.W.codeIn K cdv qual=true
 kp:PySem.W.keepIn K (.ref f)=true
section
variable{P:QC}{w:Jf}{K:PySem.W.Frag}{mg:Str->Option Value}{base:Heap}
theorem Fun.ok{x qual:Str}{st:ZY}{f:Addr}{fd:QL}{N ps:List Str}{k:Nat}{sp:Sp}(F:Fun K x qual st f fd)(S:Jl N ps (Qm st))(len:∀vs H Q E,sp vs H Q E->vs.length=ps.length)
  (hbody:∀(cdv:Value)(A:Ja)(outer:List Env)(s:Shared)(H:Hp)(vs:List V)(Q:VK)(E:XK),Room k (A.deeper (envOfC qual (Qm st) s.heap.objs.size f cdv))->sp vs H Q E ->
   ∃t,PSs (Qn8 CX0 P w K mg base N qual (Qm st) f cdv A outer s H E).nox (Jh st) t/\t { nx:=λ_ H'=>Q .non H',rt:=Q } (start N vs) H):FnOk P w K mg base CX0 (k+1) f fd ps sp:=by
 obtain⟨oc,od,kV,doc,pm,an,cdv,ct,osl,rfl,lk,hcd⟩:=F.ex;refine QAe lk hcd S len λA outer s H vs Q E hr hsp=>?_
 obtain⟨t,h,q⟩:=hbody cdv A outer s H vs Q E hr hsp;exact⟨t,h.nox,q⟩
theorem Fun.binds{x qual:Str}{st:ZY}{f:Addr}{fd:QL}{ps:List Str}(F:Fun K x qual st f fd)
  (h:∀(kV doc pm:Value)(an:Option Addr)(cdv ct:Value)(us:List Value),us.length=ps.length->bindArgs (PySem.W.fnOf x qual (Jo st) (Jh st) (Qm st) .none kV doc pm an cdv ct) ⟨us,[]⟩=pure (ps.zip us)):Binds K fd ps []:=by
 obtain⟨oc,od,kV,doc,pm,an,cdv,ct,osl,rfl,lk,hcd⟩:=F.ex;exact .all (h kV doc pm an cdv ct)
theorem Zb{x qual:Str}{st:ZY}{f:Addr}{oc:Value}{od an:Option Addr}{osl:Array (Option Value)}{kV doc pm cdv ct:Value}(l:K.lookup f=some ⟨oc,od,.func (PySem.W.fnOf x qual (Jo st) (Jh st) (Qm st) .none kV doc pm an cdv ct),osl⟩)
  (c:PySem.W.codeIn K cdv qual=true)(k:PySem.W.keepIn K (.ref f)=true):Fun K x qual st f (PySem.W.fnOf x qual (Jo st) (Jh st) (Qm st) .none kV doc pm an cdv ct):=⟨⟨oc,od,kV,doc,pm,an,cdv,ct,osl,rfl,l,c⟩,k⟩
end
section
variable{X:Cx}
theorem pv(i:Nat){x:Str}{pos:Pos}(hN:X.N[i]? = some x:=by rfl)(hv:Vis X.env.scope x:=by first | exact Q2 rfl | exact QZ (Q2 rfl) | exact QZ (QZ rfl))(hd:(x == ("__debug__" : Str))=false:=by decide)
  (hcd:(x == ("__classdict__" : Str))=false:=by decide):PE X (.Name x pos) (Qh9 i):=QwC hN hv hd hcd
end
theorem QAX{A B:Prop}(h:B):if false=true then A else B:=by
 rw[if_neg Qi];exact h
theorem Qyw{A B:Prop}(h:A):if true=true then A else B:=by
 rw[if_pos rfl];exact h
theorem QAY{c A B:Prop}[Decidable c](h1:c->A)(h2:¬c->B):if c then A else B:=by
 by_cases h:c
 ·rw[if_pos h];exact h1 h
 ·rw[if_neg h];exact h2 h
def Same(H H':Hp):Prop:=∀b o,H b=some o->H' b=some o
theorem Same.refl(H:Hp):Same H H:=λ_ _ h=>h
theorem Same.free{H H':Hp}(e:Same H H'){l:Addr}(h:H' l=Qyi):H l=Qyi:=by
 cases q:H l with
 |none=>rfl
 |some o=>
  rw[e l o q] at h;cases h
theorem Same.seq{K:PySem.W.Frag}{H H':Hp}{a:Addr}{xs:List V}(e:Same H H')(h:SqL K H a xs):SqL K H' a xs:=by
 rcases h with(h | ⟨o,h⟩) | h
 ·exact .inl (.inl (e _ _ h))
 ·exact .inl (.inr ⟨o,e _ _ h⟩)
 ·exact .inr h
end L2
set_option maxHeartbeats 4000000
namespace Ko
def Apart(cs:List (Int×Int)):Prop:=cs.Pairwise λp q=>p.1≠q.1/\p.2≠q.2
end Ko
namespace Rt
abbrev le (c:Y8->Y8->Bool) (x y:Y8):Prop:=c y x=false
section
variable{c:Y8->Y8->Bool}
end
def kx(xs:Array Y8)(i:Nat):Y8:=(xs[i]?).getD (Js,Js)
structure SB (κ:Qba) (a₀:Array Y8) (st:SortSt):Prop where
 perm:(arrOf st).Perm a₀
 kind:kindOf st=κ
 failed:failedOf st=none
theorem SB.size{κ:Qba}{a₀:Array Y8}{st:SortSt}(h:SB κ a₀ st):(arrOf st).size=a₀.size:=h.perm.size_eq
theorem SB.mem{κ:Qba}{a₀:Array Y8}{st:SortSt}(h:SB κ a₀ st){p:Y8}(e:p∈(arrOf st).toList):p∈a₀.toList:=(Qa3.mp h.perm).mem_iff.mp e
section
variable{prog:QC}{w:Jf}{A:Ja}{E:Value->Shared->Prop}{s:Shared}{a₀:Array Y8}{κ:Qba}{c:Y8->Y8->Bool}
end
section
variable{c:Y8->Y8->Bool}
variable{a b r:Array Y8}{i j k:Nat}
end
structure Sm (st st':SortSt):Prop where
 kind:kindOf st'=kindOf st
 arr:arrOf st'=arrOf st
 pend:pendingOf st'=pendingOf st
 failed:failedOf st'=failedOf st
section
variable{prog:QC}{w:Jf}{A:Ja}{E:Value->Shared->Prop}{s:Shared}{a₀:Array Y8}{κ:Qba}{c:Y8->Y8->Bool}
end
section
variable{c:Y8->Y8->Bool}
variable{a b r:Array Y8}{i j t:Nat}
end
section
variable{prog:QC}{w:Jf}{A:Ja}{E:Value->Shared->Prop}{s:Shared}{a₀:Array Y8}{κ:Qba}{c:Y8->Y8->Bool}
end
section
variable{c:Y8->Y8->Bool}
end
section
variable{prog:QC}{w:Jf}{A:Ja}{E:Value->Shared->Prop}{s:Shared}{a₀:Array Y8}{κ:Qba}{c:Y8->Y8->Bool}
end
def RunsOk:List (Nat×Nat)->Nat->Nat->Prop
 |[],s,e=>s=e
 |(s',n)::r,s,e=>s'=s/\1<=n/\RunsOk r (s+n) e
theorem RunsOk.le:∀{l:List (Nat×Nat)}{s e:Nat},RunsOk l s e->s+l.length<=e
 |[],s,e,h=>by cases(show s=e from h);exact Qh _
 |(s',n)::l,s,e,⟨_,h2,h3⟩=>by
  have:=RunsOk.le h3;rw[QF];omega
theorem RunsOk.mem:∀{l:List (Nat×Nat)}{s e:Nat},RunsOk l s e->∀p∈l,s<=p.1/\p.1+p.2<=e
 |(s',n)::l,s,e,⟨h1,h2,h3⟩,p,hp=>by
  have hl:=RunsOk.le h3;rcases Qy.mp hp with z | z
  ·subst z;show s<=s'/\s'+n<=e;omega
  ·have:=RunsOk.mem h3 p z;omega
section
variable{prog:QC}{w:Jf}{A:Ja}{E:Value->Shared->Prop}{s:Shared}{a₀:Array Y8}{κ:Qba}{c:Y8->Y8->Bool}
end
end Rt
namespace L2
def blk(X:Cx)(M:List Str)(scope:YV)(cl:List (Str×Addr))(ex:List Addr)(s3:Shared)(H3:Hp)(C:Addr):Cx where
 prog:=X.prog
 w:=X.w
 K:=X.K
 mg:=X.mg
 base:=X.base
 A:=X.A
 N:=M
 s₀:=s3
 H₀:=H3
 env:=compEnvC scope cl C X.env
 outer:=X.stack
 stack:=X.stack
 ex:=ex
 fn:=λ_=>false
 calm:=X.calm
 pn:=[]
 xe:=λ_ _=>False
def Qbl(env:Env):List (Str×QaJ)->List (Str×Addr)->List (Str×Addr)
 |[],acc=>acc
 |(n,k)::r,acc=>Qbl env r (if k=.free then(n,(env.cells.lookup n).getD 0)::acc else acc)
theorem QiL{env:Env}:∀(l:List (Str×QaJ))(acc:List (Str×Addr)),(∀x∈l,x.2=.free->∃c,env.cells.lookup x.1=some c) ->
  (forIn (m:=Sem) l acc λx cs=>(if(x.2 == Jd)=true then do let a <- cellOf env x.1;pure (ZJ ((x.1,a)::cs)) else pure (ZJ cs)))=pure (Qbl env l acc)
 |[],acc,_=>rfl
 |(n,k)::r,acc,h=>by
  rw[QgI];by_cases hk:k=.free
  ·subst hk;obtain⟨c,hc⟩:=h (n,.free) ZD rfl;have e1:cellOf env n=pure c:=by unfold cellOf;rw[hc]
   have e2:Qbl env ((n,.free)::r) acc=Qbl env r ((n,c)::acc):=by
    show Qbl env r (if Jd=.free then(n,(env.cells.lookup n).getD 0)::acc else acc)=_;rw[if_pos rfl,hc];rfl
   rw[e2];show((if(Jd == Jd)=true then do let a <- cellOf env n;pure (ZJ ((n,a)::acc)) else pure (ZJ acc)) >>= _)=_;rw[if_pos (show(Jd == Jd)=true by decide),e1];exact QiL r _ λx hx=>h x (JS _ hx)
  ·have hb:(k == Jd)=false:=by simpa using hk
   have e2:Qbl env ((n,k)::r) acc=Qbl env r acc:=by
    show Qbl env r (if k=.free then(n,(env.cells.lookup n).getD 0)::acc else acc)=_;rw[if_neg hk]
   rw[e2];show((if(k == Jd)=true then _ else pure (ZJ acc)) >>= _)=_;rw[hb,if_neg Qi];exact QiL r _ λx hx=>h x (JS _ hx)
theorem Qgp{scope:YV}{env:Env}(h:∀x∈scope.names,x.2=.free->∃c,env.cells.lookup x.1=some c):closureFor scope env=pure (Qbl env scope.names []):=by
 have e:=QiL (env:=env) scope.names [] h;unfold closureFor;show(forIn scope.names [] _ >>= _)=_;have e':(forIn (m:=Sem) scope.names ([]:List (Str×Addr)) λx cs=>match x with | (name,kind)=>(if(kind == Jd)=true then do let a <- cellOf env name;pure (ZJ ((name,a)::cs)) else pure (ZJ cs)))=pure (Qbl env scope.names []):=e
 first
  |(rw[e'];rfl)
  |(refine Eq.trans (congrArg (λt=>t >>= _) e') ?_;rfl)
theorem QiM{env:Env}:∀(l:List (Str×QaJ))(acc:List (Str×Addr)),(∀x∈l,x.2=.free->∃c,env.cells.lookup x.1=some c)->(∀x c,acc.lookup x=some c->env.cells.lookup x=some c) ->
  (∀x c,(Qbl env l acc).lookup x=some c->env.cells.lookup x=some c)/\(∀x c,acc.lookup x=some c->(Qbl env l acc).lookup x=some c)/\∀x,(x,Jd)∈l->∃c,(Qbl env l acc).lookup x=some c
 |[],acc,_,ha=>⟨ha,λ_ _ h=>h,λ_ h=>nomatch h⟩
 |(n,k)::r,acc,h,ha=>by
  have hr:∀x∈r,x.2=.free->∃c,env.cells.lookup x.1=some c:=λx hx=>h x (JS _ hx)
  by_cases hk:k=.free
  ·subst hk;obtain⟨c,hc⟩:=h (n,.free) ZD rfl;have e2:Qbl env ((n,.free)::r) acc=Qbl env r ((n,c)::acc):=by
    show Qbl env r (if Jd=.free then(n,(env.cells.lookup n).getD 0)::acc else acc)=_;rw[if_pos rfl,hc];rfl
   rw[e2];have ha':∀x c',((n,c)::acc).lookup x=some c'->env.cells.lookup x=some c':=λx c' q=>by
    rw[Jn] at q;cases hx:x == n with
    |true=>
     rw[hx] at q;have z:c=c':=QK q;have y:x=n:=by simpa using hx
     rw[y,<- z];exact hc
    |false=>rw[hx] at q;exact ha x c' q
   obtain⟨i1,i2,i3⟩:=QiM r ((n,c)::acc) hr ha';refine⟨i1,λx c' q=>?_,λx hx=>?_⟩
   ·refine i2 x c' ?_
    rw[Jn];cases hx:x == n with
    |true=>
     have y:x=n:=by simpa using hx
     have:=ha x c' q;rw[y,hc] at this;exact this
    |false=>exact q
   ·rcases Qy.mp hx with z | z
    ·cases z;exact⟨c,i2 n c (by rw[Jn,beq_self_eq_true])⟩
    ·exact i3 x z
  ·have e2:Qbl env ((n,k)::r) acc=Qbl env r acc:=by
    show Qbl env r (if k=.free then(n,(env.cells.lookup n).getD 0)::acc else acc)=_;rw[if_neg hk]
   rw[e2];obtain⟨i1,i2,i3⟩:=QiM r acc hr ha;refine⟨i1,i2,λx hx=>?_⟩;rcases Qy.mp hx with z | z
   ·cases z;exact absurd rfl hk
   ·exact i3 x z
theorem QbY{l:List (Str×QaJ)}{x:Str}{k:QaJ}(h:l.lookup x=some k):(x,k)∈l:=by
 induction l with
 |nil=>cases h
 |cons p r ih=>
  obtain⟨n,q⟩:=p;rw[Jn] at h;cases hx:x == n with
  |true=>
   rw[hx] at h;have y:x=n:=by simpa using hx
   have z:q=k:=QK h;subst y z;exact ZD
  |false=>rw[hx] at h;exact JS _ (ih h)
theorem QaS{env:Env}:∀{names:List (Str×QaJ)}{x:Str}{k:QaJ},(names.map λ(n,k)=>if(k == Jd&&env.scope.kind == .function&&env.kindOf n == some .cell) then(n,Yu) else(n,k)).lookup x=some k ->
  names.lookup x=some k∨(k=.cell/\names.lookup x=some .free)
 |[],x,k,h=>by cases h
 |(n,q)::r,x,k,h=>by
  have ih:=@QaS env r x k;rw[JF] at h;have h':QgG x ((if(q == Jd&&env.scope.kind == .function&&env.kindOf n == some .cell)=true then(n,Yu) else(n,q))::_)=some k:=h;cases hx:x == n with
  |true=>
   by_cases hc:(q == Jd&&env.scope.kind == .function&&env.kindOf n == some .cell)=true
   ·rw[if_pos hc,Jn,hx] at h';have z:Yu=k:=QK h';have y:q=.free:=by simp at hc;exact hc.1.1
    refine .inr ⟨z.symm,?_⟩;rw[Jn,hx,y]
   ·rw[if_neg hc,Jn,hx] at h';refine .inl ?_
    rw[Jn,hx];exact h'
  |false=>
   have h2:QgG x (r.map λ(n,k)=>if(k == Jd&&env.scope.kind == .function&&env.kindOf n == some .cell) then(n,Yu) else(n,k))=some k:=by
    by_cases hc:(q == Jd&&env.scope.kind == .function&&env.kindOf n == some .cell)=true
    ·rw[if_pos hc,Jn,hx] at h';exact h'
    ·rw[if_neg hc,Jn,hx] at h';exact h'
   rw[Jn,hx];exact ih h2
theorem relabel_free{env:Env}:∀{names:List (Str×QaJ)}{x:Str},names.lookup x=some .free->(names.map λ(n,k)=>if(k == Jd&&env.scope.kind == .function&&env.kindOf n == some .cell) then(n,Yu) else(n,k)).lookup x=some .cell ∨
   (names.map λ(n,k)=>if(k == Jd&&env.scope.kind == .function&&env.kindOf n == some .cell) then(n,Yu) else(n,k)).lookup x=some .free
 |[],x,h=>by cases h
 |(n,q)::r,x,h=>by
  have ih:=@relabel_free env r x;rw[JF];show QgG x ((if(q == Jd&&env.scope.kind == .function&&env.kindOf n == some .cell)=true then(n,Yu) else(n,q))::_)=some .cell∨QgG x ((if(q == Jd&&env.scope.kind == .function&&env.kindOf n == some .cell)=true then(n,Yu) else(n,q))::_)=some .free;cases hx:x == n with
  |true=>
   rw[Jn,hx] at h;have z:q=Jd:=QK h;subst z;by_cases hc:(Jd == Jd&&env.scope.kind == .function&&env.kindOf n == some .cell)=true
   ·rw[if_pos hc,Jn,hx];exact .inl rfl
   ·rw[if_neg hc,Jn,hx];exact .inr rfl
  |false=>
   rw[Jn,hx] at h;by_cases hc:(q == Jd&&env.scope.kind == .function&&env.kindOf n == some .cell)=true
   ·rw[if_pos hc,Jn,hx];exact ih h
   ·rw[if_neg hc,Jn,hx];exact ih h
def Qe1(N:List Str)(sc:YV)(M:List Str)(scope:YV)(cap:List (Option Nat)):Bool:=
 cap.length == M.length&&(M.zip cap).all (λ(x,o)=>match o with
  |none=>scope.names.lookup x == some .local
  |some j=>N[j]? == some x&&(scope.names.lookup x == some .free&&(sc.names.lookup x == some .cell||sc.names.lookup x == some .free))) &&
 (scope.kind == .function&&scope.names.all λy=>y.2 != .cell&&((y.2 != .free||(sc.names.lookup y.1 == some .cell||sc.names.lookup y.1 == some .free))&&(y.2 != .local||scope.names.lookup y.1 == some .local)))
def QcS(cap:List (Option Nat))(σ:St):St:=cap.map λo=>match o with
 |none=>none
 |some j=>(σ[j]?).getD none
structure CapOk (N:List Str) (sc:YV) (M:List Str) (scope:YV) (cap:List (Option Nat)):Prop where
 len:cap.length=M.length
 own:∀(i j:Nat)(x:Str),M[i]? = some x->cap[i]? = some (some j)->N[j]? = some x/\scope.names.lookup x=some .free/\(sc.names.lookup x=some .cell∨sc.names.lookup x=some .free)
 kind:scope.kind=.function
 cell:∀y∈scope.names,y.2≠.cell
 free:∀y∈scope.names,y.2=.free->sc.names.lookup y.1=some .cell∨sc.names.lookup y.1=some .free
 loc:∀y∈scope.names,y.2=.local->scope.names.lookup y.1=some .local
theorem CapOk.of{N:List Str}{sc:YV}{M:List Str}{scope:YV}{cap:List (Option Nat)}(h:Qe1 N sc M scope cap=true):CapOk N sc M scope cap:=by
 unfold Qe1 at h;simp only[JH,YZ,beq_iff_eq] at h;obtain⟨⟨h1,h2⟩,h3,h4⟩:=h;refine⟨h1,λi j x e1 e2=>?_,h3,λy hy z=>?_,λy hy z=>?_,λy hy z=>?_⟩
 ·have hm:(x,some j)∈M.zip cap:=by
   have:(M.zip cap)[i]? = some (x,some j):=by rw[List.getElem?_zip_eq_some];exact⟨e1,e2⟩
   exact Q8 this
  have:=h2 _ hm;simp only[JH,beq_iff_eq,Qcv] at this;exact this
 ·have:=(h4 y hy).1;simp[z] at this
 ·have:=(h4 y hy).2.1
  simpa [z] using this
 ·have:=(h4 y hy).2.2
  simpa [z] using this
section
variable{X:Cx}{pins:List (Addr×Obj)}{σ:St}{H H3:Hp}{s3:Shared}{M:List Str}{scope:YV}{cap:List (Option Nat)}{fp:List Addr}{h4:Heap}{t4:Nat}
theorem Cx.Ok.cells(ok:X.Ok){N:List Str}(c:CapOk N X.env.scope M scope cap):∀y∈scope.names,y.2=.free->∃d,X.env.cells.lookup y.1=some d:=λy hy z=>ok.has y.1 (c.free y hy z)
theorem QcO(I:Inv X pins σ H3 s3)(c:CapOk X.N X.env.scope M scope cap)(hf:∀b∈fp,FpOk X pins H3 b)(hb:∀b∈fp,b<s3.heap.objs.size)
  (hn:h4.Ns s3.heap.objs.size λ_=>none)(hk:∀b o,s3.heap.get? b=some o->h4.get? b=some o) :
  Inv (blk X M scope (Qbl X.env scope.names []) fp s3 H3 s3.heap.objs.size) [] (QcS cap σ) H3 { s3 with heap:=h4,toks:=t4 }:=by
 obtain⟨c1,c2,c3⟩:=QiM scope.names [] (I.ok.cells c) (λx d q=>by cases q);refine⟨⟨I.ok.mod,c.kind,I.ok.glob,I.ok.blt,Qh _,λx y d e1 e2=>I.ok.inj x y d (c1 x d e1) (c1 y d e2),λx hx=>?_,(λx d z=>nomatch z),I.ok.hd,I.ok.frames,.inl rfl,λb hb'=>?_,I.bs,
  QX I.ok.bsz I.sz,λb o e z=>?_,λb hb' z=>?_,I.stack,I.stkFree⟩,rfl,I.bare,Un.kept hk,⟨_,hn,λi x v e1 e2 e3=>?_⟩,λx d e=>?_,I.hok.fresh (Qh _),λx d e=>I.freeC x d (c1 x d e),λp hp=>(nomatch hp),I.hok.kept hk,?_⟩
 ·have hx':(relabel scope X.env).names.lookup x=some .cell∨(relabel scope X.env).names.lookup x=some .free:=hx;rcases hx' with q | q
  ·rcases QaS q with z | ⟨_,z⟩
   ·exact absurd rfl (c.cell _ (QbY z))
   ·exact c3 x (QbY z)
  ·rcases QaS q with z | ⟨z,_⟩
   ·exact c3 x (QbY z)
   ·cases z
 ·obtain⟨f0,f1,f2,f3,f4,f5⟩:=hf b hb';exact⟨QD (hb b hb'),λx d e=>f4 x d (c1 x d e)⟩
 ·obtain⟨f0,f1,f2,f3,f4,f5⟩:=hf b z;rcases f3 with q | q
  ·exact I.ok.noex b o e q
  ·exact absurd (QQ (Qj e) (QX I.ok.bsz q)) (YH _)
 ·obtain⟨f0,f1,f2,f3,f4,f5⟩:=hf b hb';rcases Qy.mp (I.stkSub b z) with q | q
  ·exact f1 q
  ·exact f2 q
 ·have e2':(cap.map λo=>match o with | none=>none | some j=>(σ[j]?).getD none)[i]? = some (some v):=e2;rw[Qo] at e2';cases q:cap[i]? with
  |none=>rw[q] at e2';cases e2'
  |some o=>
   rw[q] at e2';cases o with
   |none=>cases e2'
   |some j=>
    have e4:(σ[j]?).getD none=some v:=QK e2';have e5:σ[j]? = some (some v):=by
     cases r:σ[j]? with
     |none=>rw[r] at e4;cases e4
     |some o=>rw[r] at e4;exact congrArg some e4
    obtain⟨n1,n2,n3⟩:=c.own i j x e1 q;obtain⟨m,hm,hl⟩:=I.loc;obtain⟨u,ru,lk⟩:=hl j x v n1 e5 (n3.elim (λz=>.inr (.inl z)) λz=>.inr (.inr z));refine⟨u,ru,.inr ?_⟩;rcases lk with⟨k1,_⟩ | ⟨_,d,k2,k3⟩
    ·have k1':X.env.scope.names.lookup x=some .local:=k1;rcases n3 with z | z<;>(rw[z] at k1';cases k1')
    ·obtain⟨d',hd'⟩:=c3 x (QbY n2);have ed:d'=d:=by
      have:=c1 x d' hd';rw[k2] at this;exact(QK this).symm
     subst ed;exact⟨(relabel_free n2:(relabel scope X.env).names.lookup x=some .cell∨(relabel scope X.env).names.lookup x=some .free),d',hd',k3.keeps hk⟩
 ·obtain⟨v,q⟩:=I.cell x d (c1 x d e);exact⟨v,q.keeps hk⟩
 ·show(cap.map _).length=M.length;rw[Qc];exact c.len
theorem QnL{σ':St}{s':Shared}{h':Heap}(I:Inv X pins σ H3 s3)(hf:∀b∈fp,FpOk X pins H3 b)(J:Inv (blk X M scope (Qbl X.env scope.names []) fp s3 H3 s3.heap.objs.size) [] σ' H s')(hs:Qax s3.heap.objs.size s'.heap h') :
  Inv X pins σ H { s' with heap:=h' }:=by
 have u:Un (frs X.stack) fp H3 H s3.heap s'.heap:=J.base;have ne:∀b o,s3.heap.get? b=some o->b≠s3.heap.objs.size:=λb o e=>QD (Qj e)
 have hC:H s3.heap.objs.size=none:=J.free;refine I.call' (ch:=fp) (s':={ s' with heap:=h' }) J.os ⟨λb o e n hb hx=>(hs.2 b (ne b o e)).trans (u.keep b o e n hb hx),λb o e n hb hx=>?_,u.free,λb o e hx=>?_,u.tups,u.frzs,u.tbls⟩ (λb o e=>?_) J.bare λb hb=>?_
 ·obtain⟨sl,q⟩:=u.slot b o e n hb hx;exact⟨sl,(hs.2 b (ne b o e)).trans q⟩
 ·obtain⟨o',q⟩:=u.there b o e hx;exact⟨o',(hs.2 b (ne b o e)).trans q⟩
 ·refine(J.hok b o e).stay (λc v hc q=>(hs.2 c ?_).trans q) (λ_ q=>q) λ_ _ q=>q
  rintro rfl;rcases hc with z | z
  ·rw[<- z,hC] at e;cases e
  ·rw[hC] at z;cases z
 ·obtain⟨f0,f1,f2,f3,f4,f5⟩:=hf b hb;exact⟨f3,f1,f4,f5⟩
end
def Wk:St->St->Prop
 |[],[]=>True
 |none::a,_::b=>Wk a b
 |some v::a,some u::b=>v=u/\Wk a b
 |_,_=>False
theorem Wk.len:∀{a b:St},Wk a b->a.length=b.length
 |[],[],_=>rfl
 |none::a,_::b,h=>congrArg (·+1) (Wk.len (a:=a) (b:=b) h)
 |some v::a,some u::b,h=>congrArg (·+1) (Wk.len (a:=a) (b:=b) h.2)
 |[],_::_,h=>h.elim
 |some _::_,[],h=>h.elim
 |none::_,[],h=>h.elim
 |some _::_,none::_,h=>h.elim
theorem Wk.get:∀{a b:St},Wk a b->∀(i:Nat) v,a[i]? = some (some v)->b[i]? = some (some v)
 |[],[],_,i,v,h=>by simp at h
 |none::a,x::b,h,0,v,e=>by simp at e
 |none::a,x::b,h,i+1,v,e=>by
  simp only[Yf] at e ⊢;exact Wk.get (a:=a) (b:=b) h i v e
 |some q::a,some u::b,h,0,v,e=>by
  simp only[QiZ] at e ⊢;rw[<- h.1];exact e
 |some q::a,some u::b,h,i+1,v,e=>by
  simp only[Yf] at e ⊢;exact Wk.get (a:=a) (b:=b) h.2 i v e
 |[],_::_,h,_,_,_=>h.elim
 |some _::_,[],h,_,_,_=>h.elim
 |none::_,[],h,_,_,_=>h.elim
 |some _::_,none::_,h,_,_,_=>h.elim
theorem Inv.wk{X:Cx}{pins:List (Addr×Obj)}{σ σ':St}{H:Hp}{s:Shared}(I:Inv X pins σ H s)(h:Wk σ' σ):Inv X pins σ' H s:=I.weak h.len h.get
def Qia(J:It)(body:V->Hp->(Hp->Prop)->Prop)(Qn:Hp->Prop)(H:Hp):Prop:=
 ∃W:Nat->Nat->Hp->Prop,(∃m,W 0 m H)/\∀i m H2,W i m H2->(J.stop i H2/\Qn H2)∨(J.go i H2/\∀x H3,J.yld i H2 x H3->body x H3 λH6=>∃m',m'<m/\W (i+1) m' H6)
abbrev Act:=(Shared->Prop)->Shared->Prop
def BodyOk(Y:Cx)(σ:St)(act:Act)(b:Hp->(Hp->Prop)->Prop):Prop:=
 ∀(pins:List (Addr×Obj))(s:Shared)(H:Hp)(k:Hp->Prop)(Q:Shared->Prop),Inv Y pins σ H s->b H k->(∀s' H',Inv Y pins σ H' s'->k H'->Q s')->act Q s
theorem QcL{Y:Cx}{σ:St}{tg:Q1}{elt:Q1}{gens:List QcA}{scope:YV}{cpos:Pos}{d:Nat}{it D:Addr}{fp:List Addr}{tn:Nat->Heap->Prop}{J:It}{pins:List (Addr×Obj)}{s:Shared}{H:Hp}{body:V->Hp->(Hp->Prop)->Prop}{Qn:Hp->Prop}{R:QjX->Shared->Prop}{act:Value->Act}
  (hc:Y.calm=true)(T:Turn Y.prog Y.w Y.K tg J fp it tn)(st:tn 0 s.heap)(hf:∀b∈fp,FpOk Y pins H b)
  (hturn:∀(Q:PySem.Fin->Shared->Prop)(E:Value->Shared->Prop)(s:Shared),wpAny (model Y.prog Y.w) Y.A (pyNext (.ref it)) (λr s1=>match r with
   |none=>Q (.done .next) s1
   |some v=>wpAny (model Y.prog Y.w) Y.A (letOwnedTupleGo tg (.ref it) v) (λ_ s2=>act v (λs3=>Q (.again (.compLoop (.ListComp elt gens scope cpos) d (.ref it) (.ref D) Y.env)) s3) s2) E s1) E s ->
   wpAny (model Y.prog Y.w) Y.A (compTurn (.ListComp elt gens scope cpos) d (.ref it) (.ref D) Y.env) Q E s)
  (hact:∀(x:V)(u:Value),RelV x u->BodyOk Y σ (act u) (body x))
  (I:Inv Y pins σ H s)(h:Qia J body Qn H)(hR:∀s' H',Inv Y pins σ H' s'->Qn H'->R (.ok .next) s') :
  codeAny (model Y.prog Y.w) Y.A (.compLoop (.ListComp elt gens scope cpos) d (.ref it) (.ref D) Y.env) R s:=by
 obtain⟨W,⟨m0,w0⟩,turn⟩:=h;have stat:∀{H':Hp},(∀b∈fp,H' b=none)->∀b∈fp,FpOk Y pins H' b:=λhn b hb=>⟨hn b hb,(hf b hb).2⟩
 refine codeAny_loop rfl (λn s'=>∃i H',Inv Y pins σ H' s'/\tn i s'.heap/\(∀b∈fp,H' b=none)/\W i n H') (λn s3 hI=>?_) m0 ⟨0,H,I,st,λb hb=>(hf b hb).1,w0⟩;show wpAny _ Y.A ((compTurn (.ListComp elt gens scope cpos) d (.ref it) (.ref D) Y.env).onRaise (λx=>do noteFrame x Y.env;theTreesLotGoes x)) _ _ s3;refine wpAny_noted (hturn _ _ _ ?_);obtain⟨i,H3,I3,st3,fr3,w3⟩:=hI;rcases turn i n H3 w3 with⟨stop,qn⟩ | ⟨go,step⟩
 ·refine thn (T.done Y rfl rfl rfl hc i pins s3 σ H3 _ I3 (stat fr3) st3 stop) λr s4 ⟨hr,I4⟩=>?_
  subst hr;exact hR s4 H3 I4 qn
 ·refine thn (T.item Y rfl rfl rfl hc i pins s3 σ H3 _ I3 (stat fr3) st3 go) λr s4 ⟨u,hr,h4⟩=>?_
  subst hr;refine thn h4 λ_ s5 ⟨x,H5,I5,r5,y5,st5,fr5⟩=>?_
  have I5':=I5.pinned (stat fr5) (T.obj _ _ st5);refine hact x u r5 _ s5 H5 _ _ I5' (step x H5 y5) λs7 H7 I7 ⟨m',hm,w7⟩=>?_
  refine⟨rfl,m',hm,i+1,H7,I7.unpinned,T.keep _ _ _ st5 λb hb o e=>(I7.pin (b,o) (Qu _ (Qu _ (Yc hb e)))).1,λb hb=>?_,w7⟩;obtain⟨o,e,dd⟩:=T.obj _ _ st5 b hb;exact(I7.pin (b,o) (Qu _ (Qu _ (Yc hb e)))).2.1
abbrev Qh6 (ifs:List Q1) (env:Env):Sem Bool:=forIn ifs true λc r=>if r=true then do let ok <- isTrue c env (eval c env);pure (ZJ ok) else pure (ZJ r)
def PTs(Y:Cx)(ifs:List Q1)(t:TT):Prop:=
 ∀(pins:List (Addr×Obj))(s:Shared)(σ:St)(H:Hp)(Q:Bool->Hp->Prop),Inv Y pins σ H s->t σ H Q->wpAny (model Y.prog Y.w) Y.A (Qh6 ifs Y.env) (TP Y pins σ Q) Y.xe s
def QsT:TT:=λ_ H Q=>Q true H
theorem Qtk{Y:Cx}:PTs Y [] QsT:=λpins s σ H Q I h=>wpAny_tests_nil ⟨H,I,h⟩
theorem Ql9{Y:Cx}{c:Q1}{t:TT}(h:PT Y c t):PTs Y [c] t:=λpins s σ H Q I q=>wpAny_tests_one (h pins s σ H Q I q)
def QnR(Y:Cx)(tg:Q1)(ifs:List Q1)(inner:Act):Value->Act:=λu Q s=>
 wpAny (model Y.prog Y.w) Y.A (assign tg Y.env u) (λ_ s4=>wpAny (model Y.prog Y.w) Y.A (Qh6 ifs Y.env) (λok s5=>if ok=true then inner Q s5 else Q s5) (λ_ _=>False) s4) (λ_ _=>False) s
def bOf(σ:St)(g:TG)(tc:TT)(inner:St->Hp->(Hp->Prop)->Prop):V->Hp->(Hp->Prop)->Prop:=λx H k=>g x σ H λσ4 H4=>Wk σ σ4/\tc σ4 H4 λb H5=>
 if b=true then inner σ4 H5 k else k H5
theorem QeI{Y:Cx}{σ:St}{tg:Q1}{ifs:List Q1}{g:TG}{tc:TT}{inner:Act}{ri:St->Hp->(Hp->Prop)->Prop}(hx:Y.xe=λ_ _=>False)(hg:PG Y tg g)(ht:PTs Y ifs tc)(he:∀σ4,BodyOk Y σ4 inner (ri σ4))(x:V)(u:Value)(r:RelV x u) :
  BodyOk Y σ (QnR Y tg ifs inner u) (bOf σ g tc ri x):=by
 intro pins s H k Q I h hQ;have hx':∀(v:Value)(s':Shared),Y.xe v s'->False:=λv s' z=>by rw[hx] at z;exact z
 refine wpAny_mono (hg pins s σ H x u _ I r h) (λ_ s4 ⟨σ4,H4,I4,wk,q4⟩=>?_) hx';refine wpAny_mono (ht pins s4 σ4 H4 _ I4 q4) (λb s5 ⟨H5,I5,q5⟩=>?_) hx';cases b with
 |false=>
  rw[if_neg Qi] at q5;rw[if_neg Qi];exact hQ s5 H5 (I5.wk wk) q5
 |true=>
  rw[if_pos rfl] at q5;rw[if_pos rfl];exact he σ4 pins s5 H5 k Q I5 q5 λs' H' I' k'=>hQ s' H' (I'.wk wk) k'
def QnU(Y:Cx)(elt:Q1)(D:Addr):Act:=λQ s=>wpAny (model Y.prog Y.w) Y.A (eval elt Y.env) (λv s6=>wpAny (model Y.prog Y.w) Y.A (call (.builtin "list.append") [.ref D,v]) (λ_ s7=>Q s7) (λ_ _=>False) s6) (λ_ _=>False) s
def Qx0(p:Addr)(te:TE):St->Hp->(Hp->Prop)->Prop:=λσ H k=>te σ H λv H6=>∃ys,H6 p=some (.lst ys)/\ys.length<sizeLine/\k (upd H6 p (.lst (ys++[v])))
theorem Qgv{Y:Cx}{σ:St}{elt:Q1}{te:TE}{D:Addr}(hx:Y.xe=λ_ _=>False)(he:PE Y elt te):BodyOk Y σ (QnU Y elt D) (Qx0 D te σ):=by
 intro pins s H k Q I h hQ;have hx':∀(v:Value)(s':Shared),Y.xe v s'->False:=λv s' z=>by rw[hx] at z;exact z
 refine wpAny_mono (he pins s σ H _ I h) (λv s6 ⟨y,H6,I6,r6,ys,e,hz,q⟩=>?_) hx';exact wpAny_mono (Qhm (X:=Y) pins s6 σ H6 (.ref D) [y] (.ref D) [v] (λ_ H'=>k H') I6 rfl (.cons r6 .nil) ⟨D,ys,y,rfl,rfl,e,hz,q⟩) (λ_ s7 ⟨_,H7,I7,_,q7⟩=>hQ s7 H7 I7 q7) hx'
theorem Qi7{Y:Cx}{elt tg iter:Q1}{ifs:List Q1}{scope:YV}{cpos:Pos}{it D:Addr}(Q:PySem.Fin->Shared->Prop)(E:Value->Shared->Prop)(s:Shared)
  (h:wpAny (model Y.prog Y.w) Y.A (pyNext (.ref it)) (λr s1=>match r with
   |none=>Q (.done .next) s1
   |some v=>wpAny (model Y.prog Y.w) Y.A (letOwnedTupleGo tg (.ref it) v) (λ_ s2=>QnR Y tg ifs (QnU Y elt D) v (λs3=>Q (.again (.compLoop (.ListComp elt [⟨tg,iter,ifs,0⟩] scope cpos) 0 (.ref it) (.ref D) Y.env)) s3) s2) E s1) E s) :
  wpAny (model Y.prog Y.w) Y.A (compTurn (.ListComp elt [⟨tg,iter,ifs,0⟩] scope cpos) 0 (.ref it) (.ref D) Y.env) Q E s:=by
 rw[compTurn_list];refine wpAny_bind (wpAny_standAt (wpAny_bind (thn h λr s1 h1=>?_)));cases r with
 |none=>exact wpAny_pure h1
 |some v=>
  refine wpAny_bind (thn h1 λ_ s2 h2=>?_);refine wpAny_bind (wpAny_mono h2 (λ_ s4 h4=>wpAny_bind (wpAny_mono h4 (λok s5 h5=>?_) λ_ _ f=>f.elim)) λ_ _ f=>f.elim);cases ok with
  |false=>exact wpAny_pure h5
  |true=>exact wpAny_bind (wpAny_bind (wpAny_mono h5 (λx s6 h6=>wpAny_bind (wpAny_mono h6 (λ_ s7 h7=>wpAny_pure (wpAny_pure h7)) λ_ _ f=>f.elim)) λ_ _ f=>f.elim))
def tComp(cap:List (Option Nat))(wi:TI)(g:TG)(tc:TT)(te:TE):TE:=λσ H Q=>wi σ H λJ H1=>∀p,H1 p=none->Qia J (bOf (QcS cap σ) g tc (Qx0 p te)) (Q (.ref p)) (upd H1 p (.lst []))
theorem FpOk.upd{X:Cx}{pins:List (Addr×Obj)}{H:Hp}{b a:Addr}{o:HO}(h:FpOk X pins H b)(hne:b≠a):FpOk X pins (upd H a o) b:=⟨by rw[JX hne];exact h.1,h.2⟩
theorem Qo2{X:Cx}{M:List Str}{cap:List (Option Nat)}{elt tg iter:Q1}{ifs:List Q1}{scope:YV}{pos:Pos}{wi:TI}{g:TG}{tc:TT}{te:TE}(hc:X.calm=true)(ok:Qe1 X.N X.env.scope M scope cap=true)
  (hi:PI X tg iter wi)(hb:∀cl ex s3 H3 C,PG (blk X M scope cl ex s3 H3 C) tg g/\PTs (blk X M scope cl ex s3 H3 C) ifs tc/\PE (blk X M scope cl ex s3 H3 C) elt te)
  (hs:∀x,foldedSetIterable iter X.env x=pure x:=by intro _;rfl):PE X (.ListComp elt [⟨tg,iter,ifs,0⟩] scope pos) (tComp cap wi g tc te):=by
 intro pins s σ H Q I h;have c:=CapOk.of ok;rw[eval_ListComp];refine Qal (use:=none) rfl hs (Qgp (I.ok.cells c)) c.kind c.loc ?_
 refine thn (hi pins s σ H _ I h) λv s1 h1=>thn h1 λitv s2 h2=>?_
 obtain⟨it,fp,tn,J,H2,e,I2,T,st2,f2,hW⟩:=h2;subst e;refine Jr (Qa8 c.cell (by intro y hy;simp at hy) (λh₁ hns₁ hsb₁=>?_) c.kind);have I3:Inv X pins σ (upd H2 s2.heap.objs.size (.lst [])) { s2 with heap:=s2.heap.push { cls:=.type "list",data:=.seq ([]:List Value).toArray } }:=I2.lnew (t':=s2.toks) (ys:=[]) .nil (Jc _);have lt2:∀b∈fp,b<s2.heap.objs.size:=λb hb=>by obtain⟨o,e,_⟩:=T.obj _ _ st2 b hb;exact Qj e
 have f3:∀b∈fp,FpOk X pins (upd H2 s2.heap.objs.size (.lst [])) b:=λb hb=>(f2 b hb).upd (QD (lt2 b hb))
 generalize hs3:({ s2 with heap:=s2.heap.push { cls:=.type "list",data:=.seq ([]:List Value).toArray } }:Shared)=s3 at I3;have e3:s3.heap=s2.heap.push { cls:=.type "list",data:=.seq ([]:List Value).toArray }:=by rw[<- hs3]
 have z3:s3.heap.objs.size=s2.heap.objs.size+1:=by rw[e3,ZP]
 have hk:∀b o,s3.heap.get? b=some o->h₁.get? b=some o:=λb o e=>hsb₁.extBut b o (by
  have:=Qj e;rw[e3] at this;exact QD this) (Qf _ (e3 ▸ e))
 have hn₁:h₁.Ns s3.heap.objs.size λ_=>none:=by rw[e3];exact hns₁
 have B:=QcO (t4:=s3.toks+([]:List (Str×Value)).length) (fp:=fp) I3 c f3 (λb hb=>by rw[z3];exact YG (lt2 b hb)) hn₁ hk;have st4:tn 0 h₁:=T.keep _ _ _ st2 λb hb o e=>hk b o (by rw[e3];exact Qf _ e)
 have fp4:∀b∈fp,FpOk (blk X M scope (Qbl X.env scope.names []) fp s3 (upd H2 s2.heap.objs.size (.lst [])) s3.heap.objs.size) [] (upd H2 s2.heap.objs.size (.lst [])) b:=λb hb=>by
  refine⟨(f3 b hb).1,(B.ok.exf b hb).1,B.ok.exfs b hb,.inl hb,(B.ok.exf b hb).2,λp hp=>(nomatch hp)⟩
 obtain⟨hg,ht,he⟩:=hb (Qbl X.env scope.names []) fp s3 (upd H2 s2.heap.objs.size (.lst [])) s3.heap.objs.size;have loop:codeAny (model X.prog X.w) X.A (.compLoop (.ListComp elt [⟨tg,iter,ifs,0⟩] scope pos) 0 (.ref it) (.ref s2.heap.objs.size) (compEnvC scope (Qbl X.env scope.names []) s3.heap.objs.size X.env))
   (compPost (model X.prog X.w) X.A X.xe none (EP X pins σ Q) (.ref s2.heap.objs.size) s3.heap.objs.size) { s3 with heap:=h₁,toks:=s3.toks+([]:List (Str×Value)).length }:=by
  refine QcL (Y:=blk X M scope (Qbl X.env scope.names []) fp s3 (upd H2 s2.heap.objs.size (.lst [])) s3.heap.objs.size) (gens:=[⟨tg,iter,ifs,0⟩]) (d:=0) hc T st4 fp4
   (λQ E s h=>Qi7 Q E s h) (λx u r=>QeI rfl hg ht (λσ4=>Qgv rfl he) x u r) B (hW _ (I2.hok.fresh (Qh _))) λs' H' I' q=>?_
  obtain⟨m,hn,_⟩:=I'.loc;exact⟨m,hn,λh' hs'=>⟨.ref s2.heap.objs.size,H',QnL I3 f3 I' hs',rfl,q⟩⟩
 exact QcV loop (T.self _ 0 _ _ _ st4 loop)
section
variable{X:Cx}
theorem QiP:CallR X (.builtin "isinstance") (λxs H Q=>∃x t T b,xs=[x,.ty T]/\TyOf X.K H x t/\PySem.W.kitOne X.K t (.type T)=some b/\Q (.bl b) H):=by
 intro pins s σ H xs us Q I r h;obtain⟨x,t,T,b,rfl,ty,e,q⟩:=h;obtain⟨u,v,rfl,ru,rv⟩:=vals2 r;cases(show v=QaI T from rv);exact Qm4 I ru ty e λtk=>⟨.bl b,H,I.tok tk,rfl,q⟩
theorem QjP{bs:List Bool}:∀{us:List Value},Vals (bs.map V.bl) us->LSm.BoolsAre us bs:=by
 induction bs with
 |nil=>intro us r;cases r;exact .nil
 |cons b bs ih=>
  intro us r;cases r with
  |cons r t=>
   cases(show _=Qbp b from r);exact .cons b (ih t)
theorem QjO:CallR X (.builtin "all") (λxs H Q=>∃(p:Addr)(bs:List Bool),xs=[.ref p]/\SqL X.K H p (bs.map V.bl)/\X.calm=true/\Q (.bl (bs.all id)) H):=by
 intro pins s σ H xs us Q I r h;obtain⟨p,bs,rfl,hp,hc,q⟩:=h;obtain⟨u,rfl,ru⟩:=vals1 r;cases ru;obtain⟨its,rv,pl,hz⟩:=I.list hp;have hl:=pl.isList;have hb:=QjP rv;have hlt:p<s.heap.objs.size:=by obtain⟨_,e,_⟩:=hl;exact Qj e
 refine call_all_walk (Qcd hl ?_);refine⟨s.heap.objs.size,[s.heap.objs.size,p],[s.heap.objs.size],its.toArray.size,_,_,λi=>(bs[i]?).getD true,rfl,Walks.list (A:=X.A.in1) (I.ok.hd hc) _ p (QD hlt) its.toArray,
  ⟨⟨_,Qq _ rfl,rfl,rfl⟩,hl.push _⟩,λi v s' Q' E' hP hQ=>?_,λh' tk hk=>?_⟩
 ·obtain⟨b,e,rfl⟩:=hb.get i v (by simpa using hP);simp only[e,Qoh] at hQ;exact Zl hQ
 ·have e:((Qp its.toArray.size).all λi=>(bs[i]?).getD true)=bs.all id:=by
   rw[Ql,hb.length];exact LSm.range_all bs
  rw[e];exact⟨.bl _,H,I.kept (Qy1 hk),rfl,q⟩
def QAJ:V->Option Int->Option Int->Hp->VK->Prop:=λx lo hi H Q=>∃a xs,x=.ref a/\H a=some (.tup xs)/\∀p H',Same H H'->H' p=some (.tup (QjL xs lo hi))->Q (.ref p) H'
theorem JW{H:Hp}{p:Addr}{o:HO}(h:H p=none):Same H (upd H p o):=λb u e=>by rw[JX (Z2 e h)];exact e
theorem Qck{prog:QC}{w:Jf}{A:Ja}{E:Value->Shared->Prop}{s:Shared}{t sl:Addr}{items:Array Value}{vl vu:Value}{lo hi:Option Int}{Q:Value->Shared->Prop}(ht:IsTup s.heap t items)(hs:s.heap.IsSliceOf sl vl vu .none)(pl:QhQ vl lo)(pu:QhQ vu hi)
  (h1:HT.sIx items.size 0 lo=0)(h2:HT.sIx items.size items.size hi=items.size)(h:Q (.ref t) s):wpAny (model prog w) A (getItem (.ref t) (.ref sl)) Q E s:=by
 obtain⟨os,hos,hcs,hds⟩:=id hs;have hTs:s.TypeIs (.ref sl) "slice" := ⟨os,hos,hcs⟩;unfold getItem
 try with_reducible refine J1 ?_
 first | refine wpAny_bind (wpAny_pure ?_) | skip
 refine wpAny_bind (QyE ht.typeIs (by decide) ?_);refine wpAny_bind (Zc (name:=Y3 "__getitem__") ht.typeIs JY
  (JL JY ht.typeIs QvC ?_ (Qye _ _)))
 show wpAny _ _ (Qdp (.ref t) >>= _) _ _ s;refine wpAny_bind (tupleItemsOf_ ht ?_);refine wpAny_bind (QdA hTs ?_);rw[if_pos (by decide)];refine wpAny_bind (HT.Qbk hs pl pu ?_);show wpAny _ _ (if(((HT.sIx items.size 0 lo:Nat):Int) == 0&&(1:Int) == 1&&(HT.sIx items.size items.size hi - HT.sIx items.size 0 lo) == items.size)=true then _ else _) _ _ s;rw[if_pos (by rw[h1,h2];simp)];refine wpAny_bind (m:=Qy4 _) (wpAny_bind (QdA ht.typeIs (wpAny_pure ?_)));rw[if_pos (by decide)];exact wpAny_bind (wpAny_rule (wpAny_pure ⟨_,rfl,wpAny_pure h⟩))
theorem Qv9:SlR X QAJ:=by
 intro pins s σ H x v vl vu lo hi sl Q I rx hs pl pu h;obtain⟨a,xs,rfl,hx,q⟩:=h;by_cases hw:HT.sIx xs.length 0 lo=0/\HT.sIx xs.length xs.length hi=xs.length
 ·cases rx;obtain⟨its,r,ht,hz⟩:=I.tuple (SqT.of hx);have hlen:its.toArray.size=xs.length:=by rw[Ql];exact r.length.symm
  refine⟨"tuple",_,JY.lookup,ht.typeIs,?_⟩;refine Qck ht hs pl pu (by rw[hlen];exact hw.1) (by rw[hlen];exact hw.2) ?_
  refine⟨.ref a,H,I,rfl,q a H (Same.refl H) ?_⟩;have e:QjL xs lo hi=xs:=by
   unfold QjL;rw[hw.1,hw.2];simp
  rw[e];exact hx
 ·exact Qv8 pins s σ H (.ref a) v vl vu lo hi sl Q I rx hs pl pu ⟨a,xs,rfl,SqT.of hx,hw,λp hp=>q p _ (JW hp) Jz⟩
def Qwq:R2:=λx y H Q=>∃a b xs ys,x=.ref a/\y=.ref b/\H a=some (.tup xs)/\H b=some (.tup ys)/\xs.length+ys.length<=sizeLine/\∀p H',Same H H'->H' p=some (.tup (xs++ys))->Q (.ref p) H'
theorem Qt5:OpR X (binaryOp .Add) Qwq:=by
 intro pins s σ H x y v u Q I rx ry h;obtain⟨a,b,xs,ys,rfl,rfl,ha,hb,hz,q⟩:=h;by_cases hx:xs=[]
 ·subst hx;cases rx;cases ry;obtain⟨its,r1,p1,_⟩:=I.tuple (SqT.of ha);obtain⟨its2,r2,p2,_⟩:=I.tuple (SqT.of hb);cases r1;obtain⟨⟨cls,dd,data,sl⟩,ho,hc,n,hd⟩:=id p1;obtain⟨⟨cls2,dd2,data2,sl2⟩,ho2,hc2,n2,hd2⟩:=id p2;simp only at hc hd hc2 hd2;subst hc hd hc2 hd2;exact Qsu ⟨_,ho,rfl⟩ ⟨_,ho2,rfl⟩ QhW Qoc PySem.F.slot_tuple_add PySem.F.entry_tuple_add (PySem.F.args_tuple_add_2 _ _)
   (tuple_addW0 a b #[] its2.toArray n n2 dd dd2 sl sl2 rfl) ⟨ho,ho2,⟨.ref b,H,I,rfl,q b H (Same.refl H) hb⟩⟩
 ·exact Qt4 pins s σ H _ _ v u Q I rx ry ⟨a,b,xs,ys,rfl,rfl,SqT.of ha,SqT.of hb,hx,hz,λe=>q a H (Same.refl H) (by rw[e,ZB];exact ha),λ_ p hp=>q p _ (JW hp) Jz⟩
end
end L2
namespace Rz
open Sem (wp)
section
variable{prog:QC}{w:Jf}{A:Ja}{E:Value->Shared->Prop}{s:Shared}
theorem Qf4{it t:Addr}{i:Nat}{items:Array Value}{x:Value}{Q:Value->Shared->Prop}(hit:s.heap.IsTupleIter it t i)(ht:s.heap.IsTuple t items)(hx:items[i]? = some x)
  (hQ:∀h',h'.IsTupleIter it t (i+1)->Qax it s.heap h'->Q x { s with heap:=h' }):wpAny (model prog w) A (JJ (.ref it)) Q E s:=by
 obtain⟨o,ho,hc,hd⟩:=id hit;obtain⟨ol,hol,_,nl,hdl⟩:=ht;unfold JJ;refine wpAny_bind (Zc (name:=Y3 "__next__") hit.typeIs YU
  (JL YU hit.typeIs Qh2 ?_ (QhS _)))
 show wpAny _ _ (field (.ref it) 0 >>= _) _ _ s;refine wpAny_bind (Zg ho hd (x:=.ref t) rfl ?_);show wpAny _ _ (if(Zm t == Js)=true then _ else _) _ _ s;rw[if_neg (show ¬((Zm t == Js)=true) from Qi)];show wpAny _ _ (field (.ref it) 1 >>= _) _ _ s;refine wpAny_bind (Zg ho hd (x:=.int i 0) rfl ?_);show wpAny _ _ (seqItems? (.ref t) >>= _) _ _ s;refine wpAny_bind (Zq hol hdl ?_);simp only[QV,hx];refine wpAny_bind (Qb3 ho hd (by simp) (wpAny_pure ⟨x,rfl,wpAny_pure (hQ _ ?_ (ZG ..))⟩));exact⟨_,J5 _ ho (Qcy (Yt hd _)),(QeS ..).trans hc,by
  rw[Yt hd];simp[rawInt]⟩
theorem QmL{it t:Addr}{i:Nat}{items:Array Value}{Q:Value->Shared->Prop}(hh:A.handled=none)(hit:s.heap.IsTupleIter it t i)(ht:s.heap.IsTuple t items)(hx:items[i]? = none)
  (hE:∀h' e,Heap.ExtBut it s.heap h'->(∃o,h'.get? e=some o/\o.cls=.type "StopIteration")->E (.ref e) { s with heap:=h' }):wpAny (model prog w) A (JJ (.ref it)) Q E s:=by
 obtain⟨o,ho,hc,hd⟩:=id hit;obtain⟨ol,hol,_,nl,hdl⟩:=ht;unfold JJ;refine wpAny_bind (Zc (name:=Y3 "__next__") hit.typeIs YU
  (JL YU hit.typeIs Qh2 ?_ (QhS _)))
 show wpAny _ _ (field (.ref it) 0 >>= _) _ _ s;refine wpAny_bind (Zg ho hd (x:=.ref t) rfl ?_);show wpAny _ _ (if(Zm t == Js)=true then _ else _) _ _ s;rw[if_neg (show ¬((Zm t == Js)=true) from Qi)];show wpAny _ _ (field (.ref it) 1 >>= _) _ _ s;refine wpAny_bind (Zg ho hd (x:=.int i 0) rfl ?_);show wpAny _ _ (seqItems? (.ref t) >>= _) _ _ s;refine wpAny_bind (Zq hol hdl ?_);simp only[QV,hx];refine wpAny_bind (wpAny_rule (wpAny_bind (Qb3 ho hd (by simp) ?_)));show wpAny _ _ (newExc (.type "StopIteration") [] >>= _) _ _ _;refine wpAny_bind ?_
 simp only[newExc,newTuple];refine wpAny_bind (Jr ?_ (by size_fits));refine wpAny_bind (m:=firstArgMember _ _) (ZN (a:=Js) (by first | rfl | (simp only[firstArgMember];rfl)) ?_);refine Jr ?_ (by size_fits)
 simp only[raiseNew];refine wpAny_bind (wpAny_handled ?_)
 first | rw[show A.in1.handled=none from hh] | rw[hh]
 refine wpAny_bind (wpAny_pure (wpAny_throw ?_));exact hE _ _ (((ZG ..).extBut.push _).push _) ⟨_,Qq _ rfl,rfl⟩
structure Apart (z TI TO i1 i2 t1 t2:Addr):Prop where
 a1:TI≠z
 a2:TO≠z
 a3:i1≠z
 a4:i2≠z
 a5:TI≠TO
 a6:TI≠i1
 a7:TI≠i2
 a8:TO≠i1
 a9:TO≠i2
 b1:i1≠i2
 b2:t1≠z/\t1≠TO/\t1≠i1/\t1≠i2
 b3:t2≠z/\t2≠TO/\t2≠i1/\t2≠i2
structure QnV (h:Heap) (z TI TO i1 i2 t1 t2:Addr) (f:Value) (k:Nat):Prop where
 zp:QsE h z TI TO f
 ti:IsPair h TI (.ref i1) (.ref i2)
 to:∃a b,IsPair h TO a b
 i1:h.IsTupleIter i1 t1 k
 i2:h.IsTupleIter i2 t2 k
theorem QmN{z TI TO i1 i2 t1 t2:Addr}{k:Nat}{xs ys:Array Value}{x y:Value}{Q:Option Value->Shared->Prop}(D:Apart z TI TO i1 i2 t1 t2)(Z:QnV s.heap z TI TO i1 i2 t1 t2 .none k)
  (hl1:s.heap.IsTuple t1 xs)(hl2:s.heap.IsTuple t2 ys)(hx:xs[k]? = some x)(hy:ys[k]? = some y)
  (hQ:∀h',QnV h' z TI TO i1 i2 t1 t2 (rawInt s.heap.objs.size) (k+1)->IsPair h' s.heap.objs.size x y->(∀c o,c≠z->c≠TO->c≠i1->c≠i2->s.heap.get? c=some o->h'.get? c=some o)->Q (some (.ref s.heap.objs.size)) { s with heap:=h' }) :
  wpAny (model prog w) A (pyNext (.ref z)) Q E s:=by
 obtain⟨hz,hTI,⟨a,b,hTO⟩,h1,h2⟩:=Z;have hT:s.TypeIs (.ref z) "zip" := ⟨_,hz,rfl⟩;unfold pyNext;refine wpAny_bind (Qfx (Zc (name:=Y3 "__next__") hT QcW (JL QcW hT Qyp ?_ (QvM _))));show wpAny _ _ (field (.ref z) 2 >>= _) _ _ _;refine wpAny_bind (Zg hz rfl (x:=.bool false) rfl ?_);show wpAny _ _ (field (.ref z) 3 >>= _) _ _ _;refine wpAny_bind (Zg hz rfl (x:=.ref TI) rfl (wpAny_bind (Zq hTI rfl ?_)));show wpAny _ _ (Zz (.ref z) >>= _) _ _ _;refine wpAny_bind ?_
 unfold Zz;refine wpAny_bind (Zg hz rfl (x:=.none) rfl (wpAny_pure ?_));simp only[if_true];refine wpAny_bind (wpAny_rule (wpAny_bind (Zg hz rfl (x:=.ref TO) rfl (wpAny_bind (YF hz (by simp) λg1 z1 s1=>?_)))))
 replace z1:QsE g1 z TI TO .ellipsis:=z1
 refine wpAny_bind ?_
 simp only[QsB,Qvr,QgI,QvI];refine wpAny_bind (wpAny_bind (Qfw ?_));show wpAny _ _ (JJ (.ref i1) >>= _) _ _ _;refine wpAny_bind (Qf4 (h1.extBut s1.extBut D.a3) (hl1.extBut s1.extBut D.b2.1) hx λg2 p2 s2=>wpAny_pure ?_);have o2:IsPair g2 TO a b:=s2.extBut _ _ D.a8 (s1.extBut _ _ D.a2 hTO);refine wpAny_bind (Zq o2 rfl (wpAny_bind (Qd2 o2 λg3 o3 s3=>wpAny_bind (Qbo (wpAny_pure ?_)))))
 replace o3:IsPair g3 TO x b:=o3
 refine wpAny_bind (wpAny_bind (Qfw ?_));show wpAny _ _ (JJ (.ref i2) >>= _) _ _ _;refine wpAny_bind (Qf4 (((h2.extBut s1.extBut D.a4).extBut s2.extBut D.b1.symm).extBut s3.extBut D.a9.symm)
  (((hl2.extBut s1.extBut D.b3.1).extBut s2.extBut D.b3.2.2.1).extBut s3.extBut D.b3.2.1) hy λg4 p4 s4=>wpAny_pure ?_)
 have o4:IsPair g4 TO x b:=s4.extBut _ _ D.a9 o3;refine wpAny_bind (Zq o4 rfl (wpAny_bind (Qd2 o4 λg5 o5 s5=>wpAny_bind (Qbo (wpAny_pure (wpAny_pure ?_))))))
 replace o5:IsPair g5 TO x y:=o5
 refine wpAny_bind (Zq o5 rfl (wpAny_bind (wpAny_newTuple ?_)));have sz:g5.objs.size=s.heap.objs.size:=by rw[s5.1,s4.1,s3.1,s2.1,s1.1]
 have kp:∀c o,c≠z->c≠TO->c≠i1->c≠i2->s.heap.get? c=some o->g5.get? c=some o:=λc o c1 c2 c3 c4 e=>
  s5.extBut _ _ c2 (s4.extBut _ _ c4 (s3.extBut _ _ c2 (s2.extBut _ _ c3 (s1.extBut _ _ c1 e))))
 have z5:QsE g5 z TI TO .ellipsis:=s5.extBut _ _ D.a2.symm (s4.extBut _ _ D.a4.symm (s3.extBut _ _ D.a2.symm (s2.extBut _ _ D.a3.symm z1)));have q1:g5.IsTupleIter i1 t1 (k+1):=((p2.extBut s3.extBut D.a8.symm).extBut s4.extBut D.b1).extBut s5.extBut D.a8.symm;have q2:g5.IsTupleIter i2 t2 (k+1):=p4.extBut s5.extBut D.a9.symm;show wpAny _ _ (Qa2 (.ref z) (.ref g5.objs.size) >>= _) _ _ _;refine wpAny_bind ?_
 unfold Qa2;have z6:QsE (g5.push { cls:=.type "tuple",data:=.seq #[x,y] }) z TI TO .ellipsis:=Qf _ z5;refine wpAny_bind (YF z6 (by simp) λg7 z7 s7=>?_)
 replace z7:QsE g7 z TI TO (rawInt g5.objs.size):=z7
 refine YF z7 (by simp) λg8 z8 s8=>?_
 replace z8:QsE g8 z TI TO (rawInt g5.objs.size):=z8
 have up:∀c o,c≠z->g5.get? c=some o->g8.get? c=some o:=λc o c1 e=>s8.extBut _ _ c1 (s7.extBut _ _ c1 (Qf _ e))
 have ne:g5.objs.size≠z:=Qay (Qj z5);have t8:IsPair g8 g5.objs.size x y:=s8.extBut _ _ ne (s7.extBut _ _ ne (Qq _ rfl));rw[sz] at z8 t8;refine wpAny_pure ⟨_,rfl,wpAny_pure ?_⟩;show Q (some (.ref g5.objs.size)) _;rw[sz];exact hQ g8 ⟨z8,up _ _ D.a1 (kp _ _ D.a1 D.a5 D.a6 D.a7 hTI),⟨x,y,up _ _ D.a2 o5⟩,q1.at λo e=>up _ o D.a3 e,q2.at λo e=>up _ o D.a4 e⟩ t8 λc o c1 c2 c3 c4 e=>up c o c1 (kp c o c1 c2 c3 c4 e)
theorem QpG{z TI TO i1 i2 t1 t2:Addr}{k:Nat}{xs ys:Array Value}{Q:Option Value->Shared->Prop}(hh:A.handled=none)(D:Apart z TI TO i1 i2 t1 t2)(Z:QnV s.heap z TI TO i1 i2 t1 t2 .none k)
  (hl1:s.heap.IsTuple t1 xs)(hl2:s.heap.IsTuple t2 ys)(hend:xs[k]? = none∨ys[k]? = none)
  (hQ:∀h',(∀c o,c≠z->c≠TO->c≠i1->c≠i2->s.heap.get? c=some o->h'.get? c=some o)->Q none { s with heap:=h' }):wpAny (model prog w) A (pyNext (.ref z)) Q E s:=by
 obtain⟨hz,hTI,⟨a,b,hTO⟩,h1,h2⟩:=Z;have hT:s.TypeIs (.ref z) "zip" := ⟨_,hz,rfl⟩;have fin:∀(h':Heap)(e:Addr),(∀c o,c≠z->c≠TO->c≠i1->c≠i2->s.heap.get? c=some o->h'.get? c=some o)->(∃o,h'.get? e=some o/\o.cls=.type "StopIteration") ->
   wpAny (model prog w) A (isInstance (.ref e) (.type "StopIteration") >>= λx=>if x=true then pure none else throw (.ref e)) Q E { s with heap:=h' }:=λh' e hk he=>by
  obtain⟨o,ho,hc⟩:=he;refine wpAny_bind (QhU (T := "StopIteration") (b:=true) ⟨o,ho,hc⟩ isSubtype_stop ?_);exact wpAny_pure (hQ _ hk)
 unfold pyNext;refine wpAny_bind (Qfx (Zc (name:=Y3 "__next__") hT QcW (JL QcW hT Qyp ?_ (QvM _))));show wpAny _ _ (field (.ref z) 2 >>= _) _ _ _;refine wpAny_bind (Zg hz rfl (x:=.bool false) rfl ?_);show wpAny _ _ (field (.ref z) 3 >>= _) _ _ _;refine wpAny_bind (Zg hz rfl (x:=.ref TI) rfl (wpAny_bind (Zq hTI rfl ?_)));show wpAny _ _ (Zz (.ref z) >>= _) _ _ _;refine wpAny_bind ?_
 unfold Zz;refine wpAny_bind (Zg hz rfl (x:=.none) rfl (wpAny_pure ?_));simp only[if_true];refine wpAny_bind (wpAny_rule (wpAny_bind (Zg hz rfl (x:=.ref TO) rfl (wpAny_bind (YF hz (by simp) λg1 z1 s1=>?_)))))
 replace z1:QsE g1 z TI TO .ellipsis:=z1
 refine wpAny_bind ?_
 simp only[QsB,Qvr,QgI,QvI];refine wpAny_bind (wpAny_bind (Qfw ?_));show wpAny _ _ (JJ (.ref i1) >>= _) _ _ _;cases hx:xs[k]? with
 |none=>
  refine wpAny_bind (QmL hh (h1.extBut s1.extBut D.a3) (hl1.extBut s1.extBut D.b2.1) hx λg2 e s2 he=>?_);obtain⟨oe,hoe,hce⟩:=he;have z2:QsE g2 z TI TO .ellipsis:=s2 _ _ D.a3.symm z1;have hez:e≠z:=λq=>by subst q;rw[z2] at hoe;cases hoe;simp at hce
  refine YF z2 (by simp) λg3 _ s3=>?_
  exact fin g3 e (λc o c1 _ c3 _ q=>s3.extBut _ _ c1 (s2 _ _ c3 (s1.extBut _ _ c1 q))) ⟨oe,s3.extBut _ _ hez hoe,hce⟩
 |some x=>
  have hy:ys[k]? = none:=by
   rcases hend with q | q
   ·rw[hx] at q;cases q
   ·exact q
  refine wpAny_bind (Qf4 (h1.extBut s1.extBut D.a3) (hl1.extBut s1.extBut D.b2.1) hx λg2 p2 s2=>wpAny_pure ?_);have o2:IsPair g2 TO a b:=s2.extBut _ _ D.a8 (s1.extBut _ _ D.a2 hTO);refine wpAny_bind (Zq o2 rfl (wpAny_bind (Qd2 o2 λg3 o3 s3=>wpAny_bind (Qbo (wpAny_pure ?_)))));refine wpAny_bind (wpAny_bind (Qfw ?_));show wpAny _ _ (JJ (.ref i2) >>= _) _ _ _;refine wpAny_bind (QmL hh (((h2.extBut s1.extBut D.a4).extBut s2.extBut D.b1.symm).extBut s3.extBut D.a9.symm)
   (((hl2.extBut s1.extBut D.b3.1).extBut s2.extBut D.b3.2.2.1).extBut s3.extBut D.b3.2.1) hy λg4 e s4 he=>?_)
  obtain⟨oe,hoe,hce⟩:=he;have z4:QsE g4 z TI TO .ellipsis:=s4 _ _ D.a4.symm (s3.extBut _ _ D.a2.symm (s2.extBut _ _ D.a3.symm z1));have hez:e≠z:=λq=>by subst q;rw[z4] at hoe;cases hoe;simp at hce
  refine YF z4 (by simp) λg5 _ s5=>?_
  exact fin g5 e (λc o c1 c2 c3 c4 q=>s5.extBut _ _ c1 (s4 _ _ c4 (s3.extBut _ _ c2 (s2.extBut _ _ c3 (s1.extBut _ _ c1 q))))) ⟨oe,s5.extBut _ _ hez hoe,hce⟩
end
abbrev zh1 (h:Heap) (t1:Addr):Heap:=h.push { cls:=.type "tuple_iterator",data:=.fields #[.ref t1,.int 0 0] }
abbrev zh2 (h:Heap) (t1 t2:Addr):Heap:=(zh1 h t1).push { cls:=.type "tuple_iterator",data:=.fields #[.ref t2,.int 0 0] }
abbrev zh3 (h:Heap) (t1 t2:Addr):Heap:=(zh2 h t1 t2).push { cls:=.type "tuple",data:=.seq #[.ref h.objs.size,.ref (zh1 h t1).objs.size] }
abbrev zh4 (h:Heap) (t1 t2:Addr):Heap:=(zh3 h t1 t2).push { cls:=.type "tuple",data:=.seq #[.none,.none] }
abbrev zh5 (h:Heap) (t1 t2:Addr):Heap:=(zh4 h t1 t2).push { cls:=.type "zip",data:=.fields #[.none,.bool false,.bool false,.ref (zh2 h t1 t2).objs.size,.ref (zh3 h t1 t2).objs.size] }
theorem QBH(t1 t2:Addr)(xs ys:Array Value) :
  Meets (Y2.«zip.__new__» ⟨[.type "zip",.ref t1,.ref t2],[]⟩) (λ_ R s=>s.heap.IsTuple t1 xs/\s.heap.IsTuple t2 ys/\R (.ok (.ret (.ref (zh4 s.heap t1 t2).objs.size))) { s with heap:=zh5 s.heap t1 t2 }):=
 .of_wp λprog w A R s h=>by
  obtain⟨hp,g,d,tk,os⟩:=s;obtain⟨hl1,hl2,h⟩:=h;have hsub:=sub_zip;have k1:Qy2 (Qyg ⟨hp,g,d,tk,os⟩) t1 xs:=hl1;have k2:Qy2 (Qyg ⟨hp.push { cls:=.type "tuple_iterator",data:=.fields #[.ref t1,.int 0 0] },g,d,tk,os⟩) t2 ys:=hl2.at λo e=>Qf _ e
  wp_walk using Qfv k1,Qfv k2
  exact⟨_,rfl,h⟩
section
variable{prog:QC}{w:Jf}{A:Ja}{E:Value->Shared->Prop}{s:Shared}
theorem Qrj{t1 t2:Addr}{xs ys:Array Value}{Q:Value->Shared->Prop}(hl1:s.heap.IsTuple t1 xs)(hl2:s.heap.IsTuple t2 ys)
  (h:∀h',QnV h' (s.heap.objs.size+4) (s.heap.objs.size+2) (s.heap.objs.size+3) s.heap.objs.size (s.heap.objs.size+1) t1 t2 .none 0->(∀c o,s.heap.get? c=some o->h'.get? c=some o)->Q (.ref (s.heap.objs.size+4)) { s with heap:=h' }) :
  wpAny (model prog w) A (call (.type "zip") [.ref t1,.ref t2]) Q E s:=by
 refine callType_new F.called_zip (by decide) (F.typeCall_zip_2 _ _) (F.newCall_zip_2 _ _) (λobj=>F.args_object_init_3 obj _ _) F.entry_zip_new (QBH t1 t2 xs ys) ⟨hl1,hl2,?_⟩;have z1:(zh1 s.heap t1).objs.size=s.heap.objs.size+1:=ZP ..;have z2:(zh2 s.heap t1 t2).objs.size=s.heap.objs.size+2:=by rw[ZP,z1]
 have z3:(zh3 s.heap t1 t2).objs.size=s.heap.objs.size+3:=by rw[ZP,z2]
 have z4:(zh4 s.heap t1 t2).objs.size=s.heap.objs.size+4:=by rw[ZP,z3]
 have g5:(zh5 s.heap t1 t2).get? (zh4 s.heap t1 t2).objs.size=some _:=Qq _ rfl;have g4:(zh5 s.heap t1 t2).get? (zh3 s.heap t1 t2).objs.size=some _:=Qf _ (Qq _ rfl);have g3:(zh5 s.heap t1 t2).get? (zh2 s.heap t1 t2).objs.size=some _:=Qf _ (Qf _ (Qq _ rfl));have g2:(zh5 s.heap t1 t2).get? (zh1 s.heap t1).objs.size=some _:=Qf _ (Qf _ (Qf _ (Qq _ rfl)));have g1:(zh5 s.heap t1 t2).get? s.heap.objs.size=some _:=Qf _ (Qf _ (Qf _ (Qf _ (Qq _ rfl))));show _/\_;rw[z2,z3,z4] at g5;rw[z1,z2] at g3;rw[z3] at g4;rw[z1] at g2;rw[z4];exact⟨⟨_,g5,rfl⟩,h _ ⟨g5,g3,⟨_,_,g4⟩,⟨_,g1,rfl,rfl⟩,⟨_,g2,rfl,rfl⟩⟩ λc o x=>Qf _ (Qf _ (Qf _ (Qf _ (Qf _ x))))⟩
end
end Rz
namespace L2
section
variable{X:Cx}{pins:List (Addr×Obj)}{σ:St}{H:Hp}{s:Shared}{h':Heap}
theorem Inv.turnedNew{t':Nat}{ch:List Addr}{a:Addr}{o:HO}(I:Inv X pins σ H s)(hch:∀b∈ch,FpOk X pins H b)(k:∀b u,b∉ch->s.heap.get? b=some u->h'.get? b=some u)(hp:s.heap.objs.size<=a)
  (new:ObjOk X.prog X.w (upd H a o) h' a o):Inv X pins σ (upd H a o) { s with heap:=h',toks:=t' }:=by
 have hn:H a=none:=I.hok.fresh hp;have nch:∀b u,H b=some u->b∉ch:=λb u e z=>by rw[(hch b z).1] at e;cases e
 refine I.step (g':=s.gens) (d':=s.drawn) (ch:=ch) (λb hb=>?_) (λb u _ _ hc e _=>k b u hc e) (λb u _ _ hc e _=>⟨u.slots,k b u hc e⟩) (λb u hc e n=>?_) (λb u hc e=>⟨u,k b u hc e⟩)
  (λb xs e=>by rw[JX (Z2 e hn)];exact e) (λb u v e=>by rw[JX (Z2 e hn)];exact e) (λb ps e=>⟨#[],by rw[JX (Z2 e hn),e];simp⟩) (λm hm=>?_) (λb u e=>?_) I.bare
 ·obtain⟨f0,f1,f2,f3,f4,f5⟩:=hch b hb;exact⟨f3,f1,f4,f5⟩
 ·rw[JX (QD (QQ (Qj e) hp))];exact n
 ·obtain⟨u,es,ep,ho,r⟩:=hm;exact⟨u,es,ep,k _ u (λz=>(hch _ z).2.1 rfl) ho,r⟩
 ·by_cases hb:b=a
  ·subst hb;rw[Jz] at e;cases e;exact new
  ·rw[JX hb] at e;refine(I.hok b u e).stay (λc v hc q=>k c v ?_ q) (λc q=>by rw[JX (Z2 q hn)];exact q) λc xs q=>by rw[JX (Z2 q hn)];exact q
   rcases hc with z | z
   ·rw[z];exact nch b u e
   ·exact nch c _ z
theorem Inv.turnedAll{t':Nat}{ch:List Addr}(I:Inv X pins σ H s)(hch:∀b∈ch,FpOk X pins H b)(k:∀b u,b∉ch->s.heap.get? b=some u->h'.get? b=some u):Inv X pins σ H { s with heap:=h',toks:=t' }:=by
 have nch:∀b u,H b=some u->b∉ch:=λb u e z=>by rw[(hch b z).1] at e;cases e
 refine I.step (g':=s.gens) (d':=s.drawn) (ch:=ch) (λb hb=>?_) (λb u _ _ hc e _=>k b u hc e) (λb u _ _ hc e _=>⟨u.slots,k b u hc e⟩) (λb u hc e n=>n) (λb u hc e=>⟨u,k b u hc e⟩)
  (λb xs e=>e) (λb u v e=>e) (λb ps e=>⟨#[],by rw[e];simp⟩) (λm hm=>?_) (λb u e=>?_) I.bare
 ·obtain⟨f0,f1,f2,f3,f4,f5⟩:=hch b hb;exact⟨f3,f1,f4,f5⟩
 ·obtain⟨u,es,ep,ho,r⟩:=hm;exact⟨u,es,ep,k _ u (λz=>(hch _ z).2.1 rfl) ho,r⟩
 ·refine(I.hok b u e).stay (λc v hc q=>k c v ?_ q) (λc q=>q) λc xs q=>q
  rcases hc with z | z
  ·rw[z];exact nch b u e
  ·exact nch c _ z
end
def Itz(t1 t2:Addr):It:=
 ⟨λi H=>∃xs ys x y,H t1=some (.tup xs)/\H t2=some (.tup ys)/\xs[i]? = some x/\ys[i]? = some y,
  λi H v H'=>∃p x y,H p=none/\(∀xs,H t1=some (.tup xs)->xs[i]? = some x)/\(∀ys,H t2=some (.tup ys)->ys[i]? = some y)/\v=.ref p/\H'=upd H p (.tup [x,y]),
  λi H=>∃xs ys,H t1=some (.tup xs)/\H t2=some (.tup ys)/\(xs.length<=i∨ys.length<=i)⟩
theorem Qos{P:QC}{w:Jf}{K:PySem.W.Frag}{elts:List Q1}{x1}{tpos:Pos}{z TI TO i1 i2 t1 t2:Addr}(D:Rz.Apart z TI TO i1 i2 t1 t2) :
  Turn P w K (.Tuple elts x1 tpos) (Itz t1 t2) [z,TI,TO,i1,i2] z (λi h=>Rz.QnV h z TI TO i1 i2 t1 t2 .none i) where
 mem:=by simp
 obj:=λi h st b hb=>by
  obtain⟨a1,a2,⟨_,_,a3⟩,⟨o4,a4,_,d4⟩,⟨o5,a5,_,d5⟩⟩:=st;simp only[Qy,Jm,or_false] at hb;rcases hb with rfl | rfl | rfl | rfl | rfl
  ·exact⟨_,a1,λv q=>nomatch q⟩
  ·exact⟨_,a2,λv q=>nomatch q⟩
  ·exact⟨_,a3,λv q=>nomatch q⟩
  ·exact⟨_,a4,λv q=>by rw[d4] at q;cases q⟩
  ·exact⟨_,a5,λv q=>by rw[d5] at q;cases q⟩
 keep:=λi h h' st k=>by
  obtain⟨a1,a2,⟨a,b,a3⟩,a4,a5⟩:=st;exact⟨k z (by simp) _ a1,k TI (by simp) _ a2,⟨a,b,k TO (by simp) _ a3⟩,a4.at λo e=>k i1 (by simp) o e,a5.at λo e=>k i2 (by simp) o e⟩
 item:=by
  intro X hP hw hK hc i pins s σ H E I hf st hg;subst hP hw hK;obtain⟨xs,ys,x,y,h1,h2,hx,hy⟩:=hg;obtain⟨its1,r1,p1,_⟩:=I.tuple (SqT.of h1);obtain⟨its2,r2,p2,_⟩:=I.tuple (SqT.of h2);obtain⟨u1,hu1,ru1⟩:=r1.get hx;obtain⟨u2,hu2,ru2⟩:=r2.get hy;refine Rz.QmN D st (show s.heap.IsTuple t1 its1.toArray from p1) (show s.heap.IsTuple t2 its2.toArray from p2) (by simpa using hu1) (by simpa using hu2) λh' st' tp kp=>?_
  have hlt:∀b∈[z,TI,TO,i1,i2],b≠s.heap.objs.size:=λb hb=>by
   obtain⟨a1,a2,⟨_,_,a3⟩,⟨o4,a4,_,d4⟩,⟨o5,a5,_,d5⟩⟩:=st;simp only[Qy,Jm,or_false] at hb;rcases hb with rfl | rfl | rfl | rfl | rfl
   ·exact QD (Qj a1)
   ·exact QD (Qj a2)
   ·exact QD (Qj a3)
   ·exact QD (Qj a4)
   ·exact QD (Qj a5)
  have fr:H s.heap.objs.size=none:=I.hok.fresh (Qh _);refine⟨_,rfl,Qk0 st'.zp λh2' z2 s2=>?_⟩;have I1:Inv X pins σ (upd H s.heap.objs.size (.tup [x,y])) { s with heap:=h2',toks:=s.toks }:=by
   refine I.turnedNew (ch:=[z,TI,TO,i1,i2]) hf (λb u hb e=>?_) (Qh _) ⟨by show 2<=sizeLine;decide,[u1,u2],.cons ru1 (.cons ru2 .nil),?_⟩
   ·simp only[Qy,Jm,or_false,not_or] at hb;exact s2.extBut _ _ hb.1 (kp b u hb.1 hb.2.2.1 hb.2.2.2.1 hb.2.2.2.2 e)
   ·exact⟨_,s2.extBut _ _ (hlt z (by simp)).symm tp,rfl,rfl,0,rfl⟩
  refine⟨.ref s.heap.objs.size,_,I1,rfl,⟨_,x,y,fr,λxs' e=>?_,λys' e=>?_,rfl,rfl⟩,?_,λb hb=>?_⟩
  ·rw[h1] at e;cases e;exact hx
  ·rw[h2] at e;cases e;exact hy
  ·obtain⟨a1,a2,⟨a,b,a3⟩,a4,a5⟩:=st';exact⟨z2,s2.extBut _ _ D.a1 a2,⟨a,b,s2.extBut _ _ D.a2 a3⟩,a4.extBut s2.extBut D.a3,a5.extBut s2.extBut D.a4⟩
  ·rw[JX (hlt b hb)];exact(hf b hb).1
 done:=by
  intro X hP hw hK hc i pins s σ H E I hf st hg;subst hP hw hK;obtain⟨xs,ys,h1,h2,he⟩:=hg;obtain⟨its1,r1,p1,_⟩:=I.tuple (SqT.of h1);obtain⟨its2,r2,p2,_⟩:=I.tuple (SqT.of h2);have l1:=r1.length;have l2:=r2.length;refine Rz.QpG (I.ok.hd hc) D st (show s.heap.IsTuple t1 its1.toArray from p1) (show s.heap.IsTuple t2 its2.toArray from p2) ?_ λh' kp=>⟨rfl,I.turnedAll (t':=s.toks) (ch:=[z,TI,TO,i1,i2]) hf λb u hb e=>?_⟩
  ·rcases he with q | q
   ·exact .inl (by simp;omega)
   ·exact .inr (by simp;omega)
  ·simp only[Qy,Jm,or_false,not_or] at hb;exact kp b u hb.1 hb.2.2.1 hb.2.2.2.1 hb.2.2.2.2 e
 self:=λ_ _ _ _ _ st h=>QcQ st.zp h
section
variable{X:Cx}
theorem apart_new(n t1 t2:Nat)(h1:t1<n)(h2:t2<n):Rz.Apart (n+4) (n+2) (n+3) n (n+1) t1 t2 where
 a1:=by show ¬(n+2=n+4);omega
 a2:=by show ¬(n+3=n+4);omega
 a3:=by show ¬(n=n+4);omega
 a4:=by show ¬(n+1=n+4);omega
 a5:=by show ¬(n+2=n+3);omega
 a6:=by show ¬(n+2=n);omega
 a7:=by show ¬(n+2=n+1);omega
 a8:=by show ¬(n+3=n);omega
 a9:=by show ¬(n+3=n+1);omega
 b1:=by show ¬(n=n+1);omega
 b2:=⟨by show ¬(t1=n+4);omega,by show ¬(t1=n+3);omega,by show ¬(t1=n);omega,by show ¬(t1=n+1);omega⟩
 b3:=⟨by show ¬(t2=n+4);omega,by show ¬(t2=n+3);omega,by show ¬(t2=n);omega,by show ¬(t2=n+1);omega⟩
def QBL(ta:TA):TI:=λσ H R=>ta σ H λvs H1=>∃t1 t2 xs ys,vs=[.ref t1,.ref t2]/\H1 t1=some (.tup xs)/\H1 t2=some (.tup ys)/\R (Itz t1 t2) H1
theorem QnH:bootBuiltins "zip" = some (.type "zip"):=by decide +kernel
theorem QwA{a b:Q1}{elts:List Q1}{x1}{tpos:Pos}{ta:TA}{p pos:Pos}(hg:Gl X "zip")(hm:X.mg "zip" = none)(ha:PA X [a,b] ta)(hs:starEach [a,b] X.env=[(false,eval a X.env),(false,eval b X.env)]:=by rfl)(hs2:starEach [b] X.env=[(false,eval b X.env)]:=by rfl) :
  PI X (.Tuple elts x1 tpos) (.Call (.Name "zip" p) [a,b] [] pos) (QBL ta):=by
 intro pins s σ H R I h;refine Call_ (Qca I hg hm QnH (JV (thn (ha pos pins s σ H _ I h) λus s1 ⟨vs,H1,I1,r1,q1⟩=>?_) (by rw[hs,hs2]) (by rw[hs2];rfl)));obtain⟨t1,t2,xs,ys,e,h1,h2,q⟩:=q1;subst e;obtain⟨u,v,rfl,ru,rv⟩:=vals2 r1;cases(show u=Zm t1 from ru);cases(show v=Zm t2 from rv);obtain⟨its1,w1,p1,_⟩:=I1.tuple (SqT.of h1);obtain⟨its2,w2,p2,_⟩:=I1.tuple (SqT.of h2);have n1:t1<s1.heap.objs.size:=I1.hok.lt h1;have n2:t2<s1.heap.objs.size:=I1.hok.lt h2;refine Rz.Qrj (show s1.heap.IsTuple t1 its1.toArray from p1) (show s1.heap.IsTuple t2 its2.toArray from p2) λh' st kp=>?_
 refine QcQ (s:={ s1 with heap:=h' }) st.zp ?_
 have D:=apart_new s1.heap.objs.size t1 t2 n1 n2;refine⟨s1.heap.objs.size+4,_,_,_,H1,rfl,I1.kept (t':=s1.toks) kp,Qos D,st,λb hb=>?_,q⟩;have hb':s1.heap.objs.size<=b:=by
  simp only[Qy,Jm,or_false] at hb;rcases hb with rfl | rfl | rfl | rfl | rfl<;>omega
 exact I1.fpOk hb' (I1.hok.fresh hb')
end
end L2
namespace Rk
open L2
def QAC:Option HO->Option (List V)
 |some (.tup xs)=>some xs
 |_=>none
def Qd7(H:Hp):V->Option (List V)
 |.ref a=>QAC (H a)
 |_=>none
theorem tupOf_at(H:Hp)(a:Addr):Qd7 H (.ref a)=QAC (H a):=rfl
def isT(H:Hp)(x:V):Bool:=(Qd7 H x).isSome
def isI:V->Bool
 |.int _=>true
 |_=>false
def Kn(p:Addr)(H:Hp):V->Prop
 |.non=>True
 |.bl _=>True
 |.int _=>True
 |.str _=>True
 |.ref a=>a≠p/\((∃xs,H a=some (.tup xs))∨(∃xs,H a=some (.lst xs))∨∃kvs,H a=some (.dK kvs))
 |_=>False
def KnD(p:Addr):Nat->Hp->V->Prop
 |0,H,x=>Kn p H x
 |n+1,H,x=>Kn p H x/\∀xs,Qd7 H x=some xs->∀y∈xs,KnD p n H y
def KX(p:Addr)(H H':Hp):Prop:=∀b o,b≠p->H b=some o->H' b=some o
theorem KX.of{p:Addr}{H H':Hp}(h:Same H H'):KX p H H':=λb o _ e=>h b o e
theorem KX.new{p q:Addr}{H:Hp}{o:HO}(h:H q=none):KX p H (L2.upd H q o):=KX.of (JW h)
theorem Qvv{p:Addr}{H H':Hp}(k:KX p H H'):∀{x:V},Kn p H x->Qd7 H' x=Qd7 H x
 |.non,h=>rfl
 |.bl _,h=>rfl
 |.int _,h=>rfl
 |.str _,h=>rfl
 |.ref a,⟨n,h⟩=>by
  rcases h with⟨xs,e⟩ | ⟨xs,e⟩ | ⟨xs,e⟩<;>rw[tupOf_at,tupOf_at,e,k a _ n e]
 |.byt _,h=>h.elim
 |.flt _,h=>h.elim
 |.ty _,h=>h.elim
theorem KnD.low{p:Addr}{H:Hp}:∀{n:Nat}{x:V},KnD p (n+1) H x->KnD p n H x
 |0,x,h=>h.1
 |n+1,x,h=>⟨h.1,λxs e y hy=>KnD.low (h.2 xs e y hy)⟩
theorem KnD.tup{p:Addr}{H:Hp}{n:Nat}{a:Addr}{xs:List V}(hp:a≠p)(e:H a=some (.tup xs))(h:∀y∈xs,KnD p n H y):KnD p (n+1) H (.ref a):=
 ⟨⟨hp,.inl ⟨xs,e⟩⟩,λys z y hy=>h y (by
  have z':some xs=some ys:=by rw[<- z,tupOf_at,e];rfl
  cases z';exact hy)⟩
theorem KnD.int{p:Addr}{H:Hp}(i:Int):∀(n:Nat),KnD p n H (.int i)
 |0=>trivial
 |n+1=>⟨trivial,λ_ e=>nomatch e⟩
theorem QgU{H:Hp}{a:Addr}{xs:List V}(e:H a=some (.tup xs)):Qd7 H (.ref a)=some xs:=by rw[tupOf_at,e];rfl
def Qr8(H:Hp)(x:V):List Int:=((Qd7 H x).getD []).map λy=>match y with
 |.int i=>i
 |_=>0
def IntsT(H:Hp)(x:V)(ns:List Int):Prop:=∃a,x=.ref a/\H a=some (.tup (ns.map V.int))
theorem IntsT.eq{H:Hp}{x:V}{ns:List Int}(h:IntsT H x ns):Qr8 H x=ns:=by
 obtain⟨a,rfl,e⟩:=h;unfold Qr8;rw[QgU e];show(ns.map V.int).map _=ns;rw[QN];exact Qdo _
theorem Qgu:bootBuiltins "isinstance" = some (.builtin "isinstance"):=by decide +kernel
theorem QxW:bootBuiltins "int" = some (.type "int"):=by decide +kernel
theorem Qva:bootBuiltins "bool" = some (.type "bool"):=by decide +kernel
theorem Qag:bootBuiltins "tuple" = some (.type "tuple"):=by decide +kernel
theorem Qgt:bootBuiltins "list" = some (.type "list"):=by decide +kernel
theorem Qso:bootBuiltins "all" = some (.builtin "all"):=by decide +kernel
theorem Yg:bootBuiltins "len" = some (.builtin "len"):=by decide +kernel
theorem QnE:bootBuiltins "max" = some (.builtin "max"):=by decide +kernel
theorem Qsn:bootBuiltins "min" = some (.builtin "min"):=by decide +kernel
end Rk
namespace L2
theorem Qes{J:It}{body:V->Hp->(Hp->Prop)->Prop}{Qn:Hp->Prop}{H:Hp}(n:Nat)(Pv:Nat->Hp->Prop)(h0:Pv 0 H)
  (hs:∀i H2,i<n->Pv i H2->J.go i H2/\∀x H3,J.yld i H2 x H3->∀k:Hp->Prop,(∀H6,Pv (i+1) H6->k H6)->body x H3 k)(hd:∀H2,Pv n H2->J.stop n H2/\Qn H2):Qia J body Qn H:=by
 refine⟨λi m H=>m=n - i/\i<=n/\Pv i H,⟨n,by simp,Jc _,h0⟩,?_⟩;rintro i m H2 ⟨rfl,hi,p⟩;by_cases hlt:i<n
 ·obtain⟨go,st⟩:=hs i H2 hlt p;exact .inr ⟨go,λx H3 y=>st x H3 y _ λH6 p6=>⟨n - (i+1),by omega,rfl,hlt,p6⟩⟩
 ·have e:i=n:=by omega
  subst e;exact .inl (hd H2 p)
end L2
namespace Rk
open L2
def QcE(K:PySem.W.Frag):Sp:=λvs H Q _=>∃a ns k,vs=[.ref a,.int k]/\SqL K H a ((ns:List Int).map V.int)/\ns.length<2^20/\0<=k/\∀c,Q (.int c) H
def Qv7:Sp:=λvs H Q _=>∃c,vs=[.int c]/\∀p n,H p=none->Q (.ref p) (upd H p (.lst [.int n]))
def Cs(p:Addr)(H:Hp):List V->List (Int×Int)->Prop:=Qa9 λx ij=>∃d,d≠p/\x=.ref d/\H d=some (.tup [.int ij.1,.int ij.2])
theorem Cs.mem{p:Addr}{H:Hp}:∀{ps:List V}{L:List (Int×Int)},Cs p H ps L->∀x∈ps,∃ij∈L,∃d,d≠p/\x=.ref d/\H d=some (.tup [.int ij.1,.int ij.2])
 |_,_,.nil,x,h=>nomatch h
 |_,_,.cons r t,x,h=>by
  rcases Qy.mp h with e | e
  ·subst e;exact⟨_,ZD,r⟩
  ·obtain⟨ij,m,q⟩:=Cs.mem t x e;exact⟨ij,JS _ m,q⟩
def Qyc(a b:Int×Int):Prop:=a.1<b.1∨(a.1=b.1/\a.2<b.2)
structure Good (h w:Int) (L:List (Int×Int)):Prop where
 asc:L.Pairwise Qyc
 ins:∀x∈L,0<=x.1/\x.1<h/\0<=x.2/\x.2<w
 len:L.length<=36
structure QAB (p:Addr) (H:Hp) (q:Addr) (h w:Int) (L:List (Int×Int)):Prop where
 ne:q≠p
 it:∃c ps,c≠p/\H q=some (.tup [.int h,.int w,.ref c])/\H c=some (.tup ps)/\Cs p H ps L
 h1:1<=h
 h6:h<=6
 w1:1<=w
 w6:w<=6
 good:Good h w L
theorem QjF(x:Int){m:Int}(h:0<m):0<=x % m/\x % m<m:=⟨Int.emod_nonneg _ (by omega),Int.emod_lt_of_pos _ h⟩
def notStar:Q1->Bool
 |.Starred _ _=>false
 |_=>true
theorem Z8{e:Q1}{es:List Q1}{env:Env}(h:notStar e=true):starEach (e::es) env=(false,eval e env)::starEach es env:=by
 cases e<;>first | rfl | cases h
section
variable{X:Cx}
theorem Qel{e:Q1}{es:List Q1}{te:TE}{t:TA}(ha:PE X e te)(hr:PA X es t)(hs:notStar e=true:=by rfl):PA X (e::es) (QgV te t):=QbI ha hr (Z8 hs)
inductive PEs (X:Cx):List Q1->List TE->Prop
 |nil:PEs X [] []
 |cons {e es te ts}:PE X e te->notStar e=true->PEs X es ts->PEs X (e::es) (te::ts)
def QAG:List TE->TA
 |[]=>Qv2
 |t::ts=>QgV t (QAG ts)
theorem PEs.pa{es:List Q1}{ts:List TE}(h:PEs X es ts):PA X es (QAG ts):=by
 induction h with
 |nil=>exact Yv
 |cons a s _ ih=>exact Qel a ih s
end
def Sm(H:Hp)(x:V):Prop:=∀ps,Qd7 H x=some ps->ps.length<sizeLine
def Part(p:Addr)(H:Hp)(x:V):Prop:=KnD p 2 H x/\Sm H x
def Qx9(p:Addr)(H:Hp)(x:V):Prop:=KnD p 3 H x/\Sm H x/\∀xs,Qd7 H x=some xs->∀y∈xs,Sm H y
theorem QvS{H:Hp}{a:Addr}{xs ys:List V}(e:H a=some (.tup xs))(z:Qd7 H (.ref a)=some ys):ys=xs:=by
 rw[QgU e] at z;cases z;rfl
theorem Part.tup{p:Addr}{H:Hp}{a:Addr}{xs:List V}(hp:a≠p)(e:H a=some (.tup xs))(hl:xs.length<sizeLine)(h:∀y∈xs,KnD p 1 H y):Part p H (.ref a):=
 ⟨KnD.tup hp e h,λps z=>by rw[QvS e z];exact hl⟩
theorem QA0{P:V->Prop}:∀y∈([]:List V),P y:=λ_ h=>nomatch h
theorem QAf{P:V->Prop}{a:V}{l:List V}(h:P a)(k:∀y∈l,P y):∀y∈a::l,P y:=λy hy=>by
 rcases Qy.mp hy with e | e
 ·subst e;exact h
 ·exact k y e
theorem Qbf{n:Nat}(h:n<=1000):n<sizeLine:=Qd3 h (by decide)
def Fine(p:Addr):Nat->Hp->V->Prop
 |0,H,x=>Kn p H x/\Sm H x
 |n+1,H,x=>Kn p H x/\Sm H x/\∀xs,Qd7 H x=some xs->∀y∈xs,Fine p n H y
theorem Fine.sm{p:Addr}{H:Hp}{x:V}:∀{n:Nat},Fine p n H x->Sm H x
 |0,h=>h.2
 |_+1,h=>h.2.1
theorem Fine.knd{p:Addr}{H:Hp}:∀{n:Nat}{x:V},Fine p n H x->KnD p n H x
 |0,_,h=>h.1
 |_+1,_,h=>⟨h.1,λxs e y hy=>(h.2.2 xs e y hy).knd⟩
theorem Fine.thing{p:Addr}{H:Hp}{x:V}(h:∀n,Fine p n H x):Qx9 p H x:=⟨(h 3).knd,(h 0).2,λxs e y hy=>((h 1).2.2 xs e y hy).2⟩
section
variable{X:Cx}
end
def Qze(t:TA):TE:=λσ H Q=>t σ H λxs H1=>xs.length<=1000/\∀a H2,Same H1 H2->H1 a=none->H2 a=some (.tup xs)->Q (.ref a) H2
def Qzj(t:TA):TE:=λσ H Q=>t σ H λxs H1=>xs.length<=1000/\∀a H2,Same H1 H2->H1 a=none->H2 a=some (.lst xs)->Q (.ref a) H2
section
variable{X:Cx}
theorem Qmg{es:List Q1}{t:TA}{x1}{pos:Pos}(h:PA X es t):PE X (.Tuple es x1 pos) (Qze t):=by
 intro pins s σ H Q I hq;refine wpAny_Tuple_spliced (thn (h pos pins s σ H _ I hq) λus s1 ⟨xs,H1,I1,r,z,q⟩=>⟨by rw[<- r.length];exact ZQ (Qbf z),?_⟩);have hf:H1 s1.heap.objs.size=none:=I1.hok.fresh (Qh _);refine⟨.ref s1.heap.objs.size,upd H1 s1.heap.objs.size (.tup xs),I1.laid (t':=s1.toks) (λb u e=>Qf _ e) (Qh _) ?_,rfl,q _ _ (JW hf) hf Jz⟩;exact⟨ZQ (Qbf z),us,r,⟨_,Qq _ rfl,rfl,rfl,_,rfl⟩⟩
theorem Qtv{es:List Q1}{t:TA}{pos:Pos}(h:PA X es t):PE X (.List es pos) (Qzj t):=by
 intro pins s σ H Q I hq;refine Qyd (thn (h pos pins s σ H _ I hq) λus s1 ⟨xs,H1,I1,r,z,q⟩=>⟨by rw[<- r.length];exact ZQ (Qbf z),?_⟩);have hf:H1 s1.heap.objs.size=none:=I1.hok.fresh (Qh _);refine⟨.ref s1.heap.objs.size,upd H1 s1.heap.objs.size (.lst xs),I1.laid (t':=s1.toks) (λb u e=>Qf _ e) (Qh _) ?_,rfl,q _ _ (JW hf) hf Jz⟩;exact⟨ZQ (Qbf z),us,0,r,Qq _ rfl⟩
end
def FineA(p:Addr)(H:Hp)(x:V):Prop:=∀n,Fine p n H x
theorem FineA.thing{p:Addr}{H:Hp}{x:V}(h:FineA p H x):Qx9 p H x:=Fine.thing h
end Rk
namespace Rx
open PySem.Calls L2 PySem.W Builtin Builtin.ObjectAttr Builtin.Getset_descriptor
def ExAt(a C:Addr)(h:Heap):Prop:=∃o vs,h.get? a=some o/\o.cls=.ref C/\o.data=.fields vs
theorem ExAt.ty{M:Model}{h:Heap}{a C:Addr}(x:ExAt a C h):Looks M h (typeOf (.ref a)) (.ref C):=by
 obtain⟨o,vs,e,c,_⟩:=x;exact c ▸ (Looks.ld e).andThen .now
section
variable{prog:QC}{w:Jf}{A:Ja}{E:Value->Shared->Prop}{s:Shared}{K:PySem.W.Frag}{a C:Addr}
end
end Rx
namespace Rx
open PySem.Calls L2
section
variable{X:Cx}{E:XK}{C:Addr}{x:Str}{e0:Q1}{te:TE}{np cpos pos:Pos}
end
section
variable{X:Cx}{pins:List (Addr×Obj)}{σ:L2.St}{H:Hp}{s:Shared}
end
def XP(X:Cx)(pins:List (Addr×Obj))(Ex:L2.St->Addr->Hp->Prop)(e:Value)(s1:Shared):Prop:=
 ∃(σ:L2.St)(C:Addr)(H':Hp)(a t:Addr)(B:Heap),e=.ref a/\Heap.FlyingW B X.stack a (.ref C) (.ref t) s1.heap/\H' a=none/\X.s₀.heap.get? a=none/\(∀p∈X.pn++pins,p.1≠a) /\
  (∀(h2:Heap)(tk:Nat),B.StaysIn h2->s1.heap.UpToSlots h2->Inv X pins σ H' { s1 with heap:=h2,toks:=tk })/\Ex σ C H'
section
variable{X:Cx}{k:Nat}{f:Addr}{fd:QL}{ps:List Str}{sp:Sp}{x:Str}{p pos:Pos}{e:Q1}{es:List Q1}{t:TA}
end
section
variable{X:Cx}{R:Addr}{i:Nat}{n r:Str}{call hx:Q1}{tc:TX}{th:TE}{rp np hp hpos pos:Pos}
end
section
variable{P:QC}{w:Jf}{K:PySem.W.Frag}{mg:Str->Option Value}{base:Heap}
end
section
variable{X:Cx}{k:Nat}{f:Addr}{fd:QL}{ps:List Str}{sp:Sp}{x:Str}{p pos:Pos}{e:Q1}{es:List Q1}{t:TA}
end
section
variable{X:Cx}
theorem bools_eq{bs:List Bool}{us:List Value}(r:Vals (bs.map V.bl) us):us=bs.map Qbp:=by
 induction bs generalizing us with
 |nil=>cases r;rfl
 |cons b bs ih=>
  cases r with
  |cons r t=>
   cases(show _=Qbp b from r);rw[ih t];rfl
end
end Rx
namespace Rd
open L2
mutual
inductive Dat (H:Hp):V->PyData->Prop
 |non:Dat H .non .none
 |bl (b:Bool):Dat H (.bl b) (.bool b)
 |int (i:Int):Dat H (.int i) (.int i)
 |str (x:Str):QgC (.str x)=true->Dat H (.str x) (.str x)
 |tup {a:Addr} {xs:List V} {ds:List PyData}:H a=some (.tup xs)->Dats H xs ds->Dat H (.ref a) (.tuple ds)
 |lst {a:Addr} {xs:List V} {ds:List PyData}:H a=some (.lst xs)->Dats H xs ds->Dat H (.ref a) (.list ds)
inductive Dats (H:Hp):List V->List PyData->Prop
 |nil:Dats H [] []
 |cons {x:V} {xs:List V} {d:PyData} {ds:List PyData}:Dat H x d->Dats H xs ds->Dats H (x::xs) (d::ds)
end
mutual
theorem Ym{P:QC}{w:Jf}{H:Hp}{h:Heap}(ok:HOk P w H h):∀(d:PyData)(x:V)(v:Value),Dat H x d->RelV x v->(∃as,Qk4 h v d as)/\d.canLay0=true
 |.none,_,v,.non,r=>by cases r;exact⟨⟨_,.none⟩,rfl⟩
 |.bool b,_,v,.bl _,r=>by cases r;exact⟨⟨_,.bool b⟩,rfl⟩
 |.int i,_,v,.int _,r=>by obtain⟨t,rfl⟩:=r;exact⟨⟨_,.int i t⟩,rfl⟩
 |.str z,_,v,.str _ c,r=>by obtain⟨t,rfl⟩:=r;exact⟨⟨_,.str z t⟩,c⟩
 |.tuple ds,_,v,.tup (a:=a) (xs:=xs) e q,r=>by
  cases r;obtain⟨_,its,rv,o,ho,hc,_,n,hd⟩:=ok a _ e;obtain⟨⟨as,ra⟩,cl⟩:=Y9 ok ds xs its q rv;exact⟨⟨as,.tuple ho hc hd ra⟩,cl⟩
 |.list ds,_,v,.lst (a:=a) (xs:=xs) e q,r=>by
  cases r;obtain⟨_,its,n,rv,ho⟩:=ok a _ e;obtain⟨⟨as,ra⟩,cl⟩:=Y9 ok ds xs its q rv;exact⟨⟨a::as,.list ho rfl rfl ra⟩,cl⟩
 |.dict _,_,_,q,_=>nomatch q
theorem Y9{P:QC}{w:Jf}{H:Hp}{h:Heap}(ok:HOk P w H h):∀(ds:List PyData)(xs:List V)(vs:List Value),Dats H xs ds->Vals xs vs->(∃as,QdJ h vs ds as)/\J8 ds=true
 |[],_,vs,.nil,r=>by cases r;exact⟨⟨_,.nil⟩,rfl⟩
 |d::ds,_,vs,.cons (x:=x) (xs:=xs) q qs,r=>by
  cases r with
  |cons r rs=>
   obtain⟨⟨a1,r1⟩,c1⟩:=Ym ok d x _ q r;obtain⟨⟨a2,r2⟩,c2⟩:=Y9 ok ds xs _ qs rs;exact⟨⟨_,.cons r1 r2⟩,by simp[J8,c1,c2]⟩
end
mutual
theorem QjI{H H':Hp}(s:Same H H'):∀(d:PyData)(x:V),Dat H x d->Dat H' x d
 |.none,_,.non=>.non
 |.bool _,_,.bl _=>.bl _
 |.int _,_,.int _=>.int _
 |.str _,_,.str _ c=>.str _ c
 |.tuple ds,_,.tup (xs:=xs) e q=>.tup (s _ _ e) (QeF s ds xs q)
 |.list ds,_,.lst (xs:=xs) e q=>.lst (s _ _ e) (QeF s ds xs q)
 |.dict _,_,q=>nomatch q
theorem QeF{H H':Hp}(s:Same H H'):∀(ds:List PyData)(xs:List V),Dats H xs ds->Dats H' xs ds
 |[],_,.nil=>.nil
 |d::ds,_,.cons (x:=x) (xs:=xs) q qs=>.cons (QjI s d x q) (QeF s ds xs qs)
end
theorem Dat.same{H H':Hp}{x:V}{d:PyData}(q:Dat H x d)(s:Same H H'):Dat H' x d:=QjI s d x q
theorem Dats.length{H:Hp}:∀{xs:List V}{ds:List PyData},Dats H xs ds->xs.length=ds.length
 |_,_,.nil=>rfl
 |_,_,.cons _ q=>by rw[QF,QF,q.length]
section
variable{X:Cx}
def QBz(X:Cx):R2:=λx y H Q=>∃dx dy,Dat H x dx/\Dat H y dy/\X.A.units+min dx.depth dy.depth<cLine/\Q (.bl (Q9 dx dy)) H
theorem Qw7:OpR X (compareOp .Eq) (QBz X):=by
 intro pins s σ H x y v u Q I rx ry h;obtain⟨dx,dy,qx,qy,hu,q⟩:=h;obtain⟨⟨as,ra⟩,ca⟩:=Ym I.hok dx x v qx rx;obtain⟨⟨bs,rb⟩,cb⟩:=Ym I.hok dy y u qy ry;exact SeqAt.compareEq_reads ra rb ca cb hu ⟨.bl _,H,I,rfl,q⟩
open Classical in
noncomputable def eqH (h:Heap) (d:PyData) (y:Value):Bool:=decide (∃e as,Qk4 h y e as/\e.canLay0=true/\Q9 e d=true)
open Classical in
theorem QAg{h:Heap}{d:PyData}{y:Value}(q:∃e as,Qk4 h y e as/\e.canLay0=true/\Q9 e d=true):eqH h d y=true:=by
 unfold eqH;exact decide_eq_true q
open Classical in
theorem QAh{h:Heap}{d:PyData}{y:Value}(q:¬ ∃e as,Qk4 h y e as/\e.canLay0=true/\Q9 e d=true):eqH h d y=false:=by
 unfold eqH;exact decide_eq_false q
theorem Qsd{h:Heap}{d e:PyData}{y:Value}{as:List Addr}(r:Qk4 h y e as)(c:e.canLay0=true):eqH h d y=Q9 e d:=by
 cases q:Q9 e d with
 |true=>exact QAg ⟨e,as,r,c,q⟩
 |false=>
  refine QAh λ⟨e',as',r',c',q'⟩=>?_
  rw[<- SeqAt.Reads.unique e e' y as as' c r r',q] at q';cases q'
theorem QeK{h:Heap}{d:PyData}:∀{vs:List Value}{ds:List PyData}{as:List Addr},QdJ h vs ds as->J8 ds=true->vs.any (eqH h d)=ds.any λe=>Q9 e d
 |_,_,_,.nil,_=>rfl
 |_,_,_,.cons r rs,c=>by
  simp only[J8,JH] at c;rw[QdM,QdM,Qsd r c.1,QeK rs c.2]
theorem Qeq{A:Ja}{s:Shared}{d:PyData}{v:Value}{bs:List Addr}(rv:Qk4 s.heap v d bs)(cv:d.canLay0=true):∀{vs:List Value}{ds:List PyData}{as:List Addr},QdJ s.heap vs ds as->J8 ds=true->A.units+d.depth<cLine ->
  ∀u∈vs,Qof A s u v (eqH s.heap d u)
 |_,_,_,.nil,_,_=>λu hu=>nomatch hu
 |_,_,_,.cons (d:=e) r rs,c,hu=>λu hm=>by
  simp only[J8,JH] at c;rcases Qy.mp hm with z | z
  ·subst z;rw[Qsd r c.1];exact Qrs e d A s _ v _ bs r rv c.1 cv (Qd3 (Nat.add_le_add_left (QfB _ _) _) hu)
  ·exact Qeq rv cv rs c.2 hu u z
def QAR(X:Cx)(neg:Bool):R2:=λx y H Q=>∃c ps ds d,y=.ref c/\H c=some (.tup ps)/\Dats H ps ds/\Dat H x d/\X.A.in1.units+d.depth<cLine/\Q (.bl (if neg then !(ds.any λe=>Q9 e d) else ds.any λe=>Q9 e d)) H
theorem Qw4:OpR X (compareOp .In) (QAR X false):=by
 intro pins s σ H x y v u Q I rx ry h;obtain⟨c,ps,ds,d,rfl,hc,qs,qx,hu,q⟩:=h;cases ry;obtain⟨⟨as,ra⟩,ca⟩:=Ym I.hok d x v qx rx;obtain⟨_,its,rv,tp⟩:=I.hok c _ hc;have tp:=TupN.tup tp;obtain⟨⟨bs,rb⟩,cb⟩:=Y9 I.hok ds ps its qs rv;refine SeqAt.in_tupleAt (eqH s.heap d) tp (λw hw=>Qeq ra ca rb cb hu w (Qb5.mp hw)) ⟨.bl _,H,I,rfl,?_⟩;rw[show its.toArray.any (eqH s.heap d)=its.any (eqH s.heap d) by simp,QeK rb cb];exact q
theorem Qmt:OpR X (compareOp .NotIn) (QAR X true):=by
 intro pins s σ H x y v u Q I rx ry h;obtain⟨c,ps,ds,d,rfl,hc,qs,qx,hu,q⟩:=h;cases ry;obtain⟨⟨as,ra⟩,ca⟩:=Ym I.hok d x v qx rx;obtain⟨_,its,rv,tp⟩:=I.hok c _ hc;have tp:=TupN.tup tp;obtain⟨⟨bs,rb⟩,cb⟩:=Y9 I.hok ds ps its qs rv;refine Qk3 (eqH s.heap d) tp (λw hw=>Qeq ra ca rb cb hu w (Qb5.mp hw)) ⟨.bl _,H,I,rfl,?_⟩;rw[show its.toArray.any (eqH s.heap d)=its.any (eqH s.heap d) by simp,QeK rb cb];exact q
end
section
variable{X:Cx}
end
end Rd
namespace L2
def Ite(l:Addr):It:=
 ⟨λi H=>∃xs x,H l=some (.lst xs)/\xs[i]? = some x,
  λi H v H'=>∃p x,H p=none/\(∀xs,H l=some (.lst xs)->xs[i]? = some x)/\v=.ref p/\H'=upd H p (.tup [.int (i:Nat),x]),
  λi H=>∃xs,H l=some (.lst xs)/\xs.length<=i⟩
theorem Qlo{P:QC}{w:Jf}{K:PySem.W.Frag}{elts:List Q1}{x1}{tpos:Pos}{e it l:Addr}(hne:e≠it) :
  Turn P w K (.Tuple elts x1 tpos) (Ite l) [e,it] e (λi h=>(∃old,IsEnum h e it (i:Nat) old)/\h.IsListIter it l i) where
 mem:=by simp
 obj:=λi h st b hb=>by
  obtain⟨⟨old,a1⟩,⟨o2,a2,_,d2⟩⟩:=st;simp only[Qy,Jm,or_false] at hb;rcases hb with rfl | rfl
  ·exact⟨_,a1,λv q=>nomatch q⟩
  ·exact⟨_,a2,λv q=>by rw[d2] at q;cases q⟩
 keep:=λi h h' st k=>by
  obtain⟨⟨old,a1⟩,⟨o2,a2,c2⟩⟩:=st;exact⟨⟨old,k e (by simp) _ a1⟩,o2,k it (by simp) _ a2,c2⟩
 item:=by
  intro X hP hw hK hc i pins s σ H E I hf st hg;subst hP hw hK;obtain⟨xs,x,h1,hx⟩:=hg;obtain⟨⟨old,a1⟩,a2⟩:=st;obtain⟨its,r1,p1,_⟩:=I.list (SqL.of h1);obtain⟨u,hu,ru⟩:=r1.get hx;refine wpAny_pyNext_enum_item a1 a2 p1.isList (x:=u) (by simpa using hu) hne λh' o' l' tp sz kp=>?_
  have fr:H s.heap.objs.size=none:=I.hok.fresh (Qh _);have n1:e≠s.heap.objs.size:=QD (Qj a1);have n2:it≠s.heap.objs.size:=by
   obtain⟨o2,a2,_⟩:=a2;exact QD (Qj a2)
  refine⟨_,rfl,wpAny_letOwnedTupleGo_enum o' λh2 e2 s2=>?_⟩;have I1:Inv X pins σ (upd H s.heap.objs.size (.tup [.int (i:Nat),x])) { s with heap:=h2,toks:=s.toks+1 }:=by
   refine I.turnedNew (ch:=[e,it]) hf (λb v hb q=>?_) (Qh _) ⟨by show 2<=sizeLine;decide,[.int (i:Nat) s.toks,u],.cons ⟨_,rfl⟩ (.cons ru .nil),?_⟩
   ·simp only[Qy,Jm,or_false,not_or] at hb;exact s2.extBut _ _ hb.1 (kp b v hb.1 hb.2 q)
   ·exact⟨_,s2.extBut _ _ n1.symm tp,rfl,rfl,0,rfl⟩
  refine⟨.ref s.heap.objs.size,_,I1,rfl,⟨_,x,fr,λxs' q=>?_,rfl,rfl⟩,⟨⟨u,e2⟩,?_⟩,λb hb=>?_⟩
  ·rw[h1] at q;cases q;exact hx
  ·exact l'.extBut s2.extBut hne.symm
  ·simp only[Qy,Jm,or_false] at hb;rcases hb with rfl | rfl
   ·rw[JX n1];exact(hf _ (by simp)).1
   ·rw[JX n2];exact(hf _ (by simp)).1
 done:=by
  intro X hP hw hK hc i pins s σ H E I hf st hg;subst hP hw hK;obtain⟨xs,h1,he⟩:=hg;obtain⟨⟨old,a1⟩,a2⟩:=st;obtain⟨its,r1,p1,_⟩:=I.list (SqL.of h1);have l1:=r1.length;refine wpAny_pyNext_enum_end (I.ok.hd hc) a1 a2 p1.isList (by simp;omega) λh' kp=>⟨rfl,I.turnedAll (t':=s.toks) (ch:=[e,it]) hf λb v hb q=>?_⟩
  simp only[Qy,Jm,or_false,not_or] at hb;exact kp b v hb.2 q
 self:=λ_ _ _ _ _ st h=>by
  obtain⟨⟨old,a1⟩,_⟩:=st;exact QyG a1 h
def Qz6(ta:TA):TI:=λσ H R=>ta σ H λvs H1=>∃l xs,vs=[.ref l]/\H1 l=some (.lst xs)/\R (Ite l) H1
theorem QnI:bootBuiltins "enumerate" = some (.type "enumerate"):=by decide +kernel
section
variable{X:Cx}
theorem Qts{a:Q1}{elts:List Q1}{x1}{tpos:Pos}{ta:TA}{p pos:Pos}(hg:Gl X "enumerate")(hm:X.mg "enumerate" = none)(ha:PA X [a] ta)(hs:starEach [a] X.env=[(false,eval a X.env)]:=by rfl) :
  PI X (.Tuple elts x1 tpos) (.Call (.Name "enumerate" p) [a] [] pos) (Qz6 ta):=by
 intro pins s σ H R I h;refine Call_ (Qca I hg hm QnI (JV (thn (ha pos pins s σ H _ I h) λus s1 ⟨vs,H1,I1,r1,q1⟩=>?_) hs rfl));obtain⟨l,xs,e,h1,q⟩:=q1;subst e;obtain⟨u,rfl,ru⟩:=vals1 r1;cases(show u=Zm l from ru);obtain⟨its,w1,p1,_⟩:=I1.list (SqL.of h1);refine call_enumerate_list p1.isList λh' e1 i1 sz kp=>?_
 refine QyG (s:={ s1 with heap:=h' }) e1 ?_
 refine⟨s1.heap.objs.size+1,_,_,_,H1,rfl,I1.kept (t':=s1.toks) kp,Qlo (by show ¬(s1.heap.objs.size+1=s1.heap.objs.size);omega),⟨⟨_,e1⟩,i1⟩,λb hb=>?_,q⟩;have hb':s1.heap.objs.size<=b:=by
  simp only[Qy,Jm,or_false] at hb;rcases hb with rfl | rfl<;>omega
 exact I1.fpOk hb' (I1.hok.fresh hb')
end
section
variable{prog:QC}{w:Jf}{A:Ja}{R:QjX->Shared->Prop}{s:Shared}
theorem Qg0{elt tg iter:Q1}{ifs:List Q1}{g0:QcA}{scope:YV}{pos:Pos}{it acc:Value}{env:Env}
  (h0:codeAny (model prog w) A (.compLoop (.ListComp elt [g0,⟨tg,iter,ifs,0⟩] scope pos) 1 it acc env) R s)
  (h:wpAny (model prog w) A (pyIter it) (λit' s'=>codeAny (model prog w) A (.compLoop (.ListComp elt [g0,⟨tg,iter,ifs,0⟩] scope pos) 1 it' acc env) R s') (notedBy (model prog w) A env λx s'=>R (.error x) s') s) :
  codeAny (model prog w) A (.compStart (.ListComp elt [g0,⟨tg,iter,ifs,0⟩] scope pos) 1 it acc env) R s:=by
 refine QjW ?_
 show wpAny _ _ ((compStart (.ListComp elt [g0,⟨tg,iter,ifs,0⟩] scope pos) 1 it acc env).onRaise (λx=>do noteFrame x env;standAt theWindowsPlace)) _ _ s;refine wpAny_notedAt ?_
 unfold compStart;show wpAny _ _ (ask >>= _) _ _ s;refine wpAny_bind (Z6 (wpAny_ite ?_));split
 ·first
   |exact wpAny_bind (wpAny_pure (wpAny_pure ⟨rfl,h0⟩))
   |exact wpAny_pure ⟨rfl,h0⟩
 ·first
   |exact wpAny_bind (wpAny_rule (wpAny_bind (wpAny_standAt (wpAny_bind (wpAny_mono h (λit' s' h'=>wpAny_pure ⟨rfl,h'⟩) λ_ _ x=>x)))))
   |exact wpAny_bind (wpAny_rule (wpAny_bind (wpAny_standAt (wpAny_bind (wpAny_mono h (λit' s' h'=>wpAny_pure (wpAny_pure ⟨rfl,h'⟩)) λ_ _ x=>x)))))
end
theorem Qlm{Y:Cx}{elt tg iter:Q1}{ifs:List Q1}{g0:QcA}{scope:YV}{cpos:Pos}{it D:Addr}(Q:PySem.Fin->Shared->Prop)(E:Value->Shared->Prop)(s:Shared)
  (h:wpAny (model Y.prog Y.w) Y.A (pyNext (.ref it)) (λr s1=>match r with
   |none=>Q (.done .next) s1
   |some v=>wpAny (model Y.prog Y.w) Y.A (letOwnedTupleGo tg (.ref it) v) (λ_ s2=>QnR Y tg ifs (QnU Y elt D) v (λs3=>Q (.again (.compLoop (.ListComp elt [g0,⟨tg,iter,ifs,0⟩] scope cpos) 1 (.ref it) (.ref D) Y.env)) s3) s2) E s1) E s) :
  wpAny (model Y.prog Y.w) Y.A (compTurn (.ListComp elt [g0,⟨tg,iter,ifs,0⟩] scope cpos) 1 (.ref it) (.ref D) Y.env) Q E s:=by
 have e:compTurn (.ListComp elt [g0,⟨tg,iter,ifs,0⟩] scope cpos) 1 (.ref it) (.ref D) Y.env=(do
   standAt iter.pos
   match <- pyNext (.ref it) with
   |none=>pure (.done .next)
   |some v=>
    letOwnedTupleGo tg (.ref it) v
    assign tg Y.env v
    let mut ok:=true
    for c in ifs do
     if ok then ok <- isTrue c Y.env (eval c Y.env)
    if ok then
     (do let _ <- call (.builtin "list.append") [.ref D,<- eval elt Y.env])
    again (.compLoop (.ListComp elt [g0,⟨tg,iter,ifs,0⟩] scope cpos) 1 (.ref it) (.ref D) Y.env)):=by rfl
 rw[e];refine wpAny_bind (wpAny_standAt (wpAny_bind (thn h λr s1 h1=>?_)));cases r with
 |none=>exact wpAny_pure h1
 |some v=>
  refine wpAny_bind (thn h1 λ_ s2 h2=>?_);refine wpAny_bind (wpAny_mono h2 (λ_ s4 h4=>wpAny_bind (wpAny_mono h4 (λok s5 h5=>?_) λ_ _ f=>f.elim)) λ_ _ f=>f.elim);cases ok with
  |false=>exact wpAny_pure h5
  |true=>exact wpAny_bind (wpAny_bind (wpAny_mono h5 (λx s6 h6=>wpAny_bind (wpAny_mono h6 (λ_ s7 h7=>wpAny_pure (wpAny_pure h7)) λ_ _ f=>f.elim)) λ_ _ f=>f.elim))
def QnS(Y:Cx)(e:Q1)(iter:Q1)(D:Addr):Act:=λQ s=>wpAny (model Y.prog Y.w) Y.A (eval iter Y.env) (λx s1=>wpAny (model Y.prog Y.w) Y.A (pyIter x)
 (λitv s2=>codeAny (model Y.prog Y.w) Y.A (.compStart e 1 itv (.ref D) Y.env) (λr s3=>match r with | .ok _=>Q s3 | .error _=>False) s2) (λ_ _=>False) s1) (λ_ _=>False) s
def QxY(wi:TI)(g:TG)(tc:TT)(p:Addr)(te:TE):St->Hp->(Hp->Prop)->Prop:=λσ H k=>wi σ H λJ H1=>Qia J (bOf σ g tc (Qx0 p te)) k H1
theorem QnJ{Y:Cx}{σ:St}{elt tg iter:Q1}{ifs:List Q1}{g0:QcA}{scope:YV}{cpos:Pos}{D:Addr}{wi:TI}{g:TG}{tc:TT}{te:TE}(hx:Y.xe=λ_ _=>False)(hc:Y.calm=true)
  (hi:PI Y tg iter wi)(hg:PG Y tg g)(ht:PTs Y ifs tc)(he:PE Y elt te):BodyOk Y σ (QnS Y (.ListComp elt [g0,⟨tg,iter,ifs,0⟩] scope cpos) iter D) (QxY wi g tc D te σ):=by
 intro pins s H k Q I h hQ;have hx':∀(v:Value)(s':Shared),Y.xe v s'->False:=λv s' z=>by rw[hx] at z;exact z
 refine wpAny_mono (hi pins s σ H _ I h) (λv s1 h1=>wpAny_mono h1 (λitv s2 h2=>?_) hx') hx';obtain⟨it,fp,tn,J,H2,e,I2,T,st2,f2,hW⟩:=h2;subst e;have loop:codeAny (model Y.prog Y.w) Y.A (.compLoop (.ListComp elt [g0,⟨tg,iter,ifs,0⟩] scope cpos) 1 (.ref it) (.ref D) Y.env) (λr s3=>match r with | .ok _=>Q s3 | .error _=>False) s2:=
  QcL (Y:=Y) (gens:=[g0,⟨tg,iter,ifs,0⟩]) (d:=1) hc T st2 f2 (λQ E s h=>Qlm Q E s h) (λx u r=>QeI hx hg ht (λσ4=>Qgv hx he) x u r) I2 hW λs' H' I' q=>hQ s' H' I' q
 exact Qg0 loop (T.self _ 0 _ _ _ st2 loop)
theorem Qj8{Y:Cx}{elt tg iter tg2 iter2:Q1}{ifs ifs2:List Q1}{scope:YV}{cpos:Pos}{it D:Addr}(hs:∀x,foldedSetIterable iter2 Y.env x=pure x)(Q:PySem.Fin->Shared->Prop)(E:Value->Shared->Prop)(s:Shared)
  (h:wpAny (model Y.prog Y.w) Y.A (pyNext (.ref it)) (λr s1=>match r with
   |none=>Q (.done .next) s1
   |some v=>wpAny (model Y.prog Y.w) Y.A (letOwnedTupleGo tg (.ref it) v) (λ_ s2=>QnR Y tg ifs (QnS Y (.ListComp elt [⟨tg,iter,ifs,0⟩,⟨tg2,iter2,ifs2,0⟩] scope cpos) iter2 D) v (λs3=>Q (.again (.compLoop (.ListComp elt [⟨tg,iter,ifs,0⟩,⟨tg2,iter2,ifs2,0⟩] scope cpos) 0 (.ref it) (.ref D) Y.env)) s3) s2) E s1) E s) :
  wpAny (model Y.prog Y.w) Y.A (compTurn (.ListComp elt [⟨tg,iter,ifs,0⟩,⟨tg2,iter2,ifs2,0⟩] scope cpos) 0 (.ref it) (.ref D) Y.env) Q E s:=by
 have e:compTurn (.ListComp elt [⟨tg,iter,ifs,0⟩,⟨tg2,iter2,ifs2,0⟩] scope cpos) 0 (.ref it) (.ref D) Y.env=(do
   standAt iter.pos
   match <- pyNext (.ref it) with
   |none=>pure (.done .next)
   |some v=>
    letOwnedTupleGo tg (.ref it) v
    assign tg Y.env v
    let mut ok:=true
    for c in ifs do
     if ok then ok <- isTrue c Y.env (eval c Y.env)
    if ok then
     let x <- eval iter2 Y.env
     standAt iter2.pos
     let x <- foldedSetIterable iter2 Y.env x
     let _ <- runOwn (.compStart (.ListComp elt [⟨tg,iter,ifs,0⟩,⟨tg2,iter2,ifs2,0⟩] scope cpos) 1 (<- holding [x] (pyIter x)) (.ref D) Y.env) Y.env
    again (.compLoop (.ListComp elt [⟨tg,iter,ifs,0⟩,⟨tg2,iter2,ifs2,0⟩] scope cpos) 0 (.ref it) (.ref D) Y.env)):=by rfl
 rw[e];refine wpAny_bind (wpAny_standAt (wpAny_bind (thn h λr s1 h1=>?_)));cases r with
 |none=>exact wpAny_pure h1
 |some v=>
  refine wpAny_bind (thn h1 λ_ s2 h2=>?_);refine wpAny_bind (wpAny_mono h2 (λ_ s4 h4=>wpAny_bind (wpAny_mono h4 (λok s5 h5=>?_) λ_ _ f=>f.elim)) λ_ _ f=>f.elim);cases ok with
  |false=>exact wpAny_pure h5
  |true=>
   refine wpAny_bind (wpAny_mono h5 (λx s6 h6=>wpAny_bind (wpAny_standAt ?_)) λ_ _ f=>f.elim);rw[hs x];refine wpAny_bind (wpAny_pure (wpAny_bind (J1 (wpAny_mono h6 (λitv s7 h7=>?_) λ_ _ f=>f.elim))));refine wpAny_bind (wpAny_runOwn (h:=none) (QdE h7 λr s8 h8=>?_));cases r with
   |error z=>exact h8.elim
   |ok fl=>exact wpAny_pure h8
def QrD(cap:List (Option Nat))(wi:TI)(g:TG)(tc:TT)(wi2:TI)(g2:TG)(tc2:TT)(te:TE):TE:=λσ H Q=>wi σ H λJ H1=>∀p,H1 p=none->Qia J (bOf (QcS cap σ) g tc (QxY wi2 g2 tc2 p te)) (Q (.ref p)) (upd H1 p (.lst []))
end L2
namespace Rk
open L2 Rd
def pairD(ij:Int×Int):PyData:=.tuple [.int ij.1,.int ij.2]
theorem Qb1(b:Int×Int):Ys (pairD b)=1:=by
 unfold pairD;simp[Ys,JN]
end Rk
namespace Rr
section
variable{prog:QC}{w:Jf}{A:Ja}{E:Value->Shared->Prop}{s:Shared}
end
end Rr
namespace L2
def Qv1(ta:TA):TE:=λσ H Q=>ta σ H λvs H1=>∃j,vs=[.int j]/\∀r H2,Same H1 H2->H1 r=none->H2 r=some (.rng 0 j)->Q (.ref r) H2
section
variable{X:Cx}
theorem Qo1{a:Q1}{ta:TA}{p pos:Pos}(hg:Gl X "range")(hm:X.mg "range" = none)(ha:PA X [a] ta)(hs:starEach [a] X.env=[(false,eval a X.env)]:=by rfl):PE X (.Call (.Name "range" p) [a] [] pos) (Qv1 ta):=by
 intro pins s σ H Q I h;refine Qar (Qca I hg hm boot_range ?_);refine JV (thn (ha pos pins s σ H _ I h) λus s1 ⟨vs,H1,I1,r1,q1⟩=>?_) hs rfl;obtain⟨j,e,q⟩:=q1;subst e;obtain⟨u,rfl,ru⟩:=vals1 r1;obtain⟨t,rfl⟩:=ru;refine call_range_1 ?_
 have hf:H1 s1.heap.objs.size=none:=I1.hok.fresh (Qh _);refine⟨.ref s1.heap.objs.size,upd H1 s1.heap.objs.size (.rng 0 j),I1.laid (t':=s1.toks+1+1) (λb u e=>Qf _ e) (Qh _) ⟨_,_,_,Qq _ rfl⟩,rfl,q _ _ (JW hf) hf Jz⟩
end
end L2
namespace Rs
open PySem.W
def sp{α:Type}(n:Nat)(c:Nat->Nat->Bool):KasT α->(α->Prop)->Prop
 |.ret a,Q=>Q a
 |.ask i j f,Q=>i<n/\j<n/\sp n c (f (c i j)) Q
theorem QaB{α:Type}{n:Nat}{c:Nat->Nat->Bool}{Q Q':α->Prop}(h:∀a,Q a->Q' a):∀{t:KasT α},sp n c t Q->sp n c t Q'
 |.ret a,q=>h a q
 |.ask i j f,q=>⟨q.1,q.2.1,QaB h (t:=f (c i j)) q.2.2⟩
theorem Qc0{α β:Type}{n:Nat}{c:Nat->Nat->Bool}{f:α->KasT β}{Q:β->Prop}:∀{t:KasT α},sp n c t (λa=>sp n c (f a) Q)->sp n c (t.bind f) Q
 |.ret a,q=>q
 |.ask i j g,q=>⟨q.1,q.2.1,Qc0 (t:=g (c i j)) q.2.2⟩
theorem Qi3{α:Type}{n:Nat}{c:Nat->Nat->Bool}{cmp:Nat->Nat->(Bool->Shared->Prop)->Shared->Prop}{s:Shared}{Q:α->Shared->Prop}(hc:∀i j (C:Bool->Shared->Prop),i<n->j<n->C (c i j) s->cmp i j C s) :
  ∀{t:KasT α},sp n c t (λa=>Q a s)->t.kasWp cmp Q s
 |.ret a,q=>q
 |.ask i j f,q=>hc i j _ q.1 q.2.1 (Qi3 hc (t:=f (c i j)) q.2.2)
section
variable{n:Nat}{K:Nat->Int}
abbrev cK (K:Nat->Int) (i j:Nat):Bool:=decide (K i<K j)
structure Good (n:Nat) (p:Array Nat):Prop where
 perm:p.toList.Perm (Qp n)
theorem Good.size{p:Array Nat}(g:Good n p):p.size=n:=by
 have:=g.perm.length_eq;rw[QH,Q4] at this;exact this
def at_(p:Array Nat)(i:Nat):Nat:=p.getD i 0
theorem QhJ{p:Array Nat}{i:Nat}(h:i<p.size):p[i]? = some (at_ p i):=by
 unfold at_;rw[Yx,ZZ h];rfl
theorem Qrm{p q:Array Nat}{i j:Nat}(h:p[i]? = q[j]?):at_ p i=at_ q j:=by
 unfold at_;rw[Yx,Yx,h]
theorem Good.lt{p:Array Nat}(g:Good n p)(h0:0<n)(i:Nat):at_ p i<n:=by
 by_cases h:i<p.size
 ·have e:=QhJ h;have m:at_ p i∈p.toList:=by
   have:=Array.mem_of_getElem? e;exact QkY.mpr this
  exact QM.mp (g.perm.mem_iff.mp m)
 ·unfold at_;rw[Yx,ZT (by omega)];exact h0
theorem Good.inj{p:Array Nat}(g:Good n p){i j:Nat}(hi:i<n)(hj:j<n)(e:at_ p i=at_ p j):i=j:=by
 have nd:p.toList.Nodup:=g.perm.nodup_iff.mpr JQ;have hs:=g.size;have hi':i<p.toList.length:=by rw[Q4];omega
 have hj':j<p.toList.length:=by rw[Q4];omega
 have ei:p.toList[i]=at_ p i:=by
  have:=QhJ (p:=p) (i:=i) (by omega);rw[ZZ (by omega)] at this;rw[QaF];exact QK this
 have ej:p.toList[j]=at_ p j:=by
  have:=QhJ (p:=p) (i:=j) (by omega);rw[ZZ (by omega)] at this;rw[QaF];exact QK this
 have pw:=Z3.mp nd;rcases QeT i j with h | h | h
 ·exact absurd (ei.trans (e.trans ej.symm)) (pw i j hi' hj' h)
 ·exact h
 ·exact absurd (ej.trans (e.symm.trans ei.symm)) (pw j i hj' hi' h)
def kk(K:Nat->Int)(p:Array Nat)(i:Nat):Int:=K (at_ p i)
def Adj(K:Nat->Int)(p:Array Nat)(m:Nat):Prop:=∀i,i+1<m->kk K p i<=kk K p (i+1)
def Dsc(K:Nat->Int)(p:Array Nat)(m:Nat):Prop:=∀i,i+1<m->kk K p (i+1)<kk K p i
theorem Adj.le{p:Array Nat}{m:Nat}(h:Adj K p m){i:Nat}:∀{j:Nat},i<=j->j<m->kk K p i<=kk K p j
 |0,hij,_=>by cases Nat.le_zero.mp hij;exact QgP _
 |j+1,hij,hj=>by
  by_cases e:i=j+1
  ·rw[e];exact QgP _
  ·exact Int.le_trans (h.le (i:=i) (j:=j) (by omega) (by omega)) (h j hj)
theorem QoR{p:Array Nat}(g:Good n p)(i j:Nat):Good n (kas_rev p i j):=⟨(Qa3.mp (mirror_perm p i j _)).trans g.perm⟩
theorem QrM{p:Array Nat}{m k:Nat}(hm:m<=p.size)(hk:k<m):at_ (kas_rev p 0 m) k=at_ p (m - 1 - k):=by
 refine Qrm ?_
 have:=getElem?_mirror_all (xs:=p) (i:=0) (j:=m) hm k
 rw[if_pos ⟨Jc _,hk⟩,Nat.zero_add] at this;exact this
theorem Qs9{p:Array Nat}{m:Nat}(hm:m<=p.size)(d:Dsc K p m):Adj K (kas_rev p 0 m) m:=by
 intro i hi;unfold kk;rw[QrM hm (by omega),QrM hm hi];have:=d (m - 1 - (i+1)) (by omega);have e:m - 1 - (i+1)+1=m - 1 - i:=by omega
 rw[e] at this;exact Int.le_of_lt this
theorem QlF{p:Array Nat}(g:Good n p)(h0:0<n):∀(f a:Nat),1<=a->Adj K p a ->
  sp n (cK K) (kas_asc p f a) (λm=>a<=m/\m<=a+f/\Adj K p m/\(m=a+f∨kk K p m<kk K p (m - 1)))
 |0,a,_,h=>⟨Qh _,Qh _,h,.inl rfl⟩
 |f+1,a,ha,h=>by
  refine⟨g.lt h0 a,g.lt h0 (a - 1),?_⟩;show sp n (cK K) (if decide (kk K p a<kk K p (a - 1))=true then .ret a else kas_asc p f (a+1)) _;by_cases e:kk K p a<kk K p (a - 1)
  ·rw[decide_eq_true e,if_pos rfl];exact⟨Qh _,Qvq _ _,h,.inr e⟩
  ·rw[decide_eq_false e,if_neg (by simp)];refine QaB ?_ (QlF g h0 f (a+1) (by omega) ?_)
   ·rintro m ⟨h1,h2,h3,h4⟩;exact⟨by omega,by omega,h3,h4.imp (λq=>by omega) id⟩
   ·intro i hi;by_cases q:i+1<a
    ·exact h i q
    ·have e1:i=a - 1:=by omega
     have e2:i+1=a:=by omega
     rw[e2,e1];exact Int.not_lt.mp e
theorem QuE(inj:∀i j,i<n->j<n->K i=K j->i=j){p:Array Nat}(g:Good n p){i j:Nat}(hi:i<n)(hj:j<n)(h:i≠j):kk K p i≠kk K p j:=
 λe=>h (g.inj hi hj (inj _ _ (g.lt (by omega) i) (g.lt (by omega) j) e))
theorem QlE(inj:∀i j,i<n->j<n->K i=K j->i=j){p:Array Nat}(g:Good n p)(h0:0<n):∀(f a:Nat),1<=a->a+f<=n->Dsc K p a ->
  sp n (cK K) (kas_desc f p a 0) (λr=>r.1=p/\r.2.2=0/\a<=r.2.1/\r.2.1<=a+f/\Dsc K p r.2.1)
 |0,a,_,_,h=>⟨rfl,rfl,Qh _,Qh _,h⟩
 |f+1,a,ha,haf,h=>by
  refine⟨g.lt h0 a,g.lt h0 (a - 1),?_⟩;show sp n (cK K) (if decide (kk K p a<kk K p (a - 1))=true then(if 0 > 0 then kas_desc f (kas_rev p (a - (0+1)) a) (a+1) 0 else kas_desc f p (a+1) 0) else _) _;by_cases e:kk K p a<kk K p (a - 1)
  ·rw[decide_eq_true e,if_pos rfl,if_neg (by omega)];refine QaB ?_ (QlE inj g h0 f (a+1) (by omega) (by omega) ?_)
   ·rintro r ⟨h1,h2,h3,h4,h5⟩;exact⟨h1,h2,by omega,by omega,h5⟩
   ·intro i hi;by_cases q:i+1<a
    ·exact h i q
    ·have e1:i=a - 1:=by omega
     have e2:i+1=a:=by omega
     rw[e2,e1];exact e
  ·rw[decide_eq_false e,if_neg (by simp)];refine⟨g.lt h0 (a - 1),g.lt h0 a,?_⟩;show sp n (cK K) (if decide (kk K p (a - 1)<kk K p a)=true then .ret (p,a,0) else _) _;have ne:=QuE (K:=K) inj g (i:=a - 1) (j:=a) (by omega) (by omega) (by omega);rw[decide_eq_true (by omega),if_pos rfl];exact⟨rfl,rfl,Qh _,Qvq _ _,h⟩
def Run(K:Nat->Int)(n:Nat)(r:Nat×Array Nat):Prop:=Good n r.2/\1<=r.1/\r.1<=n/\Adj K r.2 r.1
theorem QoA{p:Array Nat}(g:Good n p){m:Nat}(h1:1<=m)(hm:m<=n)(d:Dsc K p m):sp n (cK K) (kas_tail3 m n p) (Run K n):=by
 refine Qc0 ?_
 have hs:=g.size;have g':=QoR g 0 m;refine QaB ?_ (QlF g' (by omega) (n - m) m h1 (Qs9 (by omega) d))
 rintro k ⟨a,b,c,_⟩;exact⟨g',by omega,by omega,c⟩
theorem Qie(inj:∀i j,i<n->j<n->K i=K j->i=j){p:Array Nat}(g:Good n p){m:Nat}(hm:m+1<=n)(d:Dsc K p (m+1)):sp n (cK K) (kas_descPart m n p) (Run K n):=by
 refine Qc0 ?_
 refine QaB ?_ (QlE inj g (by omega) (n - (m+1)) (m+1) (by omega) (by omega) d)
 rintro⟨p',k,q⟩ ⟨e1,e2,h3,h4,h5⟩;have e1:p'=p:=e1;have e2:q=0:=e2;subst e1 e2;show sp n (cK K) (if 0 > 0 then _ else kas_tail3 k n p') _;rw[if_neg (by omega)];have h3:m+1<=k:=h3;have h4:k<=m+1+(n - (m+1)):=h4;exact QoA g (by omega) (by omega) h5
theorem QoB(inj:∀i j,i<n->j<n->K i=K j->i=j){p:Array Nat}(g:Good n p)(h0:0<n):sp n (cK K) (kas_count n p) (Run K n):=by
 refine Qc0 ?_
 refine QaB ?_ (QlF g h0 (n - 1) 1 (Qh _) (λi hi=>by omega))
 rintro m ⟨h1,h2,h3,h4⟩;show sp n (cK K) (if(m == n)=true then .ret (m,p) else if m > 1 then _ else kas_descPart m n p) _;by_cases e:m=n
 ·rw[if_pos (beq_iff_eq.mpr e)];exact⟨g,h1,by omega,h3⟩
 ·rw[if_neg (λq=>e (beq_iff_eq.mp q))];by_cases e2:m > 1
  ·rw[if_pos e2];refine⟨g.lt h0 0,g.lt h0 (m - 1),?_⟩;show sp n (cK K) (if decide (kk K p 0<kk K p (m - 1))=true then .ret (m,p) else _) _;have le:=h3.le (i:=0) (j:=m - 1) (by omega) (by omega);have ne:=QuE (K:=K) inj g (i:=0) (j:=m - 1) (by omega) (by omega) (by omega);rw[decide_eq_true (by omega),if_pos rfl];exact⟨g,h1,by omega,h3⟩
  ·rw[if_neg e2];have em:m=1:=by omega
   subst em;refine Qie inj g (by omega) λi hi=>?_
   have ei:i=0:=by omega
   subst ei;rcases h4 with q | q
   ·omega
   ·exact q
theorem QfM{p:Array Nat}(g:Good n p)(h0:0<n){k:Nat}(A:Adj K p k):∀(f l r:Nat),l<=r->r<=k->r - l<=f->(∀i,i<l->kk K p i<=kk K p k)->(∀i,r<=i->i<k->kk K p k<kk K p i) ->
  sp n (cK K) (kas_place p k f l r) (λm=>m<=k/\(∀i,i<m->kk K p i<=kk K p k)/\∀i,m<=i->i<k->kk K p k<kk K p i)
 |0,l,r,h1,h2,h3,a,b=>⟨by omega,a,λi hi hk=>b i (by omega) hk⟩
 |f+1,l,r,h1,h2,h3,a,b=>by
  show sp n (cK K) (if l≥r then .ret l else _) _;by_cases e:l≥r
  ·rw[if_pos e];exact⟨by omega,a,λi hi hk=>b i (by omega) hk⟩
  ·rw[if_neg e];refine⟨g.lt h0 k,g.lt h0 ((l+r) / 2),?_⟩;show sp n (cK K) (if decide (kk K p k<kk K p ((l+r) / 2))=true then kas_place p k f l ((l+r) / 2) else kas_place p k f ((l+r) / 2+1) r) _;by_cases q:kk K p k<kk K p ((l+r) / 2)
   ·rw[decide_eq_true q,if_pos rfl];refine QfM g h0 A f l ((l+r) / 2) (by omega) (by omega) (by omega) a λi hi hk=>?_
    exact Int.lt_of_lt_of_le q (A.le hi hk)
   ·rw[decide_eq_false q,if_neg (by simp)];refine QfM g h0 A f ((l+r) / 2+1) r (by omega) h2 (by omega) (λi hi=>?_) b;exact Int.le_trans (A.le (i:=i) (j:=(l+r) / 2) (by omega) (by omega)) (Int.not_lt.mp q)
theorem QrH(h0:0<n):∀(f k:Nat){p:Array Nat},Good n p->k+f<=n->Adj K p k->sp n (cK K) (kas_bin f p k) (λp'=>Good n p'/\Adj K p' (k+f))
 |0,k,p,g,_,A=>⟨g,A⟩
 |f+1,k,p,g,hk,A=>by
  refine Qc0 ?_
  refine QaB ?_ (QfM g h0 A k 0 k (Jc _) (Qh _) (by omega) (λi hi=>by omega) (λi hi hk=>by omega))
  rintro l ⟨hl,lo,hi⟩;have hs:=g.size;have bb:∀j,at_ (bubble p k (k - l)) j=if j=l then at_ p k else if l<j/\j<=k then at_ p (j - 1) else at_ p j:=by
   intro j;have:=getElem?_bubble (xs:=p) (src:=k) (by omega) (k - l) (by omega) j
   have e:k - (k - l)=l:=by omega
   rw[e] at this;split
   ·rename_i q;rw[if_pos q] at this;exact Qrm this
   ·rename_i q
    rw[if_neg q] at this;split
    ·rename_i q2;rw[if_pos q2] at this;exact Qrm this
    ·rename_i q2;rw[if_neg q2] at this;exact Qrm this
  refine QaB ?_ (QrH h0 f (k+1) (p:=bubble p k (k - l)) ⟨(Qa3.mp (bubble_perm p k (k - l))).trans g.perm⟩ (by omega) ?_)
  ·rintro p' ⟨a,b⟩;exact⟨a,by rw[show k+(f+1)=k+1+f by omega];exact b⟩
  ·intro i hik;unfold kk;rw[bb,bb];by_cases c1:i+1<l
   ·rw[if_neg (by omega),if_neg (by omega),if_neg (by omega),if_neg (by omega)];exact A i (by omega)
   ·by_cases c2:i+1=l
    ·rw[if_neg (by omega),if_neg (by omega),if_pos c2];exact lo i (by omega)
    ·by_cases c3:i=l
     ·rw[if_pos c3,if_neg (by omega),if_pos ⟨by omega,by omega⟩];exact Int.le_of_lt (hi (i+1 - 1) (by omega) (by omega))
     ·rw[if_neg c3,if_pos ⟨by omega,by omega⟩,if_neg (by omega),if_pos ⟨by omega,by omega⟩];have:=A (i - 1) (by omega);rw[show i - 1+1=i+1 - 1 by omega] at this;exact this
theorem QsY(inj:∀i j,i<n->j<n->K i=K j->i=j)(h0:0<n):sp n (cK K) (kas_sort n) (λp=>Good n p/\Adj K p n):=by
 have g:Good n (Ye (Qp n)):=⟨Qb9 _⟩;refine Qc0 ?_
 refine QaB ?_ (QoB inj g h0)
 rintro⟨m,p⟩ ⟨g',h1,h2,A⟩;show sp n (cK K) (if m<n then kas_bin (n - max m 1) p (max m 1) else .ret p) _;have e:max m 1=m:=by have:1<=m:=h1;omega
 rw[e];by_cases q:m<n
 ·rw[if_pos q];refine QaB ?_ (QrH h0 (n - m) m g' (by omega) A)
  rintro p' ⟨a,b⟩;exact⟨a,by rw[show m+(n - m)=n by omega] at b;exact b⟩
 ·rw[if_neg q];have h2:m<=n:=h2;have e2:m=n:=by omega
  subst e2;exact⟨g',A⟩
end
end Rs
namespace Rs
open PySem.W PySem.Calls
section
variable{prog:QC}{w:Jf}{A:Ja}{E:Value->Shared->Prop}{s:Shared}
def Kept(a:Addr)(h h':Heap):Prop:=∀b x,b≠a->h.get? b=some x->h'.get? b=some x
theorem QfF{h:Heap}{a:Addr}(f:Obj->Obj):Kept a h (h.update a f):=λb x hb e=>(Heap.get?_update_ne _ _ _ _ hb).trans e
theorem Qg8{h:Heap}{a:Addr}(o:Obj):Kept a h (h.push o):=λb x _ e=>Qf _ e
theorem Kept.trans{a:Addr}{h h1 h2:Heap}(k:Kept a h h1)(k':Kept a h1 h2):Kept a h h2:=λb x hb e=>k' b x hb (k b x hb e)
theorem QlW(vs:List Value):(Qp vs.length).map (λi=>vs.getD i Js)=vs:=by
 apply Zw
 intro i;rw[Qo];by_cases h:i<vs.length
 ·rw[Ji h,Qe h];show some (vs.getD i Js)=_;rw[Qd,Qe h];rfl
 ·rw[QJ (by simpa using h),QJ (by omega)];rfl
theorem QeZ{a:Addr}{vs:List Value}{n:Nat}{P:PySem.Fin->Shared->Prop}(ho:s.heap.get? a=some (seqObj "list" vs.toArray n))(h64:vs.length<64)(K:Nat->Int)(κ:Qba)
  (inj:∀i j,i<vs.length->j<vs.length->K i=K j->i=j)
  (hkind:2<=vs.length->∀h':Heap,Kept a s.heap h'->∀(Q':Qba->Shared->Prop)(E':Value->Shared->Prop),Q' κ { s with heap:=h' }->wpAny (model prog w) A (keyKind' vs.toArray) Q' E' { s with heap:=h' })
  (hcmp:∀h':Heap,Kept a s.heap h'->∀(i j:Nat)(C:Bool->Shared->Prop),i<vs.length->j<vs.length->C (decide (K i<K j)) { s with heap:=h' }->wpAny (model prog w) A (keyLt' κ (vs.getD i Js) (vs.getD j Js)) C (λ_ _=>False) { s with heap:=h' })
  (h:∀p:Array Nat,Good vs.length p->Adj K p vs.length->∀(h':Heap)(e:Nat),Kept a s.heap h'->h'.get? a=some (seqObj "list" (Ye (p.toList.map λi=>vs.getD i Js)) e)->P (.done (.ret .none)) { s with heap:=h' }) :
  wpAny (model prog w) A (Y2.«list.sort» ⟨[.ref a],[]⟩) P E s:=by
 have ha:a<s.heap.objs.size:=Qj ho;obtain⟨e1,ho1⟩:∃e1,(s.heap.update a (ZE λ_=>(#[]:Array Value))).get? a=some (seqObj "list" #[] e1):=⟨_,get?_update_seq ho λ_=>#[]⟩
 have K3:Kept a s.heap (((s.heap.update a (ZE λ_=>(#[]:Array Value))).push (seqObj "tuple" vs.toArray 0)).push (seqObj "list" #[] 0)):=(QfF _).trans ((Qg8 _).trans (Qg8 _));have ho6:(((s.heap.update a (ZE λ_=>(#[]:Array Value))).push (seqObj "tuple" vs.toArray 0)).push (seqObj "list" #[] 0)).get? a=some (seqObj "list" #[] e1):=Qf _ (Qf _ ho1);rw[list_sort_plain];refine wpAny_bind (listItems_at ho rfl ?_);refine wpAny_bind (Qoe ho rfl ?_ (by rw[Ql,YQ];omega) (Jc _));refine wpAny_bind (QvB ho1 rfl ?_);refine wpAny_bind (wpAny_newTuple ?_ (by show vs.length<=_;rw[YQ];omega));refine wpAny_bind (Qoa ?_ (Jc _));refine J1 ?_
 show wpAny (model prog w) A _ P E { s with heap:=((s.heap.update a (ZE λ_=>(#[]:Array Value))).push (seqObj "tuple" vs.toArray 0)).push (seqObj "list" #[] 0) }
 dsimp only
 generalize (((s.heap.update a (ZE λ_=>(#[]:Array Value))).push (seqObj "tuple" vs.toArray 0)).push (seqObj "list" #[] 0))=h3 at K3 ho6 ⊢;have fin:∀p:Array Nat,Good vs.length p->Adj K p vs.length->∀st':SortSt,(arrOf st').map (·.2)=Ye (p.toList.map λi=>vs.getD i Js)->failedOf st'=none ->
   ∃e2,(h3.update a (ZE λ_=>Ye (p.toList.map λi=>vs.getD i Js))).get? a=some (seqObj "list" (Ye (p.toList.map λi=>vs.getD i Js)) e2):=λp _ _ _ _ _=>⟨_,get?_update_seq ho6 λ_=>_⟩
 by_cases h2:vs.toArray.size<2
 ·rw[if_pos h2,if_pos h2];refine wpAny_bind (wpAny_pure ?_);rw[StateT.run_pure];refine wpAny_bind (wpAny_pure ?_)
  dsimp only
  have gg:Good vs.length (Ye (Qp vs.length)):=⟨Qb9 _⟩;have aa:Adj K (Ye (Qp vs.length)) vs.length:=λi hi=>by rw[Ql] at h2;omega
  have out:(arrOf (SortSt.mk' general' (vs.toArray.zip vs.toArray) #[] 7 none)).map (·.2)=Ye ((Ye (Qp vs.length)).toList.map λi=>vs.getD i Js):=by
   show(vs.toArray.zip vs.toArray).map (·.2)=_;rw[QaZ,QlW];apply QeW.mp
   rw[QeV,Array.toList_zip];show(vs.zip vs).map (·.2)=vs;exact List.map_snd_zip (Qh _)
  obtain⟨e2,he2⟩:=fin _ gg aa _ out rfl;rw[out];refine wpAny_bind (QvB ho6 rfl ?_);refine wpAny_bind (Qoe ho6 rfl ?_ (Jc _) (by rw[Ql,Qc,QaZ,QH,YQ];omega));simp only[bne_self_eq_false,Qac,if_false];exact wpAny_pure (h _ gg aa _ e2 (K3.trans (QfF _)) he2)
 ·rw[if_neg h2,if_neg h2];have h2':2<=vs.length:=by rw[Ql] at h2;omega
  refine wpAny_bind (hkind h2' h3 K3 _ _ ?_);refine wpAny_bind (wpAny_mono (kat_run (Q:=λst' s'=>∃p:Array Nat,Good vs.length p/\Adj K p vs.length/\arrOf st'=p.map (kas_item (vs.toArray.zip vs.toArray))/\failedOf st'=none/\s'={ s with heap:=h3 })
   (G:=λp s'=>Good vs.length p/\Adj K p vs.length/\s'={ s with heap:=h3 }) rfl h2' h64 (λp' st' s' a1 a2 a3 a4=>⟨p',a4.1,a4.2.1,a2,a3,a4.2.2⟩)
   (Qi3 (c:=cK K) (λi j C hi hj hC=>hcmp h3 K3 i j C hi hj hC) (QaB (λp q=>⟨q.1,q.2,rfl⟩) (QsY inj (by omega))))) ?_ λ_ _ e=>e)
  rintro⟨⟨⟩,st'⟩ s' ⟨p,gg,aa,har,hf,rfl⟩
  dsimp only
  have out:=kat_snds (ks:=vs) rfl har;obtain⟨e2,he2⟩:=fin p gg aa st' out hf;rw[out];refine wpAny_bind (QvB ho6 rfl ?_);refine wpAny_bind (Qoe ho6 rfl ?_ (Jc _) (by rw[Ql,Qc,Q4,gg.size,YQ];omega));rw[hf];simp only[bne_self_eq_false,Qac,if_false];exact wpAny_pure (h p gg aa _ e2 (K3.trans (QfF _)) he2)
theorem Qbx{Q:Value->Shared->Prop}{l:Addr}{T:String}{o:Obj}{vs:List Value}{n:Nat}(hT:T = "list" ∨ T = "tuple")(ho:s.heap.get? l=some o)(hc:o.cls=.type T)(hd:o.data=.seq vs.toArray n)(h64:vs.length<64)
  (h:∀h':Heap,(∀b x,s.heap.get? b=some x->h'.get? b=some x)->∀(P:PySem.Fin->Shared->Prop)(E':Value->Shared->Prop),(∀s2,Q (.ref h'.objs.size) s2->P (.done (.ret .none)) s2) ->
   wpAny (model prog w) A.in1.in1 (Y2.«list.sort» ⟨[.ref h'.objs.size],[]⟩) P E' { s with heap:=h'.push (seqObj "list" vs.toArray 0) }) :
  wpAny (model prog w) A (call (.builtin "sorted") [.ref l]) Q E s:=by
 refine QgQ kind_sorted plain_sorted entry_sorted (args_sorted1 _) ?_
 unfold Y2.«sorted»;refine wpAny_bind (m:=checkCount "sorted" 1 1 _) (wpAny_pure ?_);refine wpAny_bind (wpAny_collect_seq (items:=vs.toArray) l hT ho hc hd (λh' kp=>?_) (by rw[Ql,YQ];omega));refine wpAny_bind (Qoa ?_ (by rw[QaZ,YQ];omega));have hoL:(h'.push (seqObj "list" vs.toArray 0)).get? h'.objs.size=some (seqObj "list" vs.toArray 0):=Qq _ rfl;show wpAny _ _ _ _ _ { s with heap:=h'.push (seqObj "list" vs.toArray 0) };refine wpAny_bind (J1 (JL slot_list_sort ⟨_,hoL,rfl⟩ entry_list_sort ?body (args_list_sort _)));exact h h' kp _ _ λs2 hq=>⟨_,rfl,wpAny_pure ⟨_,rfl,hq⟩⟩
end
structure PairV (h:Heap) (v:Value) (ij:Int×Int):Prop where
 it:∃(a:Addr)(o:Obj)(n:Nat)(t u:Tok),v=.ref a/\h.get? a=some o/\o.cls=.type "tuple" /\ o.data=.seq #[.int ij.1 t,.int ij.2 u] n
theorem PairV.keep{h h':Heap}{v:Value}{ij:Int×Int}(q:PairV h v ij)(k:∀b x,h.get? b=some x->h'.get? b=some x):PairV h' v ij:=by
 obtain⟨a,o,n,t,u,e,g,c,d⟩:=q.it;exact⟨a,o,n,t,u,e,k _ _ g,c,d⟩
inductive PairsV (h:Heap):List Value->List (Int×Int)->Prop
 |nil:PairsV h [] []
 |cons {v:Value} {vs:List Value} {ij:Int×Int} {L:List (Int×Int)}:PairV h v ij->PairsV h vs L->PairsV h (v::vs) (ij::L)
theorem PairsV.keep{h h':Heap}(k:∀b x,h.get? b=some x->h'.get? b=some x):∀{vs:List Value}{L:List (Int×Int)},PairsV h vs L->PairsV h' vs L
 |_,_,.nil=>.nil
 |_,_,.cons q r=>.cons (q.keep k) (r.keep k)
theorem PairsV.len{h:Heap}:∀{vs:List Value}{L:List (Int×Int)},PairsV h vs L->vs.length=L.length
 |_,_,.nil=>rfl
 |_,_,.cons _ r=>by rw[QF,QF,r.len]
theorem PairsV.at_{h:Heap}:∀{vs:List Value}{L:List (Int×Int)},PairsV h vs L->∀i,i<vs.length->PairV h (vs.getD i Js) (L.getD i (0,0))
 |_,_,.nil,i,hi=>by simp at hi
 |_,_,.cons q r,0,hi=>q
 |_,_,.cons q r,i+1,hi=>by
  have:=r.at_ i (by simpa using hi)
  simpa using this
theorem PairsV.firsts{h:Heap}:∀{vs:List Value}{L:List (Int×Int)},PairsV h vs L->∃fs,KatTups h vs fs/\fs.length=vs.length/\∀v∈fs,∃i t,v=Y7 i t
 |_,_,.nil=>⟨[],.nil,rfl,λv hv=>nomatch hv⟩
 |_,_,.cons q r=>by
  obtain⟨fs,k,l,f⟩:=r.firsts;obtain⟨a,o,n,t,u,e,g,c,d⟩:=q.it;subst e;refine⟨_::fs,KatTups.cons g c d rfl k,by rw[QF,QF,l],λv hv=>?_⟩;rcases Qy.mp hv with z | z
  ·exact⟨_,_,z⟩
  ·exact f v z
def code(ij:Int×Int):Int:=64*ij.1+ij.2
section
variable{prog:QC}{w:Jf}{A:Ja}{E:Value->Shared->Prop}{s:Shared}
theorem Qu3{a b:Int×Int}(ha:0<=a.2/\a.2<64)(hb:0<=b.2/\b.2<64):decide (code a<code b)=if a.1=b.1 then(if a.2=b.2 then false else decide (a.2<b.2)) else decide (a.1<b.1):=by
 unfold code;split
 ·split
  ·exact decide_eq_false (by omega)
  ·by_cases q:a.2<b.2
   ·rw[decide_eq_true q];exact decide_eq_true (by omega)
   ·rw[decide_eq_false q];exact decide_eq_false (by omega)
 ·by_cases q:a.1<b.1
  ·rw[decide_eq_true q];exact decide_eq_true (by omega)
  ·rw[decide_eq_false q];exact decide_eq_false (by omega)
theorem QtY{v v':Value}{a b:Int×Int}{C:Bool->Shared->Prop}(pa:PairV s.heap v a)(pb:PairV s.heap v' b)(ha:0<=a.2/\a.2<64)(hb:0<=b.2/\b.2<64)(h:C (decide (code a<code b)) s) :
  wpAny (model prog w) A (keyLt' (tuples' true) v v') C E s:=by
 obtain⟨x,ox,n,t,u,rfl,gx,cx,dx⟩:=pa.it;obtain⟨y,oy,m,t',u',rfl,gy,cy,dy⟩:=pb.it;rw[Qu3 ha hb] at h;refine kat_lt gx dx gy dy ?_
 show KatLex prog w A true false C [(.int a.1 t,.int b.1 t'),(.int a.2 u,.int b.2 u')] 0 s;refine kat_cons (QhV ?_);by_cases e:a.1=b.1
 ·rw[if_pos e] at h;rw[show(a.1 == b.1)=true from beq_iff_eq.mpr e];refine kat_yes (kat_cons (QhV ?_));by_cases e2:a.2=b.2
  ·rw[if_pos e2] at h;rw[show(a.2 == b.2)=true from beq_iff_eq.mpr e2];exact kat_yes (kat_nil h)
  ·rw[if_neg e2] at h;rw[show(a.2 == b.2)=false from beq_eq_false_iff_ne.mpr e2];exact kat_no (kat_one _ _ (lt_int h))
 ·rw[if_neg e] at h;rw[show(a.1 == b.1)=false from beq_eq_false_iff_ne.mpr e];exact kat_no (oneLt_int h)
theorem Qmp{vs:List Value}{L:List (Int×Int)}{Q:Qba->Shared->Prop}(r:PairsV s.heap vs L)(h2:2<=vs.length)(h:Q (tuples' true) s):wpAny (model prog w) A (keyKind' vs.toArray) Q E s:=by
 obtain⟨fs,k,l,f⟩:=r.firsts;refine kat_kind (T:=.type "int") k (by omega) (λv hv=>?_) (by decide +kernel) ?_
 ·obtain⟨i,t,rfl⟩:=f v hv;exact Looks.of_pure rfl
 ·rw[show(QaI "int" != QaI "tuple")=true by decide +kernel];exact h
theorem Qet{a:Addr}{vs:List Value}{L:List (Int×Int)}{n:Nat}{P:PySem.Fin->Shared->Prop}(ho:s.heap.get? a=some (seqObj "list" vs.toArray n))(h64:vs.length<64)(r:∀h',Kept a s.heap h'->PairsV h' vs L)(nd:L.Nodup)(hb:∀ij∈L,0<=ij.2/\ij.2<64)
  (h:∀p:Array Nat,Good vs.length p->Adj (λi=>code (L.getD i (0,0))) p vs.length->∀(h':Heap)(e:Nat),Kept a s.heap h'->h'.get? a=some (seqObj "list" (Ye (p.toList.map λi=>vs.getD i Js)) e)->P (.done (.ret .none)) { s with heap:=h' }) :
  wpAny (model prog w) A (Y2.«list.sort» ⟨[.ref a],[]⟩) P E s:=by
 have hl:vs.length=L.length:=(r s.heap (λb x _ e=>e)).len;have hb':∀i,i<vs.length->0<=(L.getD i (0,0)).2/\(L.getD i (0,0)).2<64:=λi hi=>by
  rw[Qd,Qe (by omega)];exact hb _ (ZF _)
 refine QeZ ho h64 (λi=>code (L.getD i (0,0))) (tuples' true) (λi j hi hj e=>?_) (λh2 h' k Q' E' q=>Qmp (s:={ s with heap:=h' }) (r h' k) h2 q) (λh' k i j C hi hj q=>QtY (s:={ s with heap:=h' }) ((r h' k).at_ i hi) ((r h' k).at_ j hj) (hb' i hi) (hb' j hj) q) h;have bi:=hb' i hi;have bj:=hb' j hj;have e:code (L.getD i (0,0))=code (L.getD j (0,0)):=e;unfold code at e;have e':L.getD i (0,0)=L.getD j (0,0):=QdK (by omega) (by omega);rw[Qd,Qd,Qe (by omega),Qe (by omega)] at e';have pw:=Z3.mp nd;rcases QeT i j with q | q | q
 ·exact absurd e' (pw i j (by omega) (by omega) q)
 ·exact q
 ·exact absurd e'.symm (pw j i (by omega) (by omega) q)
end
theorem Qnd{α:Type}{L:List α}{d:α}{p:Array Nat}(g:Good L.length p):(p.toList.map λi=>L.getD i d).Perm L:=by
 have e:(Qp L.length).map (λi=>L.getD i d)=L:=by
  apply Zw
  intro i;rw[Qo];by_cases h:i<L.length
  ·rw[Ji h,Qe h];show some (L.getD i d)=_;rw[Qd,Qe h];rfl
  ·rw[QJ (by simpa using h),QJ (by omega)];rfl
 have:=g.perm.map λi=>L.getD i d
 rwa [e] at this
theorem Qnc{L:List (Int×Int)}{p:Array Nat}(g:Good L.length p)(ad:Adj (λi=>code (L.getD i (0,0))) p L.length)(inj:∀i j,i<L.length->j<L.length->code (L.getD i (0,0))=code (L.getD j (0,0))->i=j) :
  (p.toList.map λi=>L.getD i (0,0)).Pairwise λa b=>code a<code b:=by
 rw[Z3];intro i j hi hj hij;rw[Qc,Q4] at hi hj;have hs:=g.size;rw[QsC,QsC,QaF,QaF];have ei:p[i]=at_ p i:=by have:=QhJ (p:=p) (i:=i) (by omega);rw[ZZ (by omega)] at this;exact QK this
 have ej:p[j]=at_ p j:=by have:=QhJ (p:=p) (i:=j) (by omega);rw[ZZ (by omega)] at this;exact QK this
 rw[ei,ej];have le:=ad.le (i:=i) (j:=j) (by omega) (by omega);have ne:=QuE (K:=λi=>code (L.getD i (0,0))) inj g (i:=i) (j:=j) (by omega) (by omega) (by omega);have le:code (L.getD (at_ p i) (0,0))<=code (L.getD (at_ p j) (0,0)):=le;have ne:code (L.getD (at_ p i) (0,0))≠code (L.getD (at_ p j) (0,0)):=ne;omega
end Rs
namespace L2
open _root_.Rd _root_.Rk _root_.Rs
theorem boot_sorted:bootBuiltins "sorted" = some (.builtin "sorted"):=by decide +kernel
section
variable{X:Cx}
theorem Qhf{P:QC}{w:Jf}{H:Hp}{h:Heap}(ok:HOk P w H h):∀{xs:List V}{L:List (Int×Int)}{vs:List Value},Dats H xs (L.map Rk.pairD)->Vals xs vs->PairsV h vs L
 |_,[],vs,.nil,r=>by cases r;exact .nil
 |_,ij::L,vs,.cons (x:=x) (xs:=xs) q qs,r=>by
  cases r with
  |cons r rs=>
   refine .cons ?_ (Qhf ok qs rs)
   cases q with
   |@tup a ys ds e q2=>
    cases r;obtain⟨_,its,rv,o,ho,hc,_,n,hd⟩:=ok a _ e;cases q2 with
    |cons q3 q4=>
     cases q4 with
     |cons q5 q6=>
      cases q6;cases q3;cases q5;cases rv with
      |cons r1 r2=>
       cases r2 with
       |cons r3 r4=>
        cases r4;obtain⟨t,rfl⟩:=r1;obtain⟨u,rfl⟩:=r3;exact⟨_,o,n,t,u,rfl,ho,hc,hd⟩
theorem Qnq{H:Hp}:∀{xs:List V}{L:List (Int×Int)},Dats H xs (L.map Rk.pairD)->∀i,i<xs.length->Dat H (xs.getD i .non) (Rk.pairD (L.getD i (0,0)))
 |_,[],.nil,i,hi=>by simp at hi
 |_,ij::L,.cons q qs,0,hi=>q
 |_,ij::L,.cons q qs,i+1,hi=>by
  have:=Qnq (L:=L) qs i (by simpa using hi)
  simpa using this
theorem Qli:∀{xs:List V}{vs:List Value},Vals xs vs->∀i,i<xs.length->RelV (xs.getD i .non) (vs.getD i Js)
 |_,_,.nil,i,hi=>by simp at hi
 |_,_,.cons q qs,0,hi=>q
 |_,_,.cons q qs,i+1,hi=>by
  have:=Qli qs i (by simpa using hi)
  simpa using this
theorem QjH{H:Hp}{f:Nat->V}{g:Nat->Int×Int}:∀{is:List Nat},(∀i∈is,Dat H (f i) (Rk.pairD (g i)))->Dats H (is.map f) ((is.map g).map Rk.pairD)
 |[],_=>.nil
 |i::is,h=>.cons (h i (.head _)) (QjH λj hj=>h j (.tail _ hj))
theorem Qi6{f:Nat->V}{g:Nat->Value}:∀{is:List Nat},(∀i∈is,RelV (f i) (g i))->Vals (is.map f) (is.map g)
 |[],_=>.nil
 |i::is,h=>.cons (h i (.head _)) (Qi6 λj hj=>h j (.tail _ hj))
def QlZ:List V->Hp->VK->Prop:=λxs H Q=>∃(l:Addr)(vs:List V)(L:List (Int×Int)),xs=[.ref l]/\H l=some (.lst vs)/\Dats H vs (L.map Rk.pairD)/\L.Nodup/\L.length<64/\(∀ij∈L,0<=ij.2/\ij.2<64) /\
 ∀(t:Addr)(ys:List V)(M:List (Int×Int))(H2:Hp),Same H H2->H t=none->H2 t=some (.lst ys)->Dats H2 ys (M.map Rk.pairD)->M.Perm L->M.Pairwise (λa b=>Rs.code a<Rs.code b)->Q (.ref t) H2
theorem Qfs:CallR X (.builtin "sorted") QlZ:=by
 intro pins s σ H xs us Q I r h;obtain⟨l,vs,L,rfl,hl,ds,nd,h64,hb,q⟩:=h;obtain⟨u,rfl,ru⟩:=vals1 r;cases ru;obtain⟨hz,its,n,rv,ho⟩:=I.hok l _ hl;have pv:=Qhf I.hok ds rv;have lv:=ds.length;rw[Qc] at lv;have li:=rv.length;have lp:=pv.len;refine Qbx (.inl rfl) ho rfl rfl (by omega) λh' kp P E' hP=>?_
 refine Qet (s:={ s with heap:=h'.push (seqObj "list" its.toArray 0) }) (vs:=its) (L:=L) (Qq _ rfl) (by omega) (λh2 k2=>?_) nd hb λp g ad h2 e k2 e2=>hP _ ?_
 ·exact(pv.keep kp).keep λb x e=>k2 b x (QD (Qj e)) (Qf _ e)
 ·have I1:Inv X pins σ H { s with heap:=h' }:=I.kept (t':=s.toks) kp;have hf:H h'.objs.size=none:=I1.hok.fresh (Qh _);have hp:∀i∈p.toList,i<vs.length:=λi hi=>by have:=QM.mp (g.perm.mem_iff.mp hi);omega
  have I2:Inv X pins σ (upd H h'.objs.size (.lst (p.toList.map λi=>vs.getD i .non))) { s with heap:=h2 }:=
   I1.laid (t':=s.toks) (λb x e'=>k2 b x (QD (Qj e')) (Qf _ e')) (Qh _) (show ObjOk X.prog X.w _ _ _ (.lst _) from⟨by rw[Qc,Q4,g.size];exact ZQ (Rk.Qbf (by omega)),_,e,Qi6 λi hi=>Qli rv i (hp i hi),e2⟩)
  have g':Good L.length p:=by rw[<- lp];exact g
  have ad':Adj (λi=>Rs.code (L.getD i (0,0))) p L.length:=by rw[<- lp];exact ad
  refine⟨.ref h'.objs.size,_,I2,rfl,q _ _ (p.toList.map λi=>L.getD i (0,0)) _ (JW hf) hf Jz (QjH λi hi=>(Qnq ds i (hp i hi)).same (JW hf)) (Qnd g') (Qnc g' ad' λi j hi hj e=>?_)⟩;have bi:0<=(L.getD i (0,0)).2/\(L.getD i (0,0)).2<64:=by rw[Qd,Qe hi];exact hb _ (ZF _)
  have bj:0<=(L.getD j (0,0)).2/\(L.getD j (0,0)).2<64:=by rw[Qd,Qe hj];exact hb _ (ZF _)
  unfold Rs.code at e;have e':L.getD i (0,0)=L.getD j (0,0):=QdK (by omega) (by omega);rw[Qd,Qd,Qe hi,Qe hj] at e';have pw:=Z3.mp nd;rcases QeT i j with z | z | z
  ·exact absurd e' (pw i j hi hj z)
  ·exact z
  ·exact absurd e'.symm (pw j i hj hi z)
theorem Qgc:∀{ns:List Int}{vs:List Value},Vals (ns.map V.int) vs->Qbs vs ns
 |[],_,.nil=>.nil
 |i::ns,_,.cons ⟨t,e⟩ r=>by subst e;exact .cons _ _ (Qgc r)
theorem QdZ:∀{ns:List Int}{vs:List Value},Qbs vs ns->Vals (ns.map V.int) vs
 |_,_,.nil=>.nil
 |_,_,.cons n t r=>.cons ⟨t,rfl⟩ (QdZ r)
def QrO(K:PySem.W.Frag):List V->Hp->VK->Prop:=λxs H Q=>∃l ns,xs=[.ref l]/\SqT K H l ((ns:List Int).map V.int)/\ns.length<64 /\
 ∀t ms H2,Same H H2->H t=none->H2 t=some (.lst ((ms:List Int).map V.int))->ms.Perm ns->ms.Pairwise (·<=·)->Q (.ref t) H2
theorem QkM:CallR X (.builtin "sorted") (QrO X.K):=by
 intro pins s σ H xs us Q I r h;obtain⟨l,ns,rfl,hl,h64,q⟩:=h;obtain⟨u,rfl,ru⟩:=vals1 r;cases ru;obtain⟨its,rv,tp,hz⟩:=I.tuple hl;obtain⟨o,ho,hc,n,hd⟩:=tp;have li:=rv.length;rw[Qc] at li;refine Qbx (.inr rfl) ho hc hd (by omega) λh' kp P E' hP=>?_
 have hn:(h'.push (seqObj "list" its.toArray 0)).get? h'.objs.size=some (seqObj "list" its.toArray 0):=Qq _ rfl;refine Qk2 (s:={ s with heap:=h'.push (seqObj "list" its.toArray 0) }) hn (Qgc rv) (by omega) λout ns' ia pm pw=>hP _ ?_
 have I1:Inv X pins σ H { s with heap:=h' }:=I.kept (t':=s.toks) kp;have hf:H h'.objs.size=none:=I1.hok.fresh (Qh _);obtain⟨e,he⟩:∃e,(sortedHeap (h'.push (seqObj "list" its.toArray 0)) h'.objs.size its out).get? h'.objs.size=some (seqObj "list" out e):=Qob hn
 have rv':=QdZ ia;have lp:=pm.length_eq;have I2:Inv X pins σ (upd H h'.objs.size (.lst (ns'.map V.int))) { s with heap:=sortedHeap (h'.push (seqObj "list" its.toArray 0)) h'.objs.size its out }:=
  I1.laid (t':=s.toks) (λb x e'=>(Qk1 (QD (Qj e')) (QQ (Qj e') (by rw[QyM];exact QgN _))).trans (Qf _ e')) (Qh _) (show ObjOk X.prog X.w _ _ _ (.lst _) from⟨by rw[Qc];exact ZQ (Rk.Qbf (by omega)),out.toList,e,rv',by rw[he]⟩)
 exact⟨.ref h'.objs.size,_,I2,rfl,q _ ns' _ (JW hf) hf Jz pm pw⟩
end
end L2
namespace Re
open AutoSeq1 (wpAny_loadPart')
end Re
namespace L2
section
variable{X:Cx}
end
end L2
namespace Rk
open L2
end Rk
namespace L2
section
variable{X:Cx}{pins:List (Addr×Obj)}{σ:St}{H:Hp}
theorem QaR{M:List Str}{scope:YV}{fp:List Addr}{σ':St}{H3:Hp}{s3 s':Shared}{D:Addr}{i:Nat}{y:Str}{py:Pos}{Mo:Model}{A:Ja}{E:Value->Shared->Prop}{Q:Value->Shared->Prop}
  (I3:Inv X pins σ H3 s3)(f3:∀b∈fp,FpOk X pins H3 b)(J:Inv (blk X M scope (Qbl X.env scope.names []) fp s3 H3 s3.heap.objs.size) [] σ' H s')
  (hN:X.N.Nodup)(hi:X.N[i]? = some y)(hl:X.env.scope.names.lookup y=some .local)(hq:∀s2,Inv X pins (σ.set i (some (.ref D))) H s2->Q .none s2) :
  wpAny Mo A (assign (.Name y py) X.env (.ref D)) (λ_ s2=>∃m,s2.heap.Ns s3.heap.objs.size m/\∀h',Qax s3.heap.objs.size s2.heap h'->Q .none { s2 with heap:=h' }) E s':=by
 have J0:Inv X pins σ H s':=QnL I3 f3 J (QhR ..);obtain⟨m,hn,_⟩:=J.loc;have hC:H s3.heap.objs.size=none:=J.free;have lt:X.env.locals<s3.heap.objs.size:=I3.lt;refine QyI (QgZ J0 hN hi (Q2 hl) (show RelV (.ref D) (.ref D) from rfl) (λs2 J2 ⟨a,sb,ha⟩=>?_) (.inr hl));have ea:a=X.env.locals∨X.env.cells.lookup y=some a:=ha;have na:s3.heap.objs.size≠a:=by
  rcases ea with z | z
  ·rw[z];exact Qay lt
  ·obtain⟨v,o,ho,_⟩:=I3.cell y a z;exact Qay (Qj ho)
 refine⟨m,hn.sameBut sb na,λh' hs=>hq _ ?_⟩;refine J2.turned (t':=s2.toks) (it:=s3.heap.objs.size) (λb o hb e=>hs.extBut b o hb e) hC (Qay lt) (.inr I3.sz) (λx c e z=>?_) λp hp z=>?_
 ·obtain⟨v,o,ho,_⟩:=I3.cell x c e;exact absurd (z ▸ Qj ho) (YH _)
 ·have e:=(I3.pin p hp).1;exact absurd (z ▸ Qj e) (YH _)
end
theorem QoY{X:Cx}{M:List Str}{cap:List (Option Nat)}{elt tg iter:Q1}{ifs:List Q1}{scope:YV}{pos:Pos}{wi:TI}{g:TG}{tc:TT}{te:TE}{i:Nat}{y:Str}{py spos:Pos}(hN:X.N.Nodup)(hiy:X.N[i]? = some y)(hly:X.env.scope.names.lookup y=some .local)(hc:X.calm=true)(ok:Qe1 X.N X.env.scope M scope cap=true)
  (hi:PI X tg iter wi)(hb:∀cl ex s3 H3 C,PG (blk X M scope cl ex s3 H3 C) tg g/\PTs (blk X M scope cl ex s3 H3 C) ifs tc/\PE (blk X M scope cl ex s3 H3 C) elt te)
  (hs:∀x,foldedSetIterable iter X.env x=pure x:=by intro _;rfl)(hsw:swapsWith (.ListComp elt [⟨tg,iter,ifs,0⟩] scope pos) (some (.Name y py)) spos.line X.env=pure true:=by rfl):PS X (.Assign [.Name y py] (.ListComp elt [⟨tg,iter,ifs,0⟩] scope pos) spos) (Qox (tComp cap wi g tc te) (QdH i)):=by
 intro pins s σ H D I h;have c:=CapOk.of ok;rw[QdD _ _ _ _ hsw];refine wpAny_bind (wpAny_standAt (wpAny_bind ?_));show wpAny _ X.A (do let _ <- comprehension (.ListComp elt [⟨tg,iter,ifs,0⟩] scope pos) scope X.env _ (newList []) false (eval iter X.env) (some (assign (.Name y py) X.env))) _ _ s;refine wpAny_bind (wpAny_mono (Qal (use:=some (assign (.Name y py) X.env)) (Q:=λ_ s'=>SP X pins D .next s') rfl hs (Qgp (I.ok.cells c)) c.kind c.loc ?_) (λ_ s' hq=>wpAny_pure (wpAny_pure hq)) λ_ _ e=>e);refine thn (hi pins s σ H _ I h) λv s1 h1=>thn h1 λitv s2 h2=>?_
 obtain⟨it,fp,tn,J,H2,e,I2,T,st2,f2,hW⟩:=h2;subst e;refine Jr (Qa8 c.cell (by intro y hy;simp at hy) (λh₁ hns₁ hsb₁=>?_) c.kind);have I3:Inv X pins σ (upd H2 s2.heap.objs.size (.lst [])) { s2 with heap:=s2.heap.push { cls:=.type "list",data:=.seq ([]:List Value).toArray } }:=I2.lnew (t':=s2.toks) (ys:=[]) .nil (Jc _);have lt2:∀b∈fp,b<s2.heap.objs.size:=λb hb=>by obtain⟨o,e,_⟩:=T.obj _ _ st2 b hb;exact Qj e
 have f3:∀b∈fp,FpOk X pins (upd H2 s2.heap.objs.size (.lst [])) b:=λb hb=>(f2 b hb).upd (QD (lt2 b hb))
 generalize hs3:({ s2 with heap:=s2.heap.push { cls:=.type "list",data:=.seq ([]:List Value).toArray } }:Shared)=s3 at I3;have e3:s3.heap=s2.heap.push { cls:=.type "list",data:=.seq ([]:List Value).toArray }:=by rw[<- hs3]
 have z3:s3.heap.objs.size=s2.heap.objs.size+1:=by rw[e3,ZP]
 have hk:∀b o,s3.heap.get? b=some o->h₁.get? b=some o:=λb o e=>hsb₁.extBut b o (by
  have:=Qj e;rw[e3] at this;exact QD this) (Qf _ (e3 ▸ e))
 have hn₁:h₁.Ns s3.heap.objs.size λ_=>none:=by rw[e3];exact hns₁
 have B:=QcO (t4:=s3.toks+([]:List (Str×Value)).length) (fp:=fp) I3 c f3 (λb hb=>by rw[z3];exact YG (lt2 b hb)) hn₁ hk;have st4:tn 0 h₁:=T.keep _ _ _ st2 λb hb o e=>hk b o (by rw[e3];exact Qf _ e)
 have fp4:∀b∈fp,FpOk (blk X M scope (Qbl X.env scope.names []) fp s3 (upd H2 s2.heap.objs.size (.lst [])) s3.heap.objs.size) [] (upd H2 s2.heap.objs.size (.lst [])) b:=λb hb=>by
  refine⟨(f3 b hb).1,(B.ok.exf b hb).1,B.ok.exfs b hb,.inl hb,(B.ok.exf b hb).2,λp hp=>(nomatch hp)⟩
 obtain⟨hg,ht,he⟩:=hb (Qbl X.env scope.names []) fp s3 (upd H2 s2.heap.objs.size (.lst [])) s3.heap.objs.size;have loop:codeAny (model X.prog X.w) X.A (.compLoop (.ListComp elt [⟨tg,iter,ifs,0⟩] scope pos) 0 (.ref it) (.ref s2.heap.objs.size) (compEnvC scope (Qbl X.env scope.names []) s3.heap.objs.size X.env))
   (compPost (model X.prog X.w) X.A X.xe (some (assign (.Name y py) X.env)) (λ_ s'=>SP X pins D .next s') (.ref s2.heap.objs.size) s3.heap.objs.size) { s3 with heap:=h₁,toks:=s3.toks+([]:List (Str×Value)).length }:=by
  refine QcL (Y:=blk X M scope (Qbl X.env scope.names []) fp s3 (upd H2 s2.heap.objs.size (.lst [])) s3.heap.objs.size) (gens:=[⟨tg,iter,ifs,0⟩]) (d:=0) hc T st4 fp4
   (λQ E s h=>Qi7 Q E s h) (λx u r=>QeI rfl hg ht (λσ4=>Qgv rfl he) x u r) B (hW _ (I2.hok.fresh (Qh _))) λs' H' I' q=>?_
  exact QaR (Q:=λ_ s'=>SP X pins D .next s') I3 f3 I' hN hiy hly λs2' J2=>⟨_,H',J2,q⟩
 exact QcV loop (T.self _ 0 _ _ _ st4 loop)
theorem Qmb{X:Cx}{M:List Str}{cap:List (Option Nat)}{elt tg iter tg2 iter2:Q1}{ifs ifs2:List Q1}{scope:YV}{pos:Pos}{wi wi2:TI}{g g2:TG}{tc tc2:TT}{te:TE}{i:Nat}{y:Str}{py spos:Pos}(hN:X.N.Nodup)(hiy:X.N[i]? = some y)(hly:X.env.scope.names.lookup y=some .local)(hc:X.calm=true)(ok:Qe1 X.N X.env.scope M scope cap=true)
  (hi:PI X tg iter wi)(hb:∀cl ex s3 H3 C,PG (blk X M scope cl ex s3 H3 C) tg g/\PTs (blk X M scope cl ex s3 H3 C) ifs tc/\PI (blk X M scope cl ex s3 H3 C) tg2 iter2 wi2/\PG (blk X M scope cl ex s3 H3 C) tg2 g2/\PTs (blk X M scope cl ex s3 H3 C) ifs2 tc2/\PE (blk X M scope cl ex s3 H3 C) elt te)
  (hs:∀x,foldedSetIterable iter X.env x=pure x:=by intro _;rfl)(hs2:∀env x,foldedSetIterable iter2 env x=pure x:=by intro _ _;rfl)(hsw:swapsWith (.ListComp elt [⟨tg,iter,ifs,0⟩,⟨tg2,iter2,ifs2,0⟩] scope pos) (some (.Name y py)) spos.line X.env=pure true:=by rfl):PS X (.Assign [.Name y py] (.ListComp elt [⟨tg,iter,ifs,0⟩,⟨tg2,iter2,ifs2,0⟩] scope pos) spos) (Qox (QrD cap wi g tc wi2 g2 tc2 te) (QdH i)):=by
 intro pins s σ H D I h;have c:=CapOk.of ok;rw[QdD _ _ _ _ hsw];refine wpAny_bind (wpAny_standAt (wpAny_bind ?_));show wpAny _ X.A (do let _ <- comprehension (.ListComp elt [⟨tg,iter,ifs,0⟩,⟨tg2,iter2,ifs2,0⟩] scope pos) scope X.env _ (newList []) false (eval iter X.env) (some (assign (.Name y py) X.env))) _ _ s;refine wpAny_bind (wpAny_mono (Qal (use:=some (assign (.Name y py) X.env)) (Q:=λ_ s'=>SP X pins D .next s') rfl hs (Qgp (I.ok.cells c)) c.kind c.loc ?_) (λ_ s' hq=>wpAny_pure (wpAny_pure hq)) λ_ _ e=>e);refine thn (hi pins s σ H _ I h) λv s1 h1=>thn h1 λitv s2 h2=>?_
 obtain⟨it,fp,tn,J,H2,e,I2,T,st2,f2,hW⟩:=h2;subst e;refine Jr (Qa8 c.cell (by intro y hy;simp at hy) (λh₁ hns₁ hsb₁=>?_) c.kind);have I3:Inv X pins σ (upd H2 s2.heap.objs.size (.lst [])) { s2 with heap:=s2.heap.push { cls:=.type "list",data:=.seq ([]:List Value).toArray } }:=I2.lnew (t':=s2.toks) (ys:=[]) .nil (Jc _);have lt2:∀b∈fp,b<s2.heap.objs.size:=λb hb=>by obtain⟨o,e,_⟩:=T.obj _ _ st2 b hb;exact Qj e
 have f3:∀b∈fp,FpOk X pins (upd H2 s2.heap.objs.size (.lst [])) b:=λb hb=>(f2 b hb).upd (QD (lt2 b hb))
 generalize hs3:({ s2 with heap:=s2.heap.push { cls:=.type "list",data:=.seq ([]:List Value).toArray } }:Shared)=s3 at I3;have e3:s3.heap=s2.heap.push { cls:=.type "list",data:=.seq ([]:List Value).toArray }:=by rw[<- hs3]
 have z3:s3.heap.objs.size=s2.heap.objs.size+1:=by rw[e3,ZP]
 have hk:∀b o,s3.heap.get? b=some o->h₁.get? b=some o:=λb o e=>hsb₁.extBut b o (by
  have:=Qj e;rw[e3] at this;exact QD this) (Qf _ (e3 ▸ e))
 have hn₁:h₁.Ns s3.heap.objs.size λ_=>none:=by rw[e3];exact hns₁
 have B:=QcO (t4:=s3.toks+([]:List (Str×Value)).length) (fp:=fp) I3 c f3 (λb hb=>by rw[z3];exact YG (lt2 b hb)) hn₁ hk;have st4:tn 0 h₁:=T.keep _ _ _ st2 λb hb o e=>hk b o (by rw[e3];exact Qf _ e)
 have fp4:∀b∈fp,FpOk (blk X M scope (Qbl X.env scope.names []) fp s3 (upd H2 s2.heap.objs.size (.lst [])) s3.heap.objs.size) [] (upd H2 s2.heap.objs.size (.lst [])) b:=λb hb=>by
  refine⟨(f3 b hb).1,(B.ok.exf b hb).1,B.ok.exfs b hb,.inl hb,(B.ok.exf b hb).2,λp hp=>(nomatch hp)⟩
 obtain⟨hg,ht,hi2,hg2,ht2,he⟩:=hb (Qbl X.env scope.names []) fp s3 (upd H2 s2.heap.objs.size (.lst [])) s3.heap.objs.size;have loop:codeAny (model X.prog X.w) X.A (.compLoop (.ListComp elt [⟨tg,iter,ifs,0⟩,⟨tg2,iter2,ifs2,0⟩] scope pos) 0 (.ref it) (.ref s2.heap.objs.size) (compEnvC scope (Qbl X.env scope.names []) s3.heap.objs.size X.env))
   (compPost (model X.prog X.w) X.A X.xe (some (assign (.Name y py) X.env)) (λ_ s'=>SP X pins D .next s') (.ref s2.heap.objs.size) s3.heap.objs.size) { s3 with heap:=h₁,toks:=s3.toks+([]:List (Str×Value)).length }:=by
  refine QcL (Y:=blk X M scope (Qbl X.env scope.names []) fp s3 (upd H2 s2.heap.objs.size (.lst [])) s3.heap.objs.size) (gens:=[⟨tg,iter,ifs,0⟩,⟨tg2,iter2,ifs2,0⟩]) (d:=0) hc T st4 fp4
   (λQ E s h=>Qj8 (hs2 _) Q E s h) (λx u r=>QeI rfl hg ht (λσ4=>QnJ rfl hc hi2 hg2 ht2 he) x u r) B (hW _ (I2.hok.fresh (Qh _))) λs' H' I' q=>?_
  exact QaR (Q:=λ_ s'=>SP X pins D .next s') I3 f3 I' hN hiy hly λs2' J2=>⟨_,H',J2,q⟩
 exact QcV loop (T.self _ 0 _ _ _ st4 loop)
end L2
namespace Rk
open L2 _root_.Rd
section
variable{X:Cx}
def QBy(X:Cx):R2:=λx y H Q=>∃dx dy,Dat H x dx/\Dat H y dy/\X.A.units+min dx.depth dy.depth<cLine/\Q (.bl (!Q9 dx dy)) H
theorem Qw1:OpR X (compareOp .NotEq) (QBy X):=by
 intro pins s σ H x y v u Q I rx ry h;obtain⟨dx,dy,qx,qy,hu,q⟩:=h;obtain⟨⟨as,ra⟩,ca⟩:=Ym I.hok dx x v qx rx;obtain⟨⟨bs,rb⟩,cb⟩:=Ym I.hok dy y u qy ry;exact SeqAt.compareNe_reads ra rb ca cb hu ⟨.bl _,H,I,rfl,q⟩
end
end Rk
namespace Rk
open L2
end Rk
namespace Rx
open PySem.Calls L2
section
variable{X:Cx}{E:XK}
end
section
variable{X:Cx}{tf:TE}{fe:Q1}{pos:Pos}{e:Q1}{es:List Q1}{t:TA}{M:Addr->Sp->Prop}
end
end Rx
namespace Rk
open L2 _root_.Rd
structure GlbA (mg:Str->Option Value):Prop where
 isinstance:mg "isinstance" = none
 int:mg "int" = none
 bool:mg "bool" = none
 str:mg "str" = none
 tuple:mg "tuple" = none
 list:mg "list" = none
 all:mg "all" = none
 len:mg "len" = none
 zip:mg "zip" = none
 enumerate:mg "enumerate" = none
 range:mg "range" = none
 max:mg "max" = none
 min:mg "min" = none
 sorted:mg "sorted" = none
 sum:mg "sum" = none
 set:mg "set" = none
 any:mg "any" = none
 reversed:mg "reversed" = none
 divmod:mg "divmod" = none
def Qzp(u:Nat)(neg:Bool):R2:=λx y H Q=>∃c ps ds d,y=.ref c/\H c=some (.tup ps)/\Dats H ps ds/\Dat H x d/\u+d.depth<cLine/\Q (.bl (if neg then !(ds.any λe=>Q9 e d) else ds.any λe=>Q9 e d)) H
theorem Qw3{X:Cx}:OpR X (compareOp .In) (Qzp X.A.in1.units false):=Qw4
end Rk
namespace Rx
open PySem.Calls L2
section
variable{P:QC}{w:Jf}{K:PySem.W.Frag}{mg:Str->Option Value}{base:Heap}
end
end Rx
namespace Rk
open L2 _root_.Rd
section
variable{X:Cx}{is js:List Nat}
end
end Rk
namespace L2
theorem YM{h:Heap}{a:Addr}{its:Array Value}(p:PlainL h a its):h.IsList a its:=by
 obtain⟨o,n,h1,h2,_,h3⟩:=p;exact⟨o,h1,h2,n,h3⟩
structure QhK (h:Heap) (z TI TO i1 i2 t1 t2:Addr) (f:Value) (k:Nat):Prop where
 zp:QsE h z TI TO f
 ti:IsPair h TI (.ref i1) (.ref i2)
 to:∃a b,IsPair h TO a b
 i1:h.IsListIter i1 t1 k
 i2:h.IsListIter i2 t2 k
section
variable{prog:QC}{w:Jf}{A:Ja}{E:Value->Shared->Prop}{s:Shared}
theorem Qld{z TI TO i1 i2 t1 t2:Addr}{k:Nat}{xs ys:Array Value}{x y:Value}{Q:Option Value->Shared->Prop}(D:Qyf z TI TO i1 i2 t1 t2)(Z:QhK s.heap z TI TO i1 i2 t1 t2 .none k)
  (hl1:s.heap.IsList t1 xs)(hl2:s.heap.IsList t2 ys)(hx:xs[k]? = some x)(hy:ys[k]? = some y)
  (hQ:∀h',QhK h' z TI TO i1 i2 t1 t2 (rawInt s.heap.objs.size) (k+1)->IsPair h' s.heap.objs.size x y->(∀c o,c≠z->c≠TO->c≠i1->c≠i2->s.heap.get? c=some o->h'.get? c=some o)->Q (some (.ref s.heap.objs.size)) { s with heap:=h' }) :
  wpAny (model prog w) A (pyNext (.ref z)) Q E s:=by
 obtain⟨hz,hTI,⟨a,b,hTO⟩,h1,h2⟩:=Z;exact wpAny_pyNext_zip_item D hz hTI hTO h1 h2 hl1 hl2 hx hy λh' a1 a2 a3 a4 a5 a6 a7=>hQ h' ⟨a1,a7 _ _ D.TIz D.TITO D.TIi1 D.TIi2 hTI,⟨x,y,a2⟩,a3,a4⟩ a5 a7
theorem Qon{z TI TO i1 i2 t1 t2:Addr}{k:Nat}{xs ys:Array Value}{Q:Option Value->Shared->Prop}(hh:A.handled=none)(D:Qyf z TI TO i1 i2 t1 t2)(Z:QhK s.heap z TI TO i1 i2 t1 t2 .none k)
  (hl1:s.heap.IsList t1 xs)(hl2:s.heap.IsList t2 ys)(hend:xs[k]? = none∨ys[k]? = none)
  (hQ:∀h',(∀c o,c≠z->c≠TO->c≠i1->c≠i2->s.heap.get? c=some o->h'.get? c=some o)->Q none { s with heap:=h' }):wpAny (model prog w) A (pyNext (.ref z)) Q E s:=by
 obtain⟨hz,hTI,⟨a,b,hTO⟩,h1,h2⟩:=Z;exact wpAny_pyNext_zip_end hh D hz hTI hTO h1 h2 hl1 hl2 hend hQ
theorem Qle{t1 t2:Addr}{xs ys:Array Value}{Q:Value->Shared->Prop}(hl1:s.heap.IsList t1 xs)(hl2:s.heap.IsList t2 ys)
  (h:∀h',QhK h' (s.heap.objs.size+4) (s.heap.objs.size+2) (s.heap.objs.size+3) s.heap.objs.size (s.heap.objs.size+1) t1 t2 .none 0->(∀c o,s.heap.get? c=some o->h'.get? c=some o)->Q (.ref (s.heap.objs.size+4)) { s with heap:=h' }) :
  wpAny (model prog w) A (call (.type "zip") [.ref t1,.ref t2]) Q E s:=
 call_zip_2 hl1 hl2 λh' a1 a2 a3 a4 a5 a6 a7=>h h' ⟨a1,a2,⟨_,_,a3⟩,a4,a5⟩ a7
end
def QBk(t1 t2:Addr):It:=
 ⟨λi H=>∃xs ys x y,H t1=some (.lst xs)/\H t2=some (.lst ys)/\xs[i]? = some x/\ys[i]? = some y,
  λi H v H'=>∃p x y,H p=none/\(∀xs,H t1=some (.lst xs)->xs[i]? = some x)/\(∀ys,H t2=some (.lst ys)->ys[i]? = some y)/\v=.ref p/\H'=upd H p (.tup [x,y]),
  λi H=>∃xs ys,H t1=some (.lst xs)/\H t2=some (.lst ys)/\(xs.length<=i∨ys.length<=i)⟩
theorem Qlj{P:QC}{w:Jf}{K:PySem.W.Frag}{elts:List Q1}{x1}{tpos:Pos}{z TI TO i1 i2 t1 t2:Addr}(D:Qyf z TI TO i1 i2 t1 t2) :
  Turn P w K (.Tuple elts x1 tpos) (QBk t1 t2) [z,TI,TO,i1,i2] z (λi h=>QhK h z TI TO i1 i2 t1 t2 .none i) where
 mem:=by simp
 obj:=λi h st b hb=>by
  obtain⟨a1,a2,⟨_,_,a3⟩,⟨o4,a4,_,d4⟩,⟨o5,a5,_,d5⟩⟩:=st;simp only[Qy,Jm,or_false] at hb;rcases hb with rfl | rfl | rfl | rfl | rfl
  ·exact⟨_,a1,λv q=>nomatch q⟩
  ·exact⟨_,a2,λv q=>nomatch q⟩
  ·exact⟨_,a3,λv q=>nomatch q⟩
  ·exact⟨_,a4,λv q=>by rw[d4] at q;cases q⟩
  ·exact⟨_,a5,λv q=>by rw[d5] at q;cases q⟩
 keep:=λi h h' st k=>by
  obtain⟨a1,a2,⟨a,b,a3⟩,a4,a5⟩:=st;exact⟨k z (by simp) _ a1,k TI (by simp) _ a2,⟨a,b,k TO (by simp) _ a3⟩,a4.at λo e=>k i1 (by simp) o e,a5.at λo e=>k i2 (by simp) o e⟩
 item:=by
  intro X hP hw hK hc i pins s σ H E I hf st hg;subst hP hw hK;obtain⟨xs,ys,x,y,h1,h2,hx,hy⟩:=hg;obtain⟨its1,r1,p1,_⟩:=I.list (SqL.of h1);obtain⟨its2,r2,p2,_⟩:=I.list (SqL.of h2);obtain⟨u1,hu1,ru1⟩:=r1.get hx;obtain⟨u2,hu2,ru2⟩:=r2.get hy;refine Qld D st (YM p1) (YM p2) (by simpa using hu1) (by simpa using hu2) λh' st' tp kp=>?_
  have hlt:∀b∈[z,TI,TO,i1,i2],b≠s.heap.objs.size:=λb hb=>by
   obtain⟨a1,a2,⟨_,_,a3⟩,⟨o4,a4,_,d4⟩,⟨o5,a5,_,d5⟩⟩:=st;simp only[Qy,Jm,or_false] at hb;rcases hb with rfl | rfl | rfl | rfl | rfl
   ·exact QD (Qj a1)
   ·exact QD (Qj a2)
   ·exact QD (Qj a3)
   ·exact QD (Qj a4)
   ·exact QD (Qj a5)
  have fr:H s.heap.objs.size=none:=I.hok.fresh (Qh _);refine⟨_,rfl,Qk0 st'.zp λh2' z2 s2=>?_⟩;have I1:Inv X pins σ (upd H s.heap.objs.size (.tup [x,y])) { s with heap:=h2',toks:=s.toks }:=by
   refine I.turnedNew (ch:=[z,TI,TO,i1,i2]) hf (λb u hb e=>?_) (Qh _) ⟨by show 2<=sizeLine;decide,[u1,u2],.cons ru1 (.cons ru2 .nil),?_⟩
   ·simp only[Qy,Jm,or_false,not_or] at hb;exact s2.extBut _ _ hb.1 (kp b u hb.1 hb.2.2.1 hb.2.2.2.1 hb.2.2.2.2 e)
   ·exact⟨_,s2.extBut _ _ (hlt z (by simp)).symm tp,rfl,rfl,0,rfl⟩
  refine⟨.ref s.heap.objs.size,_,I1,rfl,⟨_,x,y,fr,λxs' e=>?_,λys' e=>?_,rfl,rfl⟩,?_,λb hb=>?_⟩
  ·rw[h1] at e;cases e;exact hx
  ·rw[h2] at e;cases e;exact hy
  ·obtain⟨a1,a2,⟨a,b,a3⟩,a4,a5⟩:=st';exact⟨z2,s2.extBut _ _ D.TIz a2,⟨a,b,s2.extBut _ _ D.TOz a3⟩,a4.extBut s2.extBut D.i1z,a5.extBut s2.extBut D.i2z⟩
  ·rw[JX (hlt b hb)];exact(hf b hb).1
 done:=by
  intro X hP hw hK hc i pins s σ H E I hf st hg;subst hP hw hK;obtain⟨xs,ys,h1,h2,he⟩:=hg;obtain⟨its1,r1,p1,_⟩:=I.list (SqL.of h1);obtain⟨its2,r2,p2,_⟩:=I.list (SqL.of h2);have l1:=r1.length;have l2:=r2.length;refine Qon (I.ok.hd hc) D st (YM p1) (YM p2) ?_ λh' kp=>⟨rfl,I.turnedAll (t':=s.toks) (ch:=[z,TI,TO,i1,i2]) hf λb u hb e=>?_⟩
  ·rcases he with q | q
   ·exact .inl (by simp;omega)
   ·exact .inr (by simp;omega)
  ·simp only[Qy,Jm,or_false,not_or] at hb;exact kp b u hb.1 hb.2.2.1 hb.2.2.2.1 hb.2.2.2.2 e
 self:=λ_ _ _ _ _ st h=>QcQ st.zp h
section
variable{X:Cx}
theorem QkQ(n t1 t2:Nat)(h1:t1<n)(h2:t2<n):Qyf (n+4) (n+2) (n+3) n (n+1) t1 t2 where
 TIz:=by show ¬(n+2=n+4);omega
 TOz:=by show ¬(n+3=n+4);omega
 i1z:=by show ¬(n=n+4);omega
 i2z:=by show ¬(n+1=n+4);omega
 TITO:=by show ¬(n+2=n+3);omega
 TIi1:=by show ¬(n+2=n);omega
 TIi2:=by show ¬(n+2=n+1);omega
 TOi1:=by show ¬(n+3=n);omega
 TOi2:=by show ¬(n+3=n+1);omega
 i12:=by show ¬(n=n+1);omega
 l1z:=by show ¬(t1=n+4);omega
 l1TO:=by show ¬(t1=n+3);omega
 l1i1:=by show ¬(t1=n);omega
 l1i2:=by show ¬(t1=n+1);omega
 l2z:=by show ¬(t2=n+4);omega
 l2TO:=by show ¬(t2=n+3);omega
 l2i1:=by show ¬(t2=n);omega
 l2i2:=by show ¬(t2=n+1);omega
def Qz3(ta:TA):TI:=λσ H R=>ta σ H λvs H1=>∃t1 t2 xs ys,vs=[.ref t1,.ref t2]/\H1 t1=some (.lst xs)/\H1 t2=some (.lst ys)/\R (QBk t1 t2) H1
theorem QnG:bootBuiltins "zip" = some (.type "zip"):=by decide +kernel
theorem Qtq{a b:Q1}{elts:List Q1}{x1}{tpos:Pos}{ta:TA}{p pos:Pos}(hg:Gl X "zip")(hm:X.mg "zip" = none)(ha:PA X [a,b] ta)(hs:starEach [a,b] X.env=[(false,eval a X.env),(false,eval b X.env)]:=by rfl)(hs2:starEach [b] X.env=[(false,eval b X.env)]:=by rfl) :
  PI X (.Tuple elts x1 tpos) (.Call (.Name "zip" p) [a,b] [] pos) (Qz3 ta):=by
 intro pins s σ H R I h;refine Call_ (Qca I hg hm QnG (JV (thn (ha pos pins s σ H _ I h) λus s1 ⟨vs,H1,I1,r1,q1⟩=>?_) (by rw[hs,hs2]) (by rw[hs2];rfl)));obtain⟨t1,t2,xs,ys,e,h1,h2,q⟩:=q1;subst e;obtain⟨u,v,rfl,ru,rv⟩:=vals2 r1;cases(show u=Zm t1 from ru);cases(show v=Zm t2 from rv);obtain⟨its1,w1,p1,_⟩:=I1.list (SqL.of h1);obtain⟨its2,w2,p2,_⟩:=I1.list (SqL.of h2);have n1:t1<s1.heap.objs.size:=I1.hok.lt h1;have n2:t2<s1.heap.objs.size:=I1.hok.lt h2;refine Qle (YM p1) (YM p2) λh' st kp=>?_
 refine QcQ (s:={ s1 with heap:=h' }) st.zp ?_
 have D:=QkQ s1.heap.objs.size t1 t2 n1 n2;refine⟨s1.heap.objs.size+4,_,_,_,H1,rfl,I1.kept (t':=s1.toks) kp,Qlj D,st,λb hb=>?_,q⟩;have hb':s1.heap.objs.size<=b:=by
  simp only[Qy,Jm,or_false] at hb;rcases hb with rfl | rfl | rfl | rfl | rfl<;>omega
 exact I1.fpOk hb' (I1.hok.fresh hb')
end
def Qwp(K:PySem.W.Frag):List V->Hp->VK->Prop:=λxs H Q=>∃p ys,xs=[.ref p]/\(SqL K H p ys∨SqT K H p ys)/\Q (.int ys.length) H
theorem Qsm:bootBuiltins "sum" = some (.builtin "sum"):=by decide +kernel
theorem bt_any:bootBuiltins "any" = some (.builtin "any"):=by decide +kernel
theorem QcN:bootBuiltins "sorted" = some (.builtin "sorted"):=by decide +kernel
def Qwi(K:PySem.W.Frag):List V->Hp->VK->Prop:=λxs H Q=>∃(p:Addr)(ns:List Int),xs=[.ref p]/\SqL K H p (ns.map V.int)/\Q (.int ns.sum) H
def CMulB(i j:Int):Prop:=∃k:Nat,k<=1000000/\i.natAbs<2^k/\j.natAbs<2^k
theorem QnM{i:Int}{k:Nat}(h:i.natAbs<2^k):Zo i<=k:=by
 unfold Zo;split
 ·exact Jc _
 ·rename_i z
  have hz:i.natAbs≠0:=by
   intro q;apply z
   have:i=0:=by omega
   subst this;rfl
  have:=(Nat.log2_lt hz).mpr h;omega
theorem CMulB.ok{i j:Int}(h:CMulB i j):IntMulOk i j:=by
 obtain⟨k,hk,h1,h2⟩:=h;have a:=QnM h1;have b:=QnM h2;unfold IntMulOk;have c:QfC (Zo i+Zo j:Nat)=false:=by
  unfold QfC;rw[decide_eq_false];have:bitsLine=134217728:=by decide +kernel
  rw[this];omega
 intro z;rw[JH] at z;have z2:=z.2;have e:((Zo i+Zo j:Nat):Int)=(Zo i:Int)+(Zo j:Int):=by omega
 rw[e] at c;rw[c] at z2;cases z2
section
variable{X:Cx}
theorem Qt0:OpR X (binaryOp .Mult) (rI CMulB λi j=>.int (i*j)):=opI λ_ _ _ _ _ _ _ hc q=>mul_int q hc.ok
theorem Qp5:QBi X (Qys X.K):=by
 intro pins s σ H o i ov iv Q I ro ri h;obtain⟨p,xs,k,z,rfl,rfl,hq,he,q⟩:=h;cases ro;obtain⟨t,rfl⟩:=ri;obtain⟨its,r,pl,hz⟩:=I.list hq;obtain⟨j,h1,h2,h3,h4,h5⟩:=QiS he;obtain⟨w,ew,rw'⟩:=r.get h2;have hl:=r.length;have hn:=Qfn;have fin:EP X pins σ Q w s:=⟨z,H,I,rw',q⟩;by_cases h0:0<=k
 ·have hj:k.toNat=j:=by
   rw[QjV h0 h5] at h1;exact QK h1
  exact wpAny_getItem_list pl.isList h0 (by omega) (by rw[hj];simpa using ew) fin
 ·have hj:(k+(its.toArray.size:Int)).toNat=j:=by
   rw[QhM (by omega) h4] at h1;rw[Ql,<- hl];exact QK h1
  exact Qrp pl.isList (by omega) (by rw[Ql]<;>omega) (by omega) (by rw[hj];simpa using ew) fin
theorem Qhw(hc:X.calm=true):CallR X (.builtin "sum") (Qwi X.K):=by
 intro pins s σ H xs us Q I r h;obtain⟨p,ns,rfl,hp,q⟩:=h;obtain⟨u,rfl,ru⟩:=vals1 r;cases ru;obtain⟨its,rv,pl,hz⟩:=I.list hp;have hi:Qbs its ns:=intsAre_of rv;obtain⟨ys,hx⟩:=hi.allInts.items;have hl':s.heap.IsList p (intItems ys):=hx ▸ pl.isList;refine sum_intListG (I.ok.hd hc) hl' λh' tk t' hk=>?_
 have e1:ns=ys.toList.map (·.1):=by
  rw[<- nums_intItems,<- hx];exact(show numsOf its.toArray.toList=ns from hi.numsOf).symm
 have e2:preSum (numAt ys) ys.size=ns.sum:=by
  rw[preSum_eq,QjZ (by simp),e1]
 rw[e2];exact⟨.int _,H,I.kept hk,⟨_,rfl⟩,q⟩
end
end L2
namespace Rk
open L2 _root_.Rd
def QAM(u:Nat):R2:=λx y H Q=>∃dx dy,Dat H x dx/\Dat H y dy/\u+min dx.depth dy.depth<cLine/\Q (.bl (!Q9 dx dy)) H
theorem Qw0{X:Cx}:OpR X (compareOp .NotEq) (QAM X.A.units):=Qw1
def QAS(u:Nat):R2:=λx y H Q=>∃dx dy,Dat H x dx/\Dat H y dy/\u+min dx.depth dy.depth<cLine/\Q (.bl (Q9 dx dy)) H
theorem Qw6{X:Cx}:OpR X (compareOp .Eq) (QAS X.A.units):=Qw7
theorem Qms{X:Cx}:OpR X (compareOp .NotIn) (Qzp X.A.in1.units true):=Qmt
end Rk
namespace Rx
open PySem.Calls L2
end Rx
namespace Rk
open L2 _root_.Rd
theorem Qm3{n k:Nat}(h:k<n):ixN n (k:Nat)=some k:=by
 unfold ixN;rw[if_pos (by omega),if_pos (by omega)];simp
end Rk
namespace HT
section
open PySem.SeqAt
open PySem.AutoSeq1 (wpAny_loadPart')
open PySem.MeetsSeq PySem.MeetsSeq2 PySem.MeetsSeq3
end
section
variable{prog:QC}{w:Jf}{A:Ja}{E:Value->Shared->Prop}{s:Shared}
end
end HT
namespace L2
def Qwk(K:PySem.W.Frag):V->Option Int->Option Int->Hp->VK->Prop:=λx lo hi H Q=>∃a xs,x=.ref a/\SqL K H a xs/\∀p H',Same H H'->H p=none->H' p=some (.lst (QjL xs lo hi))->Q (.ref p) H'
theorem QoC{X:Cx}:SlR X (Qwk X.K):=by
 intro pins s σ H x v vl vu lo hi sl Q I rx hs pl pu h;obtain⟨a,xs,e,hx,q⟩:=h;exact Qs0 pins s σ H x v vl vu lo hi sl Q I rx hs pl pu ⟨a,xs,e,hx,λp hp=>q p _ (JW hp) hp Jz⟩
theorem cut_last(xs:List V):(QjL xs (some (-1)) none).length<=1:=by
 unfold QjL;rw[YY,Qe5];have h2:xs.length - 1<=HT.sIx xs.length 0 (some (-1)):=by
  show xs.length - 1<=(if(-1:Int)<0 then((-1:Int)+(xs.length:Int)).toNat else min (-1:Int).toNat xs.length);rw[if_pos (by decide)];omega
 omega
end L2
namespace Rk
open L2 _root_.Rd
end Rk
namespace L2
section
variable{X:Cx}
def QlY(K:PySem.W.Frag):List V->Hp->VK->Prop:=λxs H Q=>∃p ys,xs=[.ref p]/\((SqL K H p ys/\∀l H',Same H H'->H l=none->H' l=some (.tup ys)->Q (.ref l) H')∨(SqT K H p ys/\Q (.ref p) H))
theorem Yd:CallR X (.type "tuple") (QlY X.K):=by
 intro pins s σ H xs us Q I r h;obtain⟨p,ys,e,h⟩:=h;refine QcM pins s σ H xs us Q I r ⟨p,ys,e,?_⟩;rcases h with⟨h1,h2⟩ | h
 ·exact .inl ⟨h1,λl hl=>h2 l _ (JW hl) hl Jz⟩
 ·exact .inr h
def Ql1(K:PySem.W.Frag):List V->Hp->VK->Prop:=λxs H Q=>∃p ys,xs=[.ref p]/\(SqL K H p ys∨SqT K H p ys)/\∀l H',Same H H'->H l=none->H' l=some (.lst ys)->Q (.ref l) H'
theorem Qav:CallR X (.type "list") (Ql1 X.K):=by
 intro pins s σ H xs us Q I r h;obtain⟨p,ys,e,h1,h2⟩:=h;exact QhB pins s σ H xs us Q I r ⟨p,ys,e,h1,λl hl=>h2 l _ (JW hl) hl Jz⟩
end
end L2
namespace Rk
open L2 _root_.Rd
def sumN:Nat->(Nat->Int)->Int
 |0,_=>0
 |n+1,f=>sumN n f+f n
theorem Z0{n:Nat}{f g:Nat->Int}(h:∀i,i<n->f i=g i):sumN n f=sumN n g:=by
 induction n with
 |zero=>rfl
 |succ n ih=>rw[sumN,sumN,ih λi hi=>h i (by omega),h n (by omega)]
end Rk
namespace L2
section
variable{X:Cx}
end
section
variable{X:Cx}
end
end L2
namespace Rk
open L2 _root_.Rd
end Rk
namespace Rx
open PySem.Calls L2
section
variable{X:Cx}{e:Q1}{st:ZY}{pos:Pos}{te:TX}{t u:TSX}{tc:TT}{c:Q1}{a b:List ZY}
end
section
variable{X:Cx}{R:Addr}{i:Nat}{n r:Str}{body:List ZY}{hx:Q1}{tb:TSX}{th:TE}{np hp hpos pos:Pos}
end
end Rx
namespace L2
section
variable{X:Cx}
end
end L2
namespace Rk
open L2 _root_.Rd
def isLV(H:Hp):V->Bool
 |.ref a=>match H a with
  |some (.lst _)=>true
  |_=>false
 |_=>false
end Rk
namespace Dl
open L2 _root_.Rd Rk
def dkV(kvs:List (Int×Int)):List (Key×V):=kvs.map λp=>(Qcw p.1,V.int p.2)
def dkD(kvs:List (Int×Int)):List (PyData×PyData):=kvs.map λp=>(Qg p.1,Qg p.2)
mutual
inductive DA (A:Addr->Prop) (H:Hp):V->PyData->Prop
 |non:DA A H .non .none
 |bl (b:Bool):DA A H (.bl b) (.bool b)
 |int (i:Int):DA A H (.int i) (.int i)
 |str (x:Str):QgC (.str x)=true->DA A H (.str x) (.str x)
 |tup {a:Addr} {xs:List V} {ds:List PyData}:¬A a->H a=some (.tup xs)->DAs A H xs ds->DA A H (.ref a) (.tuple ds)
 |lst {a:Addr} {xs:List V} {ds:List PyData}:¬A a->H a=some (.lst xs)->DAs A H xs ds->DA A H (.ref a) (.list ds)
 |dct {a:Addr} {kvs:List (Int×Int)} {ds:List (PyData×PyData)}:¬A a->H a=some (.dK (dkV kvs))->ds=dkD kvs->DA A H (.ref a) (.dict ds)
inductive DAs (A:Addr->Prop) (H:Hp):List V->List PyData->Prop
 |nil:DAs A H [] []
 |cons {x:V} {xs:List V} {d:PyData} {ds:List PyData}:DA A H x d->DAs A H xs ds->DAs A H (x::xs) (d::ds)
end
mutual
theorem QxH{A A':Addr->Prop}{H H':Hp}(k:∀a o,¬A a->H a=some o->H' a=some o)(m:∀a,A' a->A a∨H a=none):∀(d:PyData)(x:V),DA A H x d->DA A' H' x d
 |.none,_,.non=>.non
 |.bool _,_,.bl _=>.bl _
 |.int _,_,.int _=>.int _
 |.str _,_,.str _ c=>.str _ c
 |.tuple ds,_,.tup (xs:=xs) n e q=>.tup (λz=>(m _ z).elim n λz=>by rw[z] at e;cases e) (k _ _ n e) (QjJ k m ds xs q)
 |.list ds,_,.lst (xs:=xs) n e q=>.lst (λz=>(m _ z).elim n λz=>by rw[z] at e;cases e) (k _ _ n e) (QjJ k m ds xs q)
 |.dict _,_,.dct n e q=>.dct (λz=>(m _ z).elim n λz=>by rw[z] at e;cases e) (k _ _ n e) q
theorem QjJ{A A':Addr->Prop}{H H':Hp}(k:∀a o,¬A a->H a=some o->H' a=some o)(m:∀a,A' a->A a∨H a=none):∀(ds:List PyData)(xs:List V),DAs A H xs ds->DAs A' H' xs ds
 |[],_,.nil=>.nil
 |d::ds,_,.cons (x:=x) (xs:=xs) q qs=>.cons (QxH k m d x q) (QjJ k m ds xs qs)
end
theorem DA.mv{A A':Addr->Prop}{H H':Hp}{x:V}{d:PyData}(q:DA A H x d)(k:∀a o,¬A a->H a=some o->H' a=some o)(m:∀a,A' a->A a∨H a=none):DA A' H' x d:=QxH k m d x q
theorem DAs.mv{A A':Addr->Prop}{H H':Hp}{x:List V}{d:List PyData}(q:DAs A H x d)(k:∀a o,¬A a->H a=some o->H' a=some o)(m:∀a,A' a->A a∨H a=none):DAs A' H' x d:=QjJ k m d x q
theorem DA.same{A:Addr->Prop}{H H':Hp}{x:V}{d:PyData}(q:DA A H x d)(s:Same H H'):DA A H' x d:=q.mv (λa o _ e=>s a o e) λa z=>.inl z
theorem DAs.same{A:Addr->Prop}{H H':Hp}{x:List V}{d:List PyData}(q:DAs A H x d)(s:Same H H'):DAs A H' x d:=q.mv (λa o _ e=>s a o e) λa z=>.inl z
theorem DAs.length{A:Addr->Prop}{H:Hp}:∀{xs:List V}{ds:List PyData},DAs A H xs ds->xs.length=ds.length
 |_,_,.nil=>rfl
 |_,_,.cons _ q=>by rw[QF,QF,q.length]
theorem DAs.get{A:Addr->Prop}{H:Hp}:∀{xs:List V}{ds:List PyData},DAs A H xs ds->∀(i:Nat)(d:PyData),ds[i]? = some d->∃x,xs[i]? = some x/\DA A H x d
 |_,_,.nil,i,x,e=>by simp at e
 |_,_,.cons q qs,0,x,e=>by simp at e;subst e;exact⟨_,rfl,q⟩
 |_,_,.cons q qs,i+1,x,e=>qs.get i x (by simpa using e)
theorem DAs.app{A:Addr->Prop}{H:Hp}:∀{xs ys:List V}{ds es:List PyData},DAs A H xs ds->DAs A H ys es->DAs A H (xs++ys) (ds++es)
 |_,_,_,_,.nil,q=>q
 |_,_,_,_,.cons a b,q=>.cons a (b.app q)
theorem DAs.take{A:Addr->Prop}{H:Hp}:∀{xs:List V}{ds:List PyData},DAs A H xs ds->∀n:Nat,DAs A H (xs.take n) (ds.take n)
 |_,_,.nil,n=>by rw[Qyk,Qyk];exact .nil
 |_,_,.cons a b,0=>.nil
 |_,_,.cons a b,n+1=>.cons a (b.take n)
theorem DAs.drop{A:Addr->Prop}{H:Hp}:∀{xs:List V}{ds:List PyData},DAs A H xs ds->∀n:Nat,DAs A H (xs.drop n) (ds.drop n)
 |_,_,.nil,n=>by rw[Qym,Qym];exact .nil
 |_,_,.cons a b,0=>.cons a b
 |_,_,.cons a b,n+1=>b.drop n
theorem DAs.set{A:Addr->Prop}{H:Hp}{x:V}{d:PyData}(q:DA A H x d):∀{xs:List V}{ds:List PyData},DAs A H xs ds->∀n:Nat,DAs A H (xs.set n x) (ds.set n d)
 |_,_,.nil,n=>.nil
 |_,_,.cons a b,0=>.cons q b
 |_,_,.cons a b,n+1=>.cons a (b.set q n)
mutual
def nd:PyData->Bool
 |.dict _=>false
 |.tuple ds=>nds ds
 |.list ds=>nds ds
 |_=>true
def nds:List PyData->Bool
 |[]=>true
 |d::ds=>nd d&&nds ds
end
mutual
theorem Qsg{A:Addr->Prop}{H:Hp}:∀(d:PyData)(x:V),nd d=true->DA A H x d->Dat H x d
 |.none,_,_,.non=>.non
 |.bool _,_,_,.bl _=>.bl _
 |.int _,_,_,.int _=>.int _
 |.str _,_,_,.str _ c=>.str _ c
 |.tuple ds,_,n,.tup (xs:=xs) _ e q=>.tup e (QaO ds xs n q)
 |.list ds,_,n,.lst (xs:=xs) _ e q=>.lst e (QaO ds xs n q)
theorem QaO{A:Addr->Prop}{H:Hp}:∀(ds:List PyData)(xs:List V),nds ds=true->DAs A H xs ds->Dats H xs ds
 |[],_,_,.nil=>.nil
 |d::ds,_,n,.cons (x:=x) (xs:=xs) q qs=>by
  have n':=JG.mp (show(nd d&&nds ds)=true from n);exact .cons (Qsg d x n'.1 q) (QaO ds xs n'.2 qs)
end
theorem QmO{ds:List PyData}:nds ds=true↔∀d∈ds,nd d=true:=by
 induction ds with
 |nil=>exact⟨(λ_ _ h=>nomatch h),λ_=>rfl⟩
 |cons d ds ih=>
  rw[show nds (d::ds)=(nd d&&nds ds) from rfl,JG,ih];constructor
  ·rintro⟨a,b⟩ e he;rcases Qy.mp he with z | z
   ·rw[z];exact a
   ·exact b e z
  ·intro h;exact⟨h d (by simp),λe he=>h e (by simp[he])⟩
def DP(A P:Addr->Prop)(H:Hp)(v:V)(d:PyData):Prop:=DA A H v d∨∃l xs ds,v=.ref l/\d=.list ds/\¬P l/\H l=some (.lst xs)/\DAs A H xs ds
theorem DP.dat{A P:Addr->Prop}{H:Hp}{v:V}{d:PyData}(h:DP A P H v d)(n:nd d=true):Dat H v d:=by
 rcases h with h | ⟨l,xs,ds,rfl,rfl,_,e,q⟩
 ·exact Qsg d v n h
 ·exact .lst e (QaO ds xs n q)
theorem DP.list{A P:Addr->Prop}{H:Hp}{v:V}{ds:List PyData}(h:DP A P H v (.list ds)):∃l xs,v=.ref l/\H l=some (.lst xs)/\DAs A H xs ds:=by
 rcases h with h | ⟨l,xs,ds',rfl,e,_,h2,q⟩
 ·cases h with | lst n e q=>exact⟨_,_,rfl,e,q⟩
 ·cases e;exact⟨l,xs,rfl,h2,q⟩
theorem DP.tuple{A P:Addr->Prop}{H:Hp}{v:V}{ds:List PyData}(h:DP A P H v (.tuple ds)):∃l xs,v=.ref l/\H l=some (.tup xs)/\DAs A H xs ds:=by
 rcases h with h | ⟨l,xs,ds',rfl,e,_⟩
 ·cases h with | tup n e q=>exact⟨_,_,rfl,e,q⟩
 ·cases e
theorem DP.int{A P:Addr->Prop}{H:Hp}{v:V}{i:Int}(h:DP A P H v (.int i)):v=.int i:=by
 rcases h with h | ⟨l,xs,ds',rfl,e,_⟩
 ·cases h;rfl
 ·cases e
theorem DP.bool{A P:Addr->Prop}{H:Hp}{v:V}{i:Bool}(h:DP A P H v (.bool i)):v=.bl i:=by
 rcases h with h | ⟨l,xs,ds',rfl,e,_⟩
 ·cases h;rfl
 ·cases e
theorem DP.none{A P:Addr->Prop}{H:Hp}{v:V}(h:DP A P H v .none):v=.non:=by
 rcases h with h | ⟨l,xs,ds',rfl,e,_⟩
 ·cases h;rfl
 ·cases e
theorem DP.str{A P:Addr->Prop}{H:Hp}{v:V}{x:Str}(h:DP A P H v (.str x)):v=.str x/\QgC (.str x)=true:=by
 rcases h with h | ⟨l,xs,ds',rfl,e,_⟩
 ·cases h with | str _ c=>exact⟨rfl,c⟩
 ·cases e
inductive Sl where
 |no | pot | scr
 |v (d:PyData)
 |own (ds:List PyData)
 |pk (ds:List PyData)
abbrev Sts:=List Sl
structure Fm where
 H0:Hp
 A0:Addr->Prop
 pt:Addr->Prop
def QBj(σ:L2.St)(δ:Sts)(i:Nat)(a:Addr):Prop:=σ[i]? = some (some (.ref a))/\(δ[i]? = some .pot∨∃ds,δ[i]? = some (.own ds))
def Av(F:Fm)(σ:L2.St)(δ:Sts)(a:Addr):Prop:=F.A0 a∨∃i,QBj σ δ i a
def Yh(σ:L2.St)(δ:Sts)(a:Addr):Prop:=∃i:Nat,σ[i]? = some (some (.ref a))/\δ[i]? = some .pot
def QBh(K:PySem.W.Frag)(F:Fm)(H:Hp)(A:Addr->Prop)(o:Option V):Sl->Prop
 |.no=>True
 |.v d=>∃v,o=some v/\DA A H v d
 |.own ds=>∃l xs,o=some (.ref l)/\H l=some (.lst xs)/\DAs A H xs ds/\F.H0 l=none
 |.pk ds=>∃l xs,o=some (.ref l)/\H l=some (.lst xs)/\DAs A H xs ds/\∃ys,F.H0 l=some (.lst ys)/\¬F.pt l
 |.pot=>∃p n,o=some (.ref p)/\H p=some (.lst [.int n])/\(F.pt p∨F.H0 p=none)
 |.scr=>∃a ns,o=some (.ref a)/\SqL K F.H0 a ((ns:List Int).map V.int)/\¬F.pt a/\ns.length<=63
structure Rel (K:PySem.W.Frag) (F:Fm) (σ:L2.St) (H:Hp) (δ:Sts):Prop where
 len:σ.length=δ.length
 dom:∀a,F.A0 a->∃xs,H a=some (.lst xs)
 dom0:∀a,F.A0 a->∃xs,F.H0 a=some (.lst xs)
 pt0:∀p,F.pt p->F.A0 p/\∃n,H p=some (.lst [.int n])
 kx:∀b o,¬F.pt b->F.H0 b=some o->H b=some o
 sl:∀(i:Nat) o x,σ[i]? = some o->δ[i]? = some x->QBh K F H (Av F σ δ) o x
 inj:∀(i j:Nat) a ds,δ[i]? = some (.own ds)->σ[i]? = some (some (.ref a))->QBj σ δ j a->i=j
def Kp(σ:L2.St)(δ:Sts)(H H':Hp):Prop:=(∀b o,¬Yh σ δ b->H b=some o->H' b=some o)/\∀b,Yh σ δ b->∃n,H' b=some (.lst [.int n])
def Stp(F:Fm)(σ:L2.St)(H:Hp)(δ:Sts)(σ':L2.St)(H':Hp)(δ':Sts):Prop:=(∀b o,¬Av F σ δ b->H b=some o->H' b=some o)/\∀b,Av F σ' δ' b->Av F σ δ b∨H b=none
def Ke(F:Fm)(H':Hp):Prop:=(∀b o,¬F.pt b->F.H0 b=some o->H' b=some o)/\∀p,F.pt p->∃n,H' p=some (.lst [.int n])
theorem Y5{F:Fm}{σ:L2.St}{δ:Sts}{a:Addr}(h:Yh σ δ a):Av F σ δ a:=let ⟨i,h1,h2⟩:=h;.inr ⟨i,h1,.inl h2⟩
theorem Rel.ke{K:PySem.W.Frag}{F:Fm}{σ:L2.St}{H:Hp}{δ:Sts}(r:Rel K F σ H δ):Ke F H:=⟨r.kx,λp hp=>(r.pt0 p hp).2⟩
theorem Rel.isl{K:PySem.W.Frag}{F:Fm}{σ:L2.St}{H:Hp}{δ:Sts}(r:Rel K F σ H δ){a:Addr}(h:Av F σ δ a):∃xs,H a=some (.lst xs):=by
 rcases h with h | ⟨i,h1,h2⟩
 ·exact r.dom a h
 ·rcases h2 with h2 | ⟨ds,h2⟩
  ·obtain⟨p,n,e,h,_⟩:=r.sl i _ _ h1 h2;cases e;exact⟨_,h⟩
  ·obtain⟨l,xs,e,h,_⟩:=r.sl i _ _ h1 h2;cases e;exact⟨_,h⟩
theorem Kp.refl{K:PySem.W.Frag}{F:Fm}{σ:L2.St}{H:Hp}{δ:Sts}(r:Rel K F σ H δ):Kp σ δ H H:=⟨λ_ _ _ e=>e,λb ⟨i,h1,h2⟩=>by
 obtain⟨p,n,e,h,_⟩:=r.sl i _ _ h1 h2;cases e;exact⟨n,h⟩⟩
theorem Kp.trans{σ:L2.St}{δ:Sts}{H H1 H2:Hp}(a:Kp σ δ H H1)(b:Kp σ δ H1 H2):Kp σ δ H H2:=⟨λc o n e=>b.1 c o n (a.1 c o n e),b.2⟩
theorem Kp.same{K:PySem.W.Frag}{F:Fm}{σ:L2.St}{H H':Hp}{δ:Sts}(r:Rel K F σ H δ)(s:Same H H'):Kp σ δ H H':=⟨λb o _ e=>s b o e,λb hb=>let ⟨n,h⟩:=(Kp.refl r).2 b hb;⟨n,s _ _ h⟩⟩
theorem Kp.da{F:Fm}{σ:L2.St}{H H':Hp}{δ:Sts}{v:V}{d:PyData}(k:Kp σ δ H H')(h:DA (Av F σ δ) H v d):DA (Av F σ δ) H' v d:=h.mv (λa o n e=>k.1 a o (λz=>n (Y5 z)) e) λa z=>.inl z
theorem Kp.das{F:Fm}{σ:L2.St}{H H':Hp}{δ:Sts}{v:List V}{d:List PyData}(k:Kp σ δ H H')(h:DAs (Av F σ δ) H v d):DAs (Av F σ δ) H' v d:=h.mv (λa o n e=>k.1 a o (λz=>n (Y5 z)) e) λa z=>.inl z
theorem Kp.dp{F:Fm}{σ:L2.St}{H H':Hp}{δ:Sts}{v:V}{d:PyData}(k:Kp σ δ H H')(h:DP (Av F σ δ) (Yh σ δ) H v d):DP (Av F σ δ) (Yh σ δ) H' v d:=by
 rcases h with h | ⟨l,xs,ds,e1,e2,n,e,q⟩
 ·exact .inl (k.da h)
 ·exact .inr ⟨l,xs,ds,e1,e2,n,k.1 _ _ n e,k.das q⟩
theorem Rel.own_pot{K:PySem.W.Frag}{F:Fm}{σ:L2.St}{H:Hp}{δ:Sts}(r:Rel K F σ H δ){i:Nat}{ds:List PyData}{l:Addr}(h:δ[i]? = some (.own ds))(e:σ[i]? = some (some (.ref l))):¬Yh σ δ l:=by
 rintro⟨j,h1,h2⟩;have:=r.inj i j l _ h e ⟨h1,.inl h2⟩;subst this;rw[h] at h2;cases h2
theorem Rel.pt_pot{K:PySem.W.Frag}{F:Fm}{σ:L2.St}{H H':Hp}{δ:Sts}(r:Rel K F σ H δ)(k:Kp σ δ H H'){p:Addr}(hp:F.pt p):∃n,H' p=some (.lst [.int n]):=by
 by_cases z:Yh σ δ p
 ·exact k.2 p z
 ·obtain⟨n,e⟩:=(r.pt0 p hp).2;exact⟨n,k.1 _ _ z e⟩
theorem Rel.kp{K:PySem.W.Frag}{F:Fm}{σ:L2.St}{H H':Hp}{δ:Sts}(r:Rel K F σ H δ)(k:Kp σ δ H H'):Rel K F σ H' δ where
 len:=r.len
 dom:=λa ha=>by
  by_cases z:Yh σ δ a
  ·exact⟨_,(k.2 a z).choose_spec⟩
  ·obtain⟨xs,e⟩:=r.dom a ha;exact⟨xs,k.1 _ _ z e⟩
 dom0:=r.dom0
 pt0:=λp hp=>⟨(r.pt0 p hp).1,r.pt_pot k hp⟩
 kx:=λb o n e=>by
  by_cases z:Yh σ δ b
  ·obtain⟨i,h1,h2⟩:=z;obtain⟨p,m,e1,h,q⟩:=r.sl i _ _ h1 h2;cases e1;rcases q with q | q
   ·exact absurd q n
   ·rw[q] at e;cases e
  ·exact k.1 _ _ z (r.kx b o n e)
 sl:=λi o x h1 h2=>by
  have h:=r.sl i o x h1 h2;cases x with
  |no=>trivial
  |v d=>obtain⟨v,e,q⟩:=h;exact⟨v,e,k.da q⟩
  |own ds=>obtain⟨l,xs,rfl,e,q,f⟩:=h;exact⟨l,xs,rfl,k.1 _ _ (r.own_pot h2 h1) e,k.das q,f⟩
  |pk ds=>
   obtain⟨l,xs,rfl,e,q,ys,f,f2⟩:=h;refine⟨l,xs,rfl,k.1 _ _ ?_ e,k.das q,ys,f,f2⟩;rintro⟨j,j1,j2⟩;obtain⟨p,m,e1,_,w⟩:=r.sl j _ _ j1 j2;cases e1;rcases w with w | w
   ·exact f2 w
   ·rw[w] at f;cases f
  |pot=>
   obtain⟨p,n,rfl,e,q⟩:=h;obtain⟨m,e'⟩:=k.2 p ⟨i,h1,h2⟩;exact⟨p,m,rfl,e',q⟩
  |scr=>exact h
 inj:=r.inj
theorem Rel.same{K:PySem.W.Frag}{F:Fm}{σ:L2.St}{H H':Hp}{δ:Sts}(r:Rel K F σ H δ)(s:Same H H'):Rel K F σ H' δ:=r.kp (Kp.same r s)
theorem Stp.refl{F:Fm}{σ:L2.St}{H:Hp}{δ:Sts}:Stp F σ H δ σ H δ:=⟨λ_ _ _ e=>e,λ_ z=>.inl z⟩
theorem Stp.trans{F:Fm}{σ σ1 σ2:L2.St}{H H1 H2:Hp}{δ δ1 δ2:Sts}(a:Stp F σ H δ σ1 H1 δ1)(b:Stp F σ1 H1 δ1 σ2 H2 δ2):Stp F σ H δ σ2 H2 δ2:=by
 refine⟨λc o n e=>?_,λc z=>?_⟩
 ·refine b.1 c o (λz=>?_) (a.1 c o n e);rcases a.2 c z with q | q
  ·exact n q
  ·rw[q] at e;cases e
 ·rcases b.2 c z with q | q
  ·exact a.2 c q
  ·by_cases y:Av F σ δ c
   ·exact .inl y
   ·right
    cases e:H c with
    |none=>rfl
    |some o=>rw[a.1 c o y e] at q;cases q
theorem Stp.kp{F:Fm}{σ:L2.St}{H H':Hp}{δ:Sts}(k:Kp σ δ H H'):Stp F σ H δ σ H' δ:=⟨λb o n e=>k.1 b o (λz=>n (Y5 z)) e,λ_ z=>.inl z⟩
theorem Stp.da{F:Fm}{σ σ':L2.St}{H H':Hp}{δ δ':Sts}{v:V}{d:PyData}(k:Stp F σ H δ σ' H' δ')(h:DA (Av F σ δ) H v d):DA (Av F σ' δ') H' v d:=h.mv k.1 k.2
abbrev XP:=Addr->Prop
abbrev DE:=Sts->(PyData->Prop)->XP->Prop
abbrev DT:=Sts->(Bool->Prop)->XP->Prop
abbrev DAr:=Sts->(List PyData->Prop)->XP->Prop
abbrev DSl:=Sts->(List Sl->Prop)->XP->Prop
inductive Md where | D | P | F
def FrV(H H':Hp)(v:V):Prop:=∀l,v=.ref l->(∃xs,H' l=some (.lst xs))->H l=none
def Vok(m:Md)(F:Fm)(σ:L2.St)(δ:Sts)(H H':Hp)(v:V)(d:PyData):Prop:=
 match m with
 |.D=>DA (Av F σ δ) H' v d
 |.P=>DP (Av F σ δ) (Yh σ δ) H' v d
 |.F=>DA (Av F σ δ) H' v d/\FrV H H' v
def Out(F:Fm)(E:XK)(EX:XP):Prop:=∀C,EX C->∀H',Ke F H'->E (.ref C) none H'
def tX(m:Md)(K:PySem.W.Frag)(E:XK)(w:DE):TE:=λσ H Q=>∃(F:Fm)(δ:Sts)(R:PyData->Prop)(EX:XP),Rel K F σ H δ/\w δ R EX/\(∀d,R d->∀v H',Rel K F σ H' δ->Kp σ δ H H'->Vok m F σ δ H H' v d->Q v H')/\Out F E EX
def tT(K:PySem.W.Frag)(E:XK)(w:DT):TT:=λσ H Q=>∃(F:Fm)(δ:Sts)(R:Bool->Prop)(EX:XP),Rel K F σ H δ/\w δ R EX/\(∀b,R b->∀H',Rel K F σ H' δ->Kp σ δ H H'->Q b H')/\Out F E EX
def VD(m:Md)(A P:Addr->Prop)(H:Hp)(v:V)(d:PyData):Prop:=
 match m with
 |.P=>DP A P H v d
 |_=>DA A H v d
def tAr(n:Nat)(m:Md)(K:PySem.W.Frag)(E:XK)(w:DAr):TA:=λσ H Q=>∃(F:Fm)(δ:Sts)(R:List PyData->Prop)(EX:XP),Rel K F σ H δ/\w δ R EX/\(∀ds,R ds->ds.length=n->∀vs H',Rel K F σ H' δ->Kp σ δ H H'->Qa9 (VD m (Av F σ δ) (Yh σ δ) H') vs ds->Q vs H')/\Out F E EX
def QkS(A pt:Addr->Prop)(H:Hp)(v:V):Sl->Prop
 |.v d=>DA A H v d
 |.pot=>∃p,v=.ref p/\pt p
 |_=>False
def tAs(K:PySem.W.Frag)(E:XK)(w:DSl):TA:=λσ H Q=>∃(F:Fm)(δ:Sts)(R:List Sl->Prop)(EX:XP),Rel K F σ H δ/\w δ R EX/\(∀ds,R ds->∀vs H',Rel K F σ H' δ->Kp σ δ H H'->Qa9 (QkS (Av F σ δ) (Yh σ δ) H') vs ds->Q vs H')/\Out F E EX
theorem Kp.vd{m:Md}{F:Fm}{σ:L2.St}{H H':Hp}{δ:Sts}{v:V}{d:PyData}(k:Kp σ δ H H')(h:VD m (Av F σ δ) (Yh σ δ) H v d):VD m (Av F σ δ) (Yh σ δ) H' v d:=by
 cases m
 ·exact k.da h
 ·exact k.dp h
 ·exact k.da h
theorem Kp.arg{F:Fm}{σ:L2.St}{H H':Hp}{δ:Sts}{v:V}{d:Sl}(k:Kp σ δ H H')(h:QkS (Av F σ δ) (Yh σ δ) H v d):QkS (Av F σ δ) (Yh σ δ) H' v d:=by
 cases d with
 |v d=>exact k.da h
 |pot=>exact h
 |_=>exact h.elim
def Qcp(H:Hp):Prop:=∀a xs,H a=some (.lst xs)∨H a=some (.tup xs)->xs.length<=sizeLine
section
variable{X:Cx}{E:XK}
theorem Inv.lens{pins:List (Addr×Obj)}{σ:L2.St}{H:Hp}{s:Shared}(I:Inv X pins σ H s):Qcp H:=λa xs h=>by
 rcases h with h | h
 ·exact(I.hok a _ h).1
 ·exact(I.hok a _ h).1
theorem PE.imp{e:Q1}{t t':TE}(h:PE X e t)(i:∀σ H Q,t' σ H Q->t σ H Q):PE X e t':=λpins s σ H Q I q=>h pins s σ H Q I (i σ H Q q)
theorem PT.imp{e:Q1}{t t':TT}(h:PT X e t)(i:∀σ H Q,t' σ H Q->t σ H Q):PT X e t':=λpins s σ H Q I q=>h pins s σ H Q I (i σ H Q q)
theorem PW.imp{e:Q1}{t t':TT}(h:PW X e t)(i:∀σ H Q,t' σ H Q->t σ H Q):PW X e t':=λwh pins s σ H Q I q=>h wh pins s σ H Q I (i σ H Q q)
theorem PA.imp{e:List Q1}{t t':TA}(h:PA X e t)(i:∀σ H Q,t' σ H Q->t σ H Q):PA X e t':=λpos pins s σ H Q I q=>h pos pins s σ H Q I (i σ H Q q)
theorem OpR.len{f:Value->Value->Sem Value}{r:R2}(h:OpR X f r):OpR X f (λx y H Q=>Qcp H->r x y H Q):=λpins s σ H x y v u Q I rx ry q=>h pins s σ H x y v u Q I rx ry (q (Inv.lens I))
theorem CallR.len{f:Value}{r:List V->Hp->VK->Prop}(h:CallR X f r):CallR X f (λxs H Q=>Qcp H->r xs H Q):=λpins s σ H xs us Q I rx q=>h pins s σ H xs us Q I rx (q (Inv.lens I))
theorem IxR.len{r:R2}(h:IxR X r):IxR X (λx y H Q=>Qcp H->r x y H Q):=λa b pins s σ H x y v u Q I rx ry q hs=>h a b pins s σ H x y v u Q I rx ry (q (Inv.lens I)) hs
theorem OpR.or2{f:Value->Value->Sem Value}{r r':R2}(h:OpR X f r)(h':OpR X f r'):OpR X f (λx y H Q=>r x y H Q∨r' x y H Q):=OpR.or h h'
theorem IxR.or2{r r':R2}(h:IxR X r)(h':IxR X r'):IxR X (λx y H Q=>r x y H Q∨r' x y H Q):=λa b pins s σ H x y v u Q I rx ry q hs=>q.elim (λq=>h a b pins s σ H x y v u Q I rx ry q hs) λq=>h' a b pins s σ H x y v u Q I rx ry q hs
theorem SlR.or2{r r':V->Option Int->Option Int->Hp->VK->Prop}(h:SlR X r)(h':SlR X r'):SlR X (λx a b H Q=>r x a b H Q∨r' x a b H Q):=λpins s σ H x v vl vu lo hi sl Q I rx hs pl pu q=>q.elim (h pins s σ H x v vl vu lo hi sl Q I rx hs pl pu) (h' pins s σ H x v vl vu lo hi sl Q I rx hs pl pu)
theorem toD{e:Q1}{w:DE}(h:PE X e (tX .F X.K E w)):PE X e (tX .D X.K E w):=PE.imp h λσ H Q ⟨F,δ,R,EX,r,hw,k,o⟩=>⟨F,δ,R,EX,r,hw,λd hd v H' r' kp vk=>k d hd v H' r' kp vk.1,o⟩
theorem toP{e:Q1}{w:DE}(h:PE X e (tX .D X.K E w)):PE X e (tX .P X.K E w):=PE.imp h λσ H Q ⟨F,δ,R,EX,r,hw,k,o⟩=>⟨F,δ,R,EX,r,hw,λd hd v H' r' kp vk=>k d hd v H' r' kp (.inl vk),o⟩
theorem QBo{e:Q1}{w:DE}(h:PE X e (tX .F X.K E w)):PE X e (tX .P X.K E w):=toP (toD h)
def QxI(i:Nat):DE:=λδ Q _=>match δ[i]? with
 |some (.v d)=>Q d
 |_=>False
def dPk(i:Nat):DE:=λδ Q _=>match δ[i]? with
 |some (.v d)=>Q d
 |some (.own ds)=>Q (.list ds)
 |some (.pk ds)=>Q (.list ds)
 |_=>False
def dC(d:PyData):DE:=λ_ Q _=>Q d
theorem Rel.lt{K:PySem.W.Frag}{F:Fm}{σ:L2.St}{H:Hp}{δ:Sts}(r:Rel K F σ H δ){i:Nat}{x:Sl}(h:δ[i]? = some x):∃o,σ[i]? = some o:=by
 have:=(QU.mp h).1;exact⟨σ[i]'(by rw[r.len];exact this),Qe _⟩
theorem QwK{e:Q1}{i:Nat}(h:PE X e (Qh9 i)):PE X e (tX .D X.K E (QxI i)):=PE.imp h λσ H Q ⟨F,δ,R,EX,r,hw,k,o⟩=>by
 unfold QxI at hw;split at hw
 ·rename_i d hd
  obtain⟨x,hx⟩:=r.lt hd;obtain⟨v,rfl,q⟩:=r.sl i _ _ hx hd;exact⟨v,hx,k d hw v H r (Kp.refl r) q⟩
 ·exact hw.elim
theorem QzD{e:Q1}{i:Nat}(h:PE X e (Qh9 i)):PE X e (tX .P X.K E (dPk i)):=PE.imp h λσ H Q ⟨F,δ,R,EX,r,hw,k,o⟩=>by
 unfold dPk at hw;split at hw
 ·rename_i d hd
  obtain⟨x,hx⟩:=r.lt hd;obtain⟨v,rfl,q⟩:=r.sl i _ _ hx hd;exact⟨v,hx,k d hw v H r (Kp.refl r) (.inl q)⟩
 ·rename_i d hd
  obtain⟨x,hx⟩:=r.lt hd;obtain⟨l,xs,rfl,e,q,_⟩:=r.sl i _ _ hx hd;exact⟨_,hx,k _ hw _ H r (Kp.refl r) (.inr ⟨l,xs,d,rfl,rfl,r.own_pot hd hx,e,q⟩)⟩
 ·rename_i d hd
  obtain⟨x,hx⟩:=r.lt hd;obtain⟨l,xs,rfl,e,q,ys,f,f2⟩:=r.sl i _ _ hx hd;refine⟨_,hx,k _ hw _ H r (Kp.refl r) (.inr ⟨l,xs,d,rfl,rfl,?_,e,q⟩)⟩;rintro⟨j,j1,j2⟩;obtain⟨p,m,e1,_,w⟩:=r.sl j _ _ j1 j2;cases e1;rcases w with w | w
  ·exact f2 w
  ·rw[w] at f;cases f
 ·exact hw.elim
theorem QzH{e:Q1}{v:V}{d:PyData}(h:PE X e (tC v))(q:∀(A:Addr->Prop)(H:Hp),DA A H v d):PE X e (tX .D X.K E (dC d)):=PE.imp h λσ H Q ⟨F,δ,R,EX,r,hw,k,o⟩=>k d hw v H r (Kp.refl r) (q _ _)
theorem QwQ{i:Int}{j pos}:PE X (.Constant (.int i) j pos) (tX .D X.K E (dC (.int i))):=QzH YE λ_ _=>.int i
theorem QzI{b:Bool}{j pos}:PE X (.Constant (.bool b) j pos) (tX .D X.K E (dC (.bool b))):=QzH QzB λ_ _=>.bl b
def OpD(r:R2)(rD:PyData->PyData->(PyData->Prop)->Prop):Prop:=∀(A P:Addr->Prop)(H:Hp)(x y:V)(d1 d2:PyData)(R:PyData->Prop)(Q:VK),Qcp H->(∀a,A a->∃xs,H a=some (.lst xs))->DP A P H x d1->DP A P H y d2->rD d1 d2 R ->
 (∀d,R d->∀v H',Same H H'->DA A H' v d->FrV H H' v->Q v H')->r x y H Q
def Qrn(r:R2)(rD:PyData->PyData->(PyData->Prop)->Prop):Prop:=∀(A P:Addr->Prop)(H:Hp)(x y:V)(d1 d2:PyData)(R:PyData->Prop)(Q:VK),Qcp H->(∀a,A a->∃xs,H a=some (.lst xs))->DP A P H x d1->DP A P H y d2->rD d1 d2 R ->
 (∀d,R d->∀v H',Same H H'->DA A H' v d->Q v H')->r x y H Q
def dOp(rD:PyData->PyData->(PyData->Prop)->Prop)(wa wb:DE):DE:=λδ Q EX=>wa δ (λd1=>wb δ (λd2=>rD d1 d2 Q) EX) EX
theorem Qis{K:PySem.W.Frag}{r:R2}{rD:PyData->PyData->(PyData->Prop)->Prop}{wa wb:DE}(hd:OpD r rD)(σ:L2.St)(H:Hp)(Q:VK)(h:tX .F K E (dOp rD wa wb) σ H Q) :
  tOp (λx y H Q=>Qcp H->r x y H Q) (tX .P K E wa) (tX .P K E wb) σ H Q:=by
 obtain⟨F,δ,R,EX,rel,hw,k,o⟩:=h;refine⟨F,δ,_,EX,rel,hw,λd1 h1 x H1 rel1 kp1 x1=>⟨F,δ,_,EX,rel1,h1,λd2 h2 y H2 rel2 kp2 y2=>λln=>?_,o⟩,o⟩;refine hd (Av F σ δ) (Yh σ δ) H2 x y d1 d2 R Q ln (λa ha=>rel2.isl ha) (kp2.dp x1) y2 h2 λd hR v H' s q f=>?_
 refine k d hR v H' (rel2.same s) ((kp1.trans kp2).trans (Kp.same rel2 s)) ⟨q,λl e1 e2=>?_⟩;have f2:=f l e1 e2;cases e:H l with
 |none=>rfl
 |some ob=>
  by_cases z:Yh σ δ l
  ·obtain⟨n,en⟩:=kp2.2 l z;rw[en] at f2;cases f2
  ·rw[(kp1.trans kp2).1 _ _ z e] at f2;cases f2
theorem Qpu{K:PySem.W.Frag}{r:R2}{rD:PyData->PyData->(PyData->Prop)->Prop}{wa wb:DE}(hd:Qrn r rD)(σ:L2.St)(H:Hp)(Q:VK)(h:tX .D K E (dOp rD wa wb) σ H Q) :
  tOp (λx y H Q=>Qcp H->r x y H Q) (tX .P K E wa) (tX .P K E wb) σ H Q:=by
 obtain⟨F,δ,R,EX,rel,hw,k,o⟩:=h;refine⟨F,δ,_,EX,rel,hw,λd1 h1 x H1 rel1 kp1 x1=>⟨F,δ,_,EX,rel1,h1,λd2 h2 y H2 rel2 kp2 y2=>λln=>?_,o⟩,o⟩;refine hd (Av F σ δ) (Yh σ δ) H2 x y d1 d2 R Q ln (λa ha=>rel2.isl ha) (kp2.dp x1) y2 h2 λd hR v H' s q=>?_
 exact k d hR v H' (rel2.same s) ((kp1.trans kp2).trans (Kp.same rel2 s)) q
variable{a b:Q1}{wa wb:DE}{pos:Pos}{r:R2}{rD:PyData->PyData->(PyData->Prop)->Prop}
theorem QwT{op:Qcx}(ho:OpR X (binaryOp op) r)(hd:OpD r rD)(ha:PE X a (tX .P X.K E wa))(hb:PE X b (tX .P X.K E wb)):PE X (.BinOp a op b pos) (tX .F X.K E (dOp rD wa wb)):=PE.imp (Qbd (OpR.len ho) ha hb) (Qis hd)
theorem QwS{op:QsF}(ho:OpR X (compareOp op) r)(hd:OpD r rD)(ha:PE X a (tX .P X.K E wa))(hb:PE X b (tX .P X.K E wb))(hm:behindInMarks op b=false):PE X (.Compare a [op] [b] pos) (tX .F X.K E (dOp rD wa wb)):=PE.imp (Qtx (OpR.len ho) ha hb hm) (Qis hd)
theorem QzF{r:R2}{rD:PyData->PyData->(PyData->Prop)->Prop}(ho:IxR X r)(hd:Qrn r rD)(ha:PE X a (tX .P X.K E wa))(hb:PE X b (tX .P X.K E wb))(hs:QiW b):PE X (.Subscript a b pos) (tX .D X.K E (dOp rD wa wb)):=PE.imp (Qmh (IxR.len ho) ha hb hs) (Qpu hd)
def dTst(w:DE):DT:=λδ Q EX=>w δ (λd=>match d with
 |.bool k=>Q k
 |_=>False) EX
theorem QtE{op:QsF}(ho:OpR X (compareOp op) r)(hd:OpD r rD)(ha:PE X a (tX .P X.K E wa))(hb:PE X b (tX .P X.K E wb))(hm:behindInMarks op b=false):PT X (.Compare a [op] [b] pos) (tT X.K E (dTst (dOp rD wa wb))):=by
 refine PT.imp (QfX (OpR.len ho) ha hb hm) λσ H Q ⟨F,δ,R,EX,rel,hw,k,o⟩=>?_
 refine Qis hd σ H (λx H'=>∃k,x=.bl k/\Q k H') ⟨F,δ,_,EX,rel,hw,λd hd2 v H' rel' kp vk=>?_,o⟩;split at hd2
 ·rename_i b
  have:v=.bl b:=by cases vk.1;rfl
  exact⟨b,this,k b hd2 H' rel' kp⟩
 ·exact hd2.elim
def tru:PyData->Bool
 |.none=>false
 |.bool b=>b
 |.int i=>i != 0
 |.str y=>(y.length:Int) != 0
 |.list ds => !ds.isEmpty
 |.tuple ds => !ds.isEmpty
 |.dict ds => !ds.isEmpty
def strOk:PyData->Prop
 |.str y=>y.length<=sizeLine
 |_=>True
def dTru(w:DE):DT:=λδ Q EX=>w δ (λd=>strOk d/\Q (tru d)) EX
theorem QvU{K:PySem.W.Frag}{A P:Addr->Prop}{H:Hp}{v:V}{d:PyData}(h:DP A P H v d)(hs:strOk d):QAv K v H (tru d):=by
 have sq:∀{xs:List V}{ds:List PyData},DAs A H xs ds->(!ds.isEmpty) = !xs.isEmpty:=λq=>by cases q<;>rfl
 rcases h with h | ⟨l,xs,ds,rfl,rfl,_,e,q⟩
 ·cases h with
  |non=>rfl
  |bl b=>rfl
  |int i=>rfl
  |str x c=>exact⟨hs,rfl⟩
  |@tup a xs ds n e q=>exact .inr (.inl ⟨xs,SqT.of e,sq q⟩)
  |@lst a xs ds n e q=>exact .inl ⟨xs,SqL.of e,sq q⟩
  |@dct a kvs ds n e q=>subst q;exact .inr (.inr ⟨dkV kvs,e,by cases kvs<;>rfl⟩)
 ·exact .inl ⟨xs,SqL.of e,sq q⟩
theorem QtC{e:Q1}{w:DE}(h:PE X e (tX .P X.K E w))(he:∀whole,isTrue e X.env whole=(do let v <- whole;standAt e.pos;holding [v] (truthy v))):PT X e (tT X.K E (dTru w)):=by
 refine PT.imp (QoW h he) λσ H Q ⟨F,δ,R,EX,rel,hw,k,o⟩=>?_
 exact⟨F,δ,_,EX,rel,hw,λd ⟨hs,hq⟩ v H' rel' kp vk=>⟨tru d,QvU vk hs,k _ hq H' rel' kp⟩,o⟩
theorem QtB{e:Q1}{w:DE}(h:PE X e (tX .P X.K E w))(he:∀whole,isTrue e X.env whole=(do let v <- whole;standAt e.pos;holding [v] (truthy v)):=by intro _;rfl):PT X e (tT X.K E (dTst w)):=by
 refine PT.imp (Qwx h he) λσ H Q ⟨F,δ,R,EX,rel,hw,k,o⟩=>?_
 refine⟨F,δ,_,EX,rel,hw,λd hd v H' rel' kp vk=>?_,o⟩;split at hd
 ·exact⟨_,DP.bool vk,k _ hd H' rel' kp⟩
 ·exact hd.elim
def QBe(wa wb:DT):DT:=λδ Q EX=>wa δ (λc=>if c=true then wb δ Q EX else Q false) EX
def dOr(wa wb:DT):DT:=λδ Q EX=>wa δ (λc=>if c=true then Q true else wb δ Q EX) EX
def QA8(wa:DT):DT:=λδ Q EX=>wa δ (λc=>Q (!c)) EX
theorem Qcb{c:Prop}[Decidable c]{p q p' q':Prop}(h:if c then p else q)(h1:p->p')(h2:q->q'):if c then p' else q':=by
 split at h
 ·rw[if_pos (by assumption)];exact h1 h
 ·rw[if_neg (by assumption)];exact h2 h
variable{rest:List Q1}{ta tb:DT}
theorem Qo5(ha:PT X a (tT X.K E ta)):PW X (.BoolOp .And [a] pos) (tT X.K E ta):=Qtj ha
theorem Qtz(ha:PT X a (tT X.K E ta)):PW X (.BoolOp .Or [a] pos) (tT X.K E ta):=Qwv ha
theorem QtA(ha:PT X a (tT X.K E ta))(hb:PW X (.BoolOp .And (b::rest) pos) (tT X.K E tb)):PW X (.BoolOp .And (a::b::rest) pos) (tT X.K E (QBe ta tb)):=by
 refine PW.imp (Qww ha hb) λσ H Q ⟨F,δ,R,EX,rel,hw,k,o⟩=>?_
 refine⟨F,δ,_,EX,rel,hw,λc hc H' rel' kp=>?_,o⟩;exact Qcb hc (λz=>⟨F,δ,R,EX,rel',z,λc hc H2 rel2 kp2=>k c hc H2 rel2 (kp.trans kp2),o⟩) λz=>k _ z H' rel' kp
theorem QwI(ha:PT X a (tT X.K E ta))(hb:PW X (.BoolOp .Or (b::rest) pos) (tT X.K E tb)):PW X (.BoolOp .Or (a::b::rest) pos) (tT X.K E (dOr ta tb)):=by
 refine PW.imp (Qzv ha hb) λσ H Q ⟨F,δ,R,EX,rel,hw,k,o⟩=>?_
 refine⟨F,δ,_,EX,rel,hw,λc hc H' rel' kp=>?_,o⟩;exact Qcb hc (λz=>k _ z H' rel' kp) (λz=>⟨F,δ,R,EX,rel',z,λc hc H2 rel2 kp2=>k c hc H2 rel2 (kp.trans kp2),o⟩)
theorem QtD(ha:PT X a (tT X.K E ta)):PT X (.UnaryOp .Not a pos) (tT X.K E (QA8 ta)):=by
 refine PT.imp (Qwy ha) λσ H Q ⟨F,δ,R,EX,rel,hw,k,o⟩=>?_
 exact⟨F,δ,_,EX,rel,hw,λc hc H' rel' kp=>k _ hc H' rel' kp,o⟩
def QxR(wa wb:DE):DE:=λδ Q EX=>wa δ (λd=>match d with
 |.bool c=>if c=true then wb δ Q EX else Q (.bool false)
 |_=>False) EX
def QA7(wa wb:DE):DE:=λδ Q EX=>wa δ (λd=>match d with
 |.bool c=>if c=true then Q (.bool true) else wb δ Q EX
 |_=>False) EX
def QxN(wa:DE):DE:=λδ Q EX=>wa δ (λd=>match d with
 |.bool c=>Q (.bool (!c))
 |_=>False) EX
theorem QwM{op}{w:DE}(h:PE X a (tX .D X.K E w)):PE X (.BoolOp op [a] pos) (tX .D X.K E w):=QwD h
theorem QwU(ha:PE X a (tX .P X.K E wa))(hb:PE X (.BoolOp .And (b::rest) pos) (tX .D X.K E wb)):PE X (.BoolOp .And (a::b::rest) pos) (tX .D X.K E (QxR wa wb)):=by
 refine PE.imp (QwH ha hb) λσ H Q ⟨F,δ,R,EX,rel,hw,k,o⟩=>?_
 refine⟨F,δ,_,EX,rel,hw,λd hd v H' rel' kp vk=>?_,o⟩;split at hd
 ·exact⟨_,DP.bool vk,Qcb hd (λz=>⟨F,δ,R,EX,rel',z,λd hd v H2 rel2 kp2=>k d hd v H2 rel2 (kp.trans kp2),o⟩) λz=>k _ z _ H' rel' kp (.bl _)⟩
 ·exact hd.elim
theorem QzE(ha:PE X a (tX .P X.K E wa))(hb:PE X (.BoolOp .Or (b::rest) pos) (tX .D X.K E wb)):PE X (.BoolOp .Or (a::b::rest) pos) (tX .D X.K E (QA7 wa wb)):=by
 refine PE.imp (QzA ha hb) λσ H Q ⟨F,δ,R,EX,rel,hw,k,o⟩=>?_
 refine⟨F,δ,_,EX,rel,hw,λd hd v H' rel' kp vk=>?_,o⟩;split at hd
 ·exact⟨_,DP.bool vk,Qcb hd (λz=>k _ z _ H' rel' kp (.bl _)) (λz=>⟨F,δ,R,EX,rel',z,λd hd v H2 rel2 kp2=>k d hd v H2 rel2 (kp.trans kp2),o⟩)⟩
 ·exact hd.elim
theorem QwN(ha:PE X a (tX .P X.K E wa)):PE X (.UnaryOp .Not a pos) (tX .D X.K E (QxN wa)):=by
 refine PE.imp (QwE ha) λσ H Q ⟨F,δ,R,EX,rel,hw,k,o⟩=>?_
 refine⟨F,δ,_,EX,rel,hw,λd hd v H' rel' kp vk=>?_,o⟩;split at hd
 ·exact⟨_,DP.bool vk,k _ hd _ H' rel' kp (.bl _)⟩
 ·exact hd.elim
def QBb(t:DT)(wa wb:DE):DE:=λδ Q EX=>t δ (λc=>if c=true then wa δ Q EX else wb δ Q EX) EX
theorem QwR{c:Q1}(hc:PT X c (tT X.K E ta))(ha:PE X a (tX .D X.K E wa))(hb:PE X b (tX .D X.K E wb)):PE X (.IfExp c a b pos) (tX .D X.K E (QBb ta wa wb)):=by
 refine PE.imp (Qo3 hc ha hb) λσ H Q ⟨F,δ,R,EX,rel,hw,k,o⟩=>?_
 refine⟨F,δ,_,EX,rel,hw,λd hd H' rel' kp=>?_,o⟩;exact Qcb hd (λz=>⟨F,δ,R,EX,rel',z,λd hd v H2 rel2 kp2=>k d hd v H2 rel2 (kp.trans kp2),o⟩) (λz=>⟨F,δ,R,EX,rel',z,λd hd v H2 rel2 kp2=>k d hd v H2 rel2 (kp.trans kp2),o⟩)
end
theorem Qdy{A:Addr->Prop}{H H':Hp}{l:Addr}{xs:List V}{ds:List PyData}(dm:∀a,A a->∃xs,H a=some (.lst xs))(s:Same H H')(n:H l=none)(e:H' l=some (.lst xs))(q:DAs A H xs ds):DA A H' (.ref l) (.list ds):=
 .lst (λz=>by obtain⟨ys,e'⟩:=dm l z;rw[n] at e';cases e') e (q.same s)
theorem QgT{A:Addr->Prop}{H H':Hp}{l:Addr}{xs:List V}{ds:List PyData}(dm:∀a,A a->∃xs,H a=some (.lst xs))(s:Same H H')(e:H' l=some (.tup xs))(q:DAs A H xs ds):DA A H' (.ref l) (.tuple ds):=
 .tup (λz=>by obtain⟨ys,e'⟩:=dm l z;rw[s _ _ e'] at e;cases e) e (q.same s)
theorem QaD{H H':Hp}{l:Addr}(n:H l=none):FrV H H' (.ref l):=λl' e _=>by cases e;exact n
theorem Qez{H H':Hp}{l:Addr}{xs:List V}(e:H' l=some (.tup xs)):FrV H H' (.ref l):=λl' e1 ⟨ys,e2⟩=>by cases e1;rw[e] at e2;cases e2
theorem YI{H H':Hp}{i:Int}:FrV H H' (.int i):=λl' e _=>by cases e
theorem Qak{H H':Hp}{i:Bool}:FrV H H' (.bl i):=λl' e _=>by cases e
theorem QuK{H H':Hp}:FrV H H' .non:=λl' e _=>by cases e
theorem DAs.rep{A:Addr->Prop}{H:Hp}{xs:List V}{ds:List PyData}(q:DAs A H xs ds):∀k:Nat,DAs A H (QR k xs).flatten (QR k ds).flatten
 |0=>.nil
 |k+1=>by rw[Jq,Jq,Ju,Ju];exact q.app (DAs.rep q k)
def QBg:PyData->PyData->(PyData->Prop)->Prop
 |.int i,.int j,Q=>Q (.int (i+j))
 |.tuple a,.tuple b,Q=>a.length+b.length<=1000000/\Q (.tuple (a++b))
 |.list a,.list b,Q=>a.length+b.length<=1000000/\Q (.list (a++b))
 |_,_,_=>False
def iiD(C:Int->Int->Prop)(f:Int->Int->PyData):PyData->PyData->(PyData->Prop)->Prop
 |.int i,.int j,Q=>C i j/\Q (f i j)
 |_,_,_=>False
def ii0(f:Int->Int->PyData):PyData->PyData->(PyData->Prop)->Prop
 |.int i,.int j,Q=>Q (f i j)
 |_,_,_=>False
def QBG:PyData->PyData->(PyData->Prop)->Prop
 |.int i,.int j,Q=>(CMul i j∨CMulB i j)/\Q (.int (i*j))
 |.list a,.int k,Q=>(k<1000000 /\ -1000000<k/\a.length*k.toNat<=1000000)/\Q (.list (QR k.toNat a).flatten)
 |_,_,_=>False
theorem Qix:1000000<=sizeLine:=by show 1000000<=2^24;decide
section
variable{X:Cx}{E:XK}
theorem QmK{C:Int->Int->Prop}{g:Int->Int->Int}:OpD (rI C λi j=>.int (g i j)) (iiD C λi j=>.int (g i j)):=λA P H x y d1 d2 R Q ln dm hx hy h k=>by
 cases d1<;>cases d2<;>first | exact h.elim | skip
 rw[hx.int,hy.int];exact⟨_,_,rfl,rfl,h.1,k _ h.2 _ H (Same.refl H) (.int _) YI⟩
theorem Qdx{g:Int->Int->Int}:OpD (rI0 λi j=>.int (g i j)) (ii0 λi j=>.int (g i j)):=λA P H x y d1 d2 R Q ln dm hx hy h k=>by
 cases d1<;>cases d2<;>first | exact h.elim | skip
 rw[hx.int,hy.int];exact⟨_,_,rfl,rfl,k _ h _ H (Same.refl H) (.int _) YI⟩
theorem QbK{g:Int->Int->Bool}:OpD (rI0 λi j=>.bl (g i j)) (ii0 λi j=>.bool (g i j)):=λA P H x y d1 d2 R Q ln dm hx hy h k=>by
 cases d1<;>cases d2<;>first | exact h.elim | skip
 rw[hx.int,hy.int];exact⟨_,_,rfl,rfl,k _ h _ H (Same.refl H) (.bl _) Qak⟩
def rAdd:R2:=λx y H Q=>(rI0 (λi j=>.int (i+j)) x y H Q∨Qwq x y H Q)∨QAU x y H Q
theorem Zj:OpR X (binaryOp .Add) rAdd:=OpR.or2 (OpR.or2 Qfk Qt5) Qw8
theorem ZV:OpD rAdd QBg:=λA P H x y d1 d2 R Q ln dm hx hy h k=>by
 cases d1<;>cases d2<;>first | exact h.elim | skip
 ·rw[hx.int,hy.int];exact .inl (.inl ⟨_,_,rfl,rfl,k _ h _ H (Same.refl H) (.int _) YI⟩)
 ·obtain⟨l1,xs,rfl,e1,q1⟩:=hx.list;obtain⟨l2,ys,rfl,e2,q2⟩:=hy.list;refine .inr ⟨l1,l2,xs,ys,rfl,rfl,e1,e2,QX (by rw[q1.length,q2.length];exact h.1) Qix,λp hp=>?_⟩;exact k _ h.2 _ _ (JW hp) (Qdy dm (JW hp) hp Jz (q1.app q2)) (QaD hp)
 ·obtain⟨l1,xs,rfl,e1,q1⟩:=hx.tuple;obtain⟨l2,ys,rfl,e2,q2⟩:=hy.tuple;refine .inl (.inr ⟨l1,l2,xs,ys,rfl,rfl,e1,e2,QX (by rw[q1.length,q2.length];exact h.1) Qix,λp H' s e=>?_⟩);exact k _ h.2 _ _ s (QgT dm s e (q1.app q2)) (Qez e)
def Qwn:R2:=λx y H Q=>(rI CMul (λi j=>.int (i*j)) x y H Q∨rI CMulB (λi j=>.int (i*j)) x y H Q)∨QAK x y H Q
theorem Qeo:OpR X (binaryOp .Mult) Qwn:=OpR.or2 (OpR.or2 Qfj Qt0) QwZ
theorem Qhi:OpD Qwn QBG:=λA P H x y d1 d2 R Q ln dm hx hy h k=>by
 cases d1<;>cases d2<;>first | exact h.elim | skip
 ·rw[hx.int,hy.int];rcases h.1 with c | c
  ·exact .inl (.inl ⟨_,_,rfl,rfl,c,k _ h.2 _ H (Same.refl H) (.int _) YI⟩)
  ·exact .inl (.inr ⟨_,_,rfl,rfl,c,k _ h.2 _ H (Same.refl H) (.int _) YI⟩)
 ·obtain⟨l1,xs,rfl,e1,q1⟩:=hx.list;rw[hy.int];obtain⟨⟨h1,h2,h3⟩,h4⟩:=h;refine .inr ⟨l1,_,xs,rfl,rfl,e1,by omega,by omega,QX (by rw[q1.length];exact h3) Qix,λp hp=>?_⟩;exact k _ h4 _ _ (JW hp) (Qdy dm (JW hp) hp Jz (q1.rep _)) (QaD hp)
def eqD:PyData->PyData->(PyData->Prop)->Prop
 |.int i,.int j,Q=>Q (.bool (decide (i=j)))
 |.bool i,.bool j,Q=>Q (.bool (decide (i=j)))
 |.str i,.str j,Q=>Q (.bool (decide (i=j)))
 |a,b,Q=>(nd a=true/\nd b=true/\(a.depth<=50∨b.depth<=50))/\Q (.bool (Q9 a b))
def neD:PyData->PyData->(PyData->Prop)->Prop
 |.int i,.int j,Q=>Q (.bool (!decide (i=j)))
 |.bool i,.bool j,Q=>Q (.bool (!decide (i=j)))
 |.str i,.str j,Q=>Q (.bool (!decide (i=j)))
 |a,b,Q=>(nd a=true/\nd b=true/\(a.depth<=50∨b.depth<=50))/\Q (.bool (!Q9 a b))
theorem Qxi{a b:PyData}(h:a.depth<=50∨b.depth<=50):min a.depth b.depth<=50:=by rcases h with h | h<;>omega
def QAT(u:Nat):R2:=λx y H Q=>rEq x y H Q∨QAS u x y H Q
def QAN(u:Nat):R2:=λx y H Q=>rNe x y H Q∨QAM u x y H Q
theorem Qdw:OpR X (compareOp .Eq) (QAT X.A.units):=OpR.or2 QzN Qw6
theorem Qen:OpR X (compareOp .NotEq) (QAN X.A.units):=OpR.or2 QzM Qw0
theorem QxE{i j:Int}:decide (V.int i=V.int j)=decide (i=j):=by
 by_cases h:i=j
 ·subst h;simp
 ·rw[decide_eq_false h,decide_eq_false (λz=>h (V.int.inj z))]
theorem QxF{i j:Bool}:decide (V.bl i=V.bl j)=decide (i=j):=by
 by_cases h:i=j
 ·subst h;simp
 ·rw[decide_eq_false h,decide_eq_false (λz=>h (V.bl.inj z))]
theorem QxD{i j:Str}:decide (V.str i=V.str j)=decide (i=j):=by
 by_cases h:i=j
 ·subst h;simp
 ·rw[decide_eq_false h,decide_eq_false (λz=>h (V.str.inj z))]
theorem Qhj{u:Nat}(hu:u+60<cLine):OpD (QAT u) eqD:=λA P H x y d1 d2 R Q ln dm hx hy h k=>by
 unfold eqD at h;split at h
 ·rw[hx.int,hy.int];exact .inl ⟨rfl,k (.bool (decide (V.int _=V.int _))) (by rw[QxE];exact h) _ H (Same.refl H) (.bl _) Qak⟩
 ·rw[hx.bool,hy.bool];exact .inl ⟨rfl,k (.bool (decide (V.bl _=V.bl _))) (by rw[QxF];exact h) _ H (Same.refl H) (.bl _) Qak⟩
 ·rw[hx.str.1,hy.str.1];exact .inl ⟨rfl,k (.bool (decide (V.str _=V.str _))) (by rw[QxD];exact h) _ H (Same.refl H) (.bl _) Qak⟩
 ·obtain⟨⟨n1,n2,dp⟩,hR⟩:=h;have:=Qxi dp;exact .inr ⟨_,_,hx.dat n1,hy.dat n2,by omega,k _ hR _ H (Same.refl H) (.bl _) Qak⟩
theorem Qit{u:Nat}(hu:u+60<cLine):OpD (QAN u) neD:=λA P H x y d1 d2 R Q ln dm hx hy h k=>by
 unfold neD at h;split at h
 ·rw[hx.int,hy.int];exact .inl ⟨rfl,k (.bool (!decide (V.int _=V.int _))) (by rw[QxE];exact h) _ H (Same.refl H) (.bl _) Qak⟩
 ·rw[hx.bool,hy.bool];exact .inl ⟨rfl,k (.bool (!decide (V.bl _=V.bl _))) (by rw[QxF];exact h) _ H (Same.refl H) (.bl _) Qak⟩
 ·rw[hx.str.1,hy.str.1];exact .inl ⟨rfl,k (.bool (!decide (V.str _=V.str _))) (by rw[QxD];exact h) _ H (Same.refl H) (.bl _) Qak⟩
 ·obtain⟨⟨n1,n2,dp⟩,hR⟩:=h;have:=Qxi dp;exact .inr ⟨_,_,hx.dat n1,hy.dat n2,by omega,k _ hR _ H (Same.refl H) (.bl _) Qak⟩
def Qtc(u:Nat)(neg:Bool):R2:=λx y H Q=>∃c ps ds d,y=.ref c/\H c=some (.lst ps)/\Dats H ps ds/\Dat H x d/\u+d.depth<cLine/\Q (.bl (if neg then !(ds.any λe=>Q9 e d) else ds.any λe=>Q9 e d)) H
theorem Qt2:OpR X (compareOp .In) (Qtc X.A.in1.units false):=by
 intro pins s σ H x y v u Q I rx ry h;obtain⟨c,ps,ds,d,rfl,hc,qs,qx,hu,q⟩:=h;cases ry;obtain⟨⟨as,ra⟩,ca⟩:=Ym I.hok d x v qx rx;obtain⟨its,rv,pl,hz⟩:=I.list (SqL.of hc);obtain⟨⟨bs,rb⟩,cb⟩:=Y9 I.hok ds ps its qs rv;refine SeqAt.in_listAt (eqH s.heap d) pl.isList (λw hw=>Qeq ra ca rb cb hu w (Qb5.mp hw)) ⟨.bl _,H,I,rfl,?_⟩;rw[show its.toArray.any (eqH s.heap d)=its.any (eqH s.heap d) by simp,QeK rb cb];exact q
theorem Qkq:OpR X (compareOp .NotIn) (Qtc X.A.in1.units true):=by
 intro pins s σ H x y v u Q I rx ry h;obtain⟨c,ps,ds,d,rfl,hc,qs,qx,hu,q⟩:=h;cases ry;obtain⟨⟨as,ra⟩,ca⟩:=Ym I.hok d x v qx rx;obtain⟨its,rv,pl,hz⟩:=I.list (SqL.of hc);obtain⟨⟨bs,rb⟩,cb⟩:=Y9 I.hok ds ps its qs rv;refine Qn2 (eqH s.heap d) pl.isList (λw hw=>Qeq ra ca rb cb hu w (Qb5.mp hw)) ⟨.bl _,H,I,rfl,?_⟩;rw[show its.toArray.any (eqH s.heap d)=its.any (eqH s.heap d) by simp,QeK rb cb];exact q
def inD(neg:Bool)(d:PyData):PyData->(PyData->Prop)->Prop
 |.list ds,Q=>(nds ds=true/\nd d=true/\d.depth<=50)/\Q (.bool (if neg then !(ds.any λe=>Q9 e d) else ds.any λe=>Q9 e d))
 |.tuple ds,Q=>(nds ds=true/\nd d=true/\d.depth<=50)/\Q (.bool (if neg then !(ds.any λe=>Q9 e d) else ds.any λe=>Q9 e d))
 |_,_=>False
def Qzq(u:Nat)(neg:Bool):R2:=λx y H Q=>Qzp u neg x y H Q∨Qtc u neg x y H Q
theorem Qw5:OpR X (compareOp .In) (Qzq X.A.in1.units false):=OpR.or2 Qw3 Qt2
theorem QbJ:OpR X (compareOp .NotIn) (Qzq X.A.in1.units true):=OpR.or2 Qms Qkq
theorem Qks{u:Nat}{neg:Bool}(hu:u+60<cLine):OpD (Qzq u neg) (inD neg):=λA P H x y d1 d2 R Q ln dm hx hy h k=>by
 cases d2<;>first | exact h.elim | skip
 ·obtain⟨l,xs,rfl,e,q⟩:=hy.list;obtain⟨⟨n1,n2,n3⟩,hR⟩:=h;exact .inr ⟨l,xs,_,d1,rfl,e,QaO _ _ n1 q,hx.dat n2,by omega,k _ hR _ H (Same.refl H) (.bl _) Qak⟩
 ·obtain⟨l,xs,rfl,e,q⟩:=hy.tuple;obtain⟨⟨n1,n2,n3⟩,hR⟩:=h;exact .inl ⟨l,xs,_,d1,rfl,e,QaO _ _ n1 q,hx.dat n2,by omega,k _ hR _ H (Same.refl H) (.bl _) Qak⟩
def ixD:PyData->PyData->(PyData->Prop)->Prop
 |.list ds,.int i,Q=>∃d,atI ds i=some d/\Q d
 |.tuple ds,.int i,Q=>∃d,atI ds i=some d/\Q d
 |_,_,_=>False
theorem Qsq{A:Addr->Prop}{H:Hp}{xs:List V}{ds:List PyData}{i:Int}{d:PyData}(q:DAs A H xs ds)(h:atI ds i=some d):∃v,atI xs i=some v/\DA A H v d:=by
 unfold atI at h ⊢;rw[q.length];cases e:ixN ds.length i with
 |none=>rw[e] at h;cases h
 |some j=>
  rw[e] at h;exact q.get j d h
def QAQ(K:PySem.W.Frag):R2:=λx y H Q=>Qys K x y H Q∨QAP K x y H Q
theorem Jk:IxR X (QAQ X.K):=IxR.or2 Qgb Qr7
theorem J4{K:PySem.W.Frag}:Qrn (QAQ K) ixD:=λA P H x y d1 d2 R Q ln dm hx hy h k=>by
 cases d1<;>cases d2<;>first | exact h.elim | skip
 ·obtain⟨l,xs,rfl,e,q⟩:=hx.list;obtain⟨d,hd,hR⟩:=h;obtain⟨v,hv,dv⟩:=Qsq q hd;rw[hy.int];exact .inl ⟨l,xs,_,v,rfl,rfl,SqL.of e,hv,k d hR v H (Same.refl H) dv⟩
 ·obtain⟨l,xs,rfl,e,q⟩:=hx.tuple;obtain⟨d,hd,hR⟩:=h;obtain⟨v,hv,dv⟩:=Qsq q hd;rw[hy.int];exact .inr ⟨l,xs,_,v,rfl,rfl,SqT.of e,hv,k d hR v H (Same.refl H) dv⟩
def dUn(rD:PyData->(PyData->Prop)->Prop)(wa:DE):DE:=λδ Q EX=>wa δ (λd=>rD d Q) EX
def QAV:PyData->(PyData->Prop)->Prop
 |.int i,Q=>Q (.int (-i))
 |_,_=>False
variable{a b c:Q1}{wa wb wc:DE}{pos:Pos}
theorem QwO(ha:PE X a (tX .P X.K E wa)):PE X (.UnaryOp .USub a pos) (tX .F X.K E (dUn QAV wa)):=by
 refine PE.imp (Qzz QvR ha) λσ H Q ⟨F,δ,R,EX,rel,hw,k,o⟩=>?_
 refine⟨F,δ,_,EX,rel,hw,λd hd v H' rel' kp vk=>?_,o⟩;cases d<;>first | exact(show False from hd).elim | skip
 exact⟨_,DP.int vk,k _ hd _ H' rel' kp ⟨.int _,YI⟩⟩
def dCh(p q:Int->Int->Bool)(wa wb wc:DE):DE:=λδ Q EX=>wa δ (λx=>wb δ (λy=>match x,y with
 |.int i,.int j=>if p i j=true then wc δ (λz=>match z with
  |.int k=>Q (.bool (q j k))
  |_=>False) EX else Q (.bool false)
 |_,_=>False) EX) EX
theorem Qu6{K:PySem.W.Frag}{p q:Int->Int->Bool}(σ:L2.St)(H:Hp)(Q:VK)(h:tX .F K E (dCh p q wa wb wc) σ H Q) :
  QrE (rI0 λi j=>.bl (p i j)) (rI0 λi j=>.bl (q i j)) (tX .P K E wa) (tX .P K E wb) (tX .P K E wc) σ H Q:=by
 obtain⟨F,δ,R,EX,rel,hw,k,o⟩:=h;refine⟨F,δ,_,EX,rel,hw,λd1 h1 x H1 rel1 kp1 x1=>⟨F,δ,_,EX,rel1,h1,λd2 h2 y H2 rel2 kp2 y2=>?_,o⟩,o⟩;cases d1<;>cases d2<;>first | exact(show False from h2).elim | skip
 rw[DP.int x1,DP.int y2];refine⟨_,_,rfl,rfl,_,rfl,Qcb h2 (λz=>⟨F,δ,_,EX,rel2,z,λd3 h3 v H3 rel3 kp3 v3=>?_,o⟩) λz=>k _ z _ H2 rel2 (kp1.trans kp2) ⟨.bl _,Qak⟩⟩;cases d3<;>first | exact(show False from h3).elim | skip
 rw[DP.int v3];exact⟨_,_,rfl,rfl,k _ h3 _ H3 rel3 ((kp1.trans kp2).trans kp3) ⟨.bl _,Qak⟩⟩
theorem QzG{op op':QsF}{p q:Int->Int->Bool}(ho:OpR X (compareOp op) (rI0 λi j=>.bl (p i j)))(ho':OpR X (compareOp op') (rI0 λi j=>.bl (q i j)))(ha:PE X a (tX .P X.K E wa))(hb:PE X b (tX .P X.K E wb))(hc:PE X c (tX .P X.K E wc))(hm:lastMarks [op,op'] [b,c]=false:=by with_unfolding_all rfl) :
  PE X (.Compare a [op,op'] [b,c] pos) (tX .F X.K E (dCh p q wa wb wc)):=PE.imp (Qo4 ho ho' ha hb hc (hm:=hm)) Qu6
def QAj:DAr:=λ_ Q _=>Q []
def QkF(we:DE)(wr:DAr):DAr:=λδ Q EX=>we δ (λd=>wr δ (λds=>Q (d::ds)) EX) EX
theorem QtQ{m:Md}:PA X [] (tAr 0 m X.K E QAj):=PA.imp Yv λσ H Q ⟨F,δ,R,EX,rel,hw,k,o⟩=>k [] hw rfl [] H rel (Kp.refl rel) .nil
theorem QnN{n:Nat}{m:Md}{K:PySem.W.Frag}{we:DE}{wr:DAr}(hm:∀{F:Fm}{σ:L2.St}{δ:Sts}{H H':Hp}{v:V}{d:PyData},Vok m F σ δ H H' v d->VD m (Av F σ δ) (Yh σ δ) H' v d)(σ:L2.St)(H:Hp)(Q:List V->Hp->Prop)(h:tAr (n+1) m K E (QkF we wr) σ H Q):QgV (tX m K E we) (tAr n m K E wr) σ H Q:=by
 obtain⟨F,δ,R,EX,rel,hw,k,o⟩:=h;refine⟨F,δ,_,EX,rel,hw,λd hd v H' rel' kp vk=>⟨F,δ,_,EX,rel',hd,λds hds hl vs H2 rel2 kp2 vks=>?_,o⟩,o⟩;exact k _ hds (by rw[QF,hl]) (v::vs) H2 rel2 (kp.trans kp2) (.cons (kp2.vd (hm vk)) vks)
theorem Qmm{n:Nat}{e:Q1}{es:List Q1}{we:DE}{wr:DAr}(he:PE X e (tX .D X.K E we))(hr:PA X es (tAr n .D X.K E wr))(hs:notStar e=true:=by rfl):PA X (e::es) (tAr (n+1) .D X.K E (QkF we wr)):=PA.imp (Qel he hr hs) (QnN λh=>h)
theorem Qml{n:Nat}{e:Q1}{es:List Q1}{we:DE}{wr:DAr}(he:PE X e (tX .P X.K E we))(hr:PA X es (tAr n .P X.K E wr))(hs:notStar e=true:=by rfl):PA X (e::es) (tAr (n+1) .P X.K E (QkF we wr)):=PA.imp (Qel he hr hs) (QnN λh=>h)
theorem Qdh{A P:Addr->Prop}{H:Hp}:∀{vs:List V}{ds:List PyData},Qa9 (VD .D A P H) vs ds->DAs A H vs ds
 |_,_,.nil=>.nil
 |_,_,.cons a b=>.cons a (Qdh b)
def QA4(w:DAr):DE:=λδ Q EX=>w δ (λds=>Q (.tuple ds)) EX
def QAk(w:DAr):DE:=λδ Q EX=>w δ (λds=>Q (.list ds)) EX
theorem QwL{n:Nat}{es:List Q1}{w:DAr}{x1}(h:PA X es (tAr n .D X.K E w))(hn:n<=1000:=by decide):PE X (.Tuple es x1 pos) (tX .F X.K E (QA4 w)):=by
 refine PE.imp (Qmg h) λσ H Q ⟨F,δ,R,EX,rel,hw,k,o⟩=>?_
 refine⟨F,δ,_,EX,rel,hw,λds hds hl vs H' rel' kp q=>?_,o⟩;have q':=Qdh q;refine⟨by rw[q'.length,hl];exact hn,λa H2 s n e=>k _ hds _ H2 (rel'.same s) (kp.trans (Kp.same rel' s)) ⟨QgT (λa ha=>rel'.isl ha) s e q',Qez e⟩⟩
theorem Qcj{σ:L2.St}{δ:Sts}{H H':Hp}{l:Addr}(k:Kp σ δ H H')(n:H' l=none):H l=none:=by
 cases e:H l with
 |none=>rfl
 |some ob=>
  by_cases z:Yh σ δ l
  ·obtain⟨m,em⟩:=k.2 l z;rw[em] at n;cases n
  ·rw[k.1 _ _ z e] at n;cases n
theorem QwP{n:Nat}{es:List Q1}{w:DAr}(h:PA X es (tAr n .D X.K E w))(hn:n<=1000:=by decide):PE X (.List es pos) (tX .F X.K E (QAk w)):=by
 refine PE.imp (Qtv h) λσ H Q ⟨F,δ,R,EX,rel,hw,k,o⟩=>?_
 refine⟨F,δ,_,EX,rel,hw,λds hds hl vs H' rel' kp q=>?_,o⟩;have q':=Qdh q;refine⟨by rw[q'.length,hl];exact hn,λa H2 s n e=>k _ hds _ H2 (rel'.same s) (kp.trans (Kp.same rel' s)) ⟨Qdy (λa ha=>rel'.isl ha) s n e q',QaD (Qcj kp n)⟩⟩
def Qbj(r:List V->Hp->VK->Prop)(rD:List PyData->(PyData->Prop)->Prop):Prop:=∀(A P:Addr->Prop)(H:Hp)(vs:List V)(ds:List PyData)(R:PyData->Prop)(Q:VK),Qcp H->(∀a,A a->∃xs,H a=some (.lst xs))->Qa9 (DP A P H) vs ds->rD ds R ->
 (∀d,R d->∀v H',Same H H'->DA A H' v d->FrV H H' v->Q v H')->r vs H Q
def dCB(rD:List PyData->(PyData->Prop)->Prop)(wa:DAr):DE:=λδ Q EX=>wa δ (λds=>rD ds Q) EX
theorem QnB{n:Nat}{K:PySem.W.Frag}{r:List V->Hp->VK->Prop}{rD:List PyData->(PyData->Prop)->Prop}{wa:DAr}(hd:Qbj r rD)(σ:L2.St)(H:Hp)(Q:VK)(h:tX .F K E (dCB rD wa) σ H Q) :
  tCB (λxs H Q=>Qcp H->r xs H Q) (tAr n .P K E wa) σ H Q:=by
 obtain⟨F,δ,R,EX,rel,hw,k,o⟩:=h;refine⟨F,δ,_,EX,rel,hw,λds hds hl vs H' rel' kp q ln=>?_,o⟩;refine hd (Av F σ δ) (Yh σ δ) H' vs ds R Q ln (λa ha=>rel'.isl ha) q hds λd hR v H2 s dv fr=>?_
 exact k d hR v H2 (rel'.same s) (kp.trans (Kp.same rel' s)) ⟨dv,λl e1 e2=>Qcj kp (fr l e1 e2)⟩
variable{x:Str}{bid T:String}{p:Pos}{e:Q1}{es:List Q1}{n:Nat}{wr:DAr}{r:List V->Hp->VK->Prop}{rD:List PyData->(PyData->Prop)->Prop}
theorem Qpq(hc:CallR X (.builtin bid) r)(hd:Qbj r rD)(hg:Gl X x)(hm:X.mg x=none)(hv:bootBuiltins x=some (.builtin bid))(ha:PA X (e::es) (tAr n .P X.K E wr))(hn:x ≠ "__name__" := by decide)(hdb:(x == ("__debug__" : Str))=false:=by decide)
  (he:starEach (e::es) X.env=(false,eval e X.env)::starEach es X.env:=by rfl)(hpl:(backTo pos (starEach es X.env)).any (·.1)=false:=by rfl):PE X (.Call (.Name x p) (e::es) [] pos) (tX .F X.K E (dCB rD wr)):=
 PE.imp (QcJ (CallR.len hc) hg hm hv ha hn hdb he hpl) (QnB hd)
theorem Qmn(hc:CallR X (.type T) r)(hd:Qbj r rD)(hg:Gl X x)(hm:X.mg x=none)(hv:bootBuiltins x=some (.type T))(ha:PA X (e::es) (tAr n .P X.K E wr))(hn:x ≠ "__name__" := by decide)(hdb:(x == ("__debug__" : Str))=false:=by decide)
  (he:starEach (e::es) X.env=(false,eval e X.env)::starEach es X.env:=by rfl)(hpl:(backTo pos (starEach es X.env)).any (·.1)=false:=by rfl):PE X (.Call (.Name x p) (e::es) [] pos) (tX .F X.K E (dCB rD wr)):=
 PE.imp (Qhb (CallR.len hc) hg hm hv ha hn hdb he hpl) (QnB hd)
theorem pd1{A P:Addr->Prop}{H:Hp}{vs:List V}{d:PyData}(q:Qa9 (DP A P H) vs [d]):∃v,vs=[v]/\DP A P H v d:=by
 cases q with
 |cons a b=>cases b;exact⟨_,rfl,a⟩
theorem pd2{A P:Addr->Prop}{H:Hp}{vs:List V}{d d':PyData}(q:Qa9 (DP A P H) vs [d,d']):∃v v',vs=[v,v']/\DP A P H v d/\DP A P H v' d':=by
 cases q with
 |cons a b=>cases b with | cons b c=>cases c;exact⟨_,_,rfl,a,b⟩
def QAW:List PyData->(PyData->Prop)->Prop
 |[.list ds],Q=>Q (.int ds.length)
 |[.tuple ds],Q=>Q (.int ds.length)
 |_,_=>False
theorem Yw{K:PySem.W.Frag}:Qbj (Qwp K) QAW:=λA P H vs ds R Q ln dm q h k=>by
 unfold QAW at h;split at h
 ·obtain⟨v,rfl,hv⟩:=pd1 q;obtain⟨l,xs,rfl,e,qq⟩:=hv.list;exact⟨l,xs,rfl,.inl (SqL.of e),by rw[qq.length];exact k _ h _ H (Same.refl H) (.int _) YI⟩
 ·obtain⟨v,rfl,hv⟩:=pd1 q;obtain⟨l,xs,rfl,e,qq⟩:=hv.tuple;exact⟨l,xs,rfl,.inr (SqT.of e),by rw[qq.length];exact k _ h _ H (Same.refl H) (.int _) YI⟩
 ·exact h.elim
theorem J7:CallR X (.builtin "len") (Qwp X.K):=QbN
def Quv:List PyData->(PyData->Prop)->Prop
 |[.int i,.int j],Q=>Q (.int (if j<i then j else i))
 |_,_=>False
def Quy:List PyData->(PyData->Prop)->Prop
 |[.int i,.int j],Q=>Q (.int (if j > i then j else i))
 |_,_=>False
theorem Qnz:Qbj (λxs H Q=>∃i j,xs=[.int i,.int j]/\Q (.int (if j<i then j else i)) H) Quv:=λA P H vs ds R Q ln dm q h k=>by
 unfold Quv at h;split at h
 ·obtain⟨v,v',rfl,h1,h2⟩:=pd2 q;rw[h1.int,h2.int];exact⟨_,_,rfl,k _ h _ H (Same.refl H) (.int _) YI⟩
 ·exact h.elim
theorem QnA:Qbj (λxs H Q=>∃i j,xs=[.int i,.int j]/\Q (.int (if j > i then j else i)) H) Quy:=λA P H vs ds R Q ln dm q h k=>by
 unfold Quy at h;split at h
 ·obtain⟨v,v',rfl,h1,h2⟩:=pd2 q;rw[h1.int,h2.int];exact⟨_,_,rfl,k _ h _ H (Same.refl H) (.int _) YI⟩
 ·exact h.elim
def QbO:List PyData->Option (List Bool)
 |[]=>some []
 |.bool b::ds=>(QbO ds).map (b::·)
 |_::_=>none
def Qbm:List PyData->Option (List Int)
 |[]=>some []
 |.int b::ds=>(Qbm ds).map (b::·)
 |_::_=>none
theorem QhD(bs:List Bool):QbO (bs.map Qam)=some bs:=by
 induction bs with
 |nil=>rfl
 |cons b bs ih=>rw[JF,QbO,ih];rfl
theorem ints_map(bs:List Int):Qbm (bs.map Qg)=some bs:=by
 induction bs with
 |nil=>rfl
 |cons b bs ih=>rw[JF,Qbm,ih];rfl
theorem bools_eq:∀{ds:List PyData}{bs:List Bool},QbO ds=some bs->ds=bs.map Qam
 |[],bs,h=>by cases h;rfl
 |d::ds,bs,h=>by
  cases d<;>first | (unfold QbO at h;cases h;done) | skip
  rw[QbO] at h;obtain⟨cs,h1,rfl⟩:=Zr.mp h;rw[bools_eq h1];rfl
theorem Qev:∀{ds:List PyData}{bs:List Int},Qbm ds=some bs->ds=bs.map Qg
 |[],bs,h=>by cases h;rfl
 |d::ds,bs,h=>by
  cases d<;>first | (unfold Qbm at h;cases h;done) | skip
  rw[Qbm] at h;obtain⟨cs,h1,rfl⟩:=Zr.mp h;rw[Qev h1];rfl
theorem QeG{A:Addr->Prop}{H:Hp}:∀{bs:List Bool}{xs:List V},DAs A H xs (bs.map Qam)->xs=bs.map V.bl
 |[],_,.nil=>rfl
 |b::bs,_,.cons (.bl _) r=>by rw[QeG r];rfl
theorem QaN{A:Addr->Prop}{H:Hp}:∀{bs:List Int}{xs:List V},DAs A H xs (bs.map Qg)->xs=bs.map V.int
 |[],_,.nil=>rfl
 |b::bs,_,.cons (.int _) r=>by rw[QaN r];rfl
@[irreducible] def QyB:List PyData->(PyData->Prop)->Prop
 |[.list ds],Q=>∃bs,QbO ds=some bs/\Q (.bool (bs.all id))
 |_,_=>False
theorem Qsk{K:PySem.W.Frag}{cm:Bool}(hc:cm=true):Qbj (λxs H Q=>∃(p:Addr)(bs:List Bool),xs=[.ref p]/\SqL K H p (bs.map V.bl)/\cm=true/\Q (.bl (bs.all id)) H) QyB:=λA P H vs ds R Q ln dm q h k=>by
 unfold QyB at h;split at h
 ·obtain⟨v,rfl,hv⟩:=pd1 q;obtain⟨bs,hb,hR⟩:=h;rw[bools_eq hb] at hv;obtain⟨l,xs,rfl,e,qq⟩:=hv.list;rw[QeG qq] at e;exact⟨l,bs,rfl,SqL.of e,hc,k _ hR _ H (Same.refl H) (.bl _) Qak⟩
 ·exact h.elim
@[irreducible] def Qyr:List PyData->(PyData->Prop)->Prop
 |[.list ds],Q=>∃ns,Qbm ds=some ns/\Q (.int ns.sum)
 |_,_=>False
theorem Qsj{K:PySem.W.Frag}:Qbj (Qwi K) Qyr:=λA P H vs ds R Q ln dm q h k=>by
 unfold Qyr at h;split at h
 ·obtain⟨v,rfl,hv⟩:=pd1 q;obtain⟨bs,hb,hR⟩:=h;rw[Qev hb] at hv;obtain⟨l,xs,rfl,e,qq⟩:=hv.list;rw[QaN qq] at e;exact⟨l,bs,rfl,SqL.of e,k _ hR _ H (Same.refl H) (.int _) YI⟩
 ·exact h.elim
def QrB:List PyData->(PyData->Prop)->Prop
 |[.list ds],Q=>Q (.tuple ds)
 |[.tuple ds],Q=>Q (.tuple ds)
 |_,_=>False
def Qxl:List PyData->(PyData->Prop)->Prop
 |[.list ds],Q=>Q (.list ds)
 |[.tuple ds],Q=>Q (.list ds)
 |_,_=>False
theorem Qb2{K:PySem.W.Frag}:Qbj (QlY K) QrB:=λA P H vs ds R Q ln dm q h k=>by
 unfold QrB at h;split at h
 ·obtain⟨v,rfl,hv⟩:=pd1 q;obtain⟨l,xs,rfl,e,qq⟩:=hv.list;exact⟨l,xs,rfl,.inl ⟨SqL.of e,λl' H' s n e'=>k _ h _ H' s (QgT dm s e' qq) (Qez e')⟩⟩
 ·obtain⟨v,rfl,hv⟩:=pd1 q;obtain⟨l,xs,rfl,e,qq⟩:=hv.tuple;exact⟨l,xs,rfl,.inr ⟨SqT.of e,k _ h _ H (Same.refl H) (QgT dm (Same.refl H) e qq) (Qez e)⟩⟩
 ·exact h.elim
theorem Qgq{K:PySem.W.Frag}:Qbj (Ql1 K) Qxl:=λA P H vs ds R Q ln dm q h k=>by
 unfold Qxl at h;split at h
 ·obtain⟨v,rfl,hv⟩:=pd1 q;obtain⟨l,xs,rfl,e,qq⟩:=hv.list;exact⟨l,xs,rfl,.inl (SqL.of e),λl' H' s n e'=>k _ h _ H' s (Qdy dm s n e' qq) (QaD n)⟩
 ·obtain⟨v,rfl,hv⟩:=pd1 q;obtain⟨l,xs,rfl,e,qq⟩:=hv.tuple;exact⟨l,xs,rfl,.inr (SqT.of e),λl' H' s n e'=>k _ h _ H' s (Qdy dm s n e' qq) (QaD n)⟩
 ·exact h.elim
end
section
variable{X:Cx}{E:XK}
inductive Tn where | int | bool | str | tuple | list
def Tn.s:Tn->String
 |.int => "int"
 |.bool => "bool"
 |.str => "str"
 |.tuple => "tuple"
 |.list => "list"
def isT:Tn->PyData->Bool
 |.int,.int _=>true
 |.int,.bool _=>true
 |.bool,.bool _=>true
 |.str,.str _=>true
 |.tuple,.tuple _=>true
 |.list,.list _=>true
 |_,_=>false
theorem QuG{K:PySem.W.Frag}{A P:Addr->Prop}{H:Hp}{v:V}{d:PyData}(tn:Tn)(h:DP A P H v d):∃t,TyOf K H v t/\PySem.W.kitOne K t (.type tn.s)=some (isT tn d):=by
 rcases h with h | ⟨l,xs,ds,rfl,rfl,_,e,q⟩
 ·cases h with
  |non=>exact⟨_,.non,by cases tn<;>rfl⟩
  |bl b=>exact⟨_,.bl _,by cases tn<;>rfl⟩
  |int i=>exact⟨_,.int _,by cases tn<;>rfl⟩
  |str x c=>exact⟨_,.str _,by cases tn<;>rfl⟩
  |tup n e q=>exact⟨_,.tup e,by cases tn<;>rfl⟩
  |lst n e q=>exact⟨_,.lst e,by cases tn<;>rfl⟩
  |dct n e q=>exact⟨_,.dK e,by cases tn<;>rfl⟩
 ·exact⟨_,.lst e,by cases tn<;>rfl⟩
def QxP(tn:Tn)(we:DE):DE:=λδ Q EX=>we δ (λd=>Q (.bool (isT tn d))) EX
theorem QtT{e f:Q1}{we:DE}{p pos:Pos}(tn:Tn)(hg:Gl X "isinstance")(hm:X.mg "isinstance" = none)(he:PE X e (tX .P X.K E we))(hf:PE X f (tC (.ty tn.s)))(h1:notStar e=true:=by rfl)(h2:notStar f=true:=by rfl) :
  PE X (.Call (.Name "isinstance" p) [e,f] [] pos) (tX .F X.K E (QxP tn we)):=by
 refine PE.imp (QcJ QiP hg hm Qgu (Qel he (Qel hf Yv h2) h1) (he:=Z8 h1) (hpl:=by rw[Z8 h2];rfl)) λσ H Q ⟨F,δ,R,EX,rel,hw,k,o⟩=>?_
 refine⟨F,δ,_,EX,rel,hw,λd hd v H' rel' kp vk=>?_,o⟩;obtain⟨t,ty,et⟩:=QuG (K:=X.K) tn vk;exact⟨v,t,tn.s,_,rfl,ty,et,k _ hd _ H' rel' kp ⟨.bl _,Qak⟩⟩
theorem QzJ{x:Str}{pos:Pos}(tn:Tn)(hg:Gl X x)(hm:X.mg x=none)(hv:bootBuiltins x=some (.type tn.s))(hn:x ≠ "__name__" := by decide)(hd:(x == ("__debug__" : Str))=false:=by decide):PE X (.Name x pos) (tC (.ty tn.s)):=Qty (v:=.ty tn.s) hg hm hv rfl hn hd
abbrev DO:=Sts->(Option Int->Prop)->XP->Prop
def tO(K:PySem.W.Frag)(E:XK)(w:DO):TO:=λσ H Q=>∃(F:Fm)(δ:Sts)(R:Option Int->Prop)(EX:XP),Rel K F σ H δ/\w δ R EX/\(∀d,R d->∀H',Rel K F σ H' δ->Kp σ δ H H'->Q d H')/\Out F E EX
def dNo:DO:=λ_ Q _=>Q none
def dSo(we:DE):DO:=λδ Q EX=>we δ (λd=>match d with
 |.int i=>Q (some i)
 |_=>False) EX
theorem PO.imp{e:Option Q1}{t t':TO}(h:PO X e t)(i:∀σ H Q,t' σ H Q->t σ H Q):PO X e t':=λpins s σ H Q I q=>h pins s σ H Q I (i σ H Q q)
theorem Qpi:PO X none (tO X.K E dNo):=PO.imp Qto λσ H Q ⟨F,δ,R,EX,rel,hw,k,o⟩=>k _ hw H rel (Kp.refl rel)
theorem Qph{e:Q1}{we:DE}(he:PE X e (tX .P X.K E we)):PO X (some e) (tO X.K E (dSo we)):=by
 refine PO.imp (Qtn he) λσ H Q ⟨F,δ,R,EX,rel,hw,k,o⟩=>?_
 refine⟨F,δ,_,EX,rel,hw,λd hd v H' rel' kp vk=>?_,o⟩;cases d<;>first | exact(show False from hd).elim | skip
 exact⟨_,DP.int vk,k _ hd H' rel' kp⟩
def cutD(xs:List PyData)(lo hi:Option Int):List PyData:=(xs.drop (HT.sIx xs.length 0 lo)).take (HT.sIx xs.length xs.length hi - HT.sIx xs.length 0 lo)
theorem Qnu{A:Addr->Prop}{H:Hp}{xs:List V}{ds:List PyData}(q:DAs A H xs ds)(lo hi:Option Int):DAs A H (QjL xs lo hi) (cutD ds lo hi):=by
 unfold QjL cutD;rw[q.length];exact(q.drop _).take _
def slD(d:PyData)(lo hi:Option Int)(Q:PyData->Prop):Prop:=
 match d with
 |.list ds=>Q (.list (cutD ds lo hi))
 |.tuple ds=>Q (.tuple (cutD ds lo hi))
 |_=>False
def dSl(we:DE)(wl wh:DO):DE:=λδ Q EX=>we δ (λd=>wl δ (λlo=>wh δ (λhi=>slD d lo hi Q) EX) EX) EX
def Qwl(K:PySem.W.Frag):V->Option Int->Option Int->Hp->VK->Prop:=λx a b H Q=>QAJ x a b H Q∨Qwk K x a b H Q
theorem Qpo{e:Q1}{lo hi:Option Q1}{we:DE}{wl wh:DO}{p2 pos:Pos}(he:PE X e (tX .P X.K E we))(hl:PO X lo (tO X.K E wl))(hh:PO X hi (tO X.K E wh)):PE X (.Subscript e (.Slice lo hi none p2) pos) (tX .F X.K E (dSl we wl wh)):=by
 refine PE.imp (Qo0 (r:=Qwl X.K) (SlR.or2 Qv9 QoC) he hl hh) λσ H Q ⟨F,δ,R,EX,rel,hw,k,o⟩=>?_
 refine⟨F,δ,_,EX,rel,hw,λd hd v H1 rel1 kp1 vk=>⟨F,δ,_,EX,rel1,hd,λa ha H2 rel2 kp2=>⟨F,δ,_,EX,rel2,ha,λb hb H3 rel3 kp3=>?_,o⟩,o⟩,o⟩;have v3:=kp3.dp (kp2.dp vk);have K3:=(kp1.trans kp2).trans kp3;cases d<;>first | exact(show False from hb).elim | skip
 ·obtain⟨l,xs,rfl,e,q⟩:=DP.list v3;exact .inr ⟨l,xs,rfl,SqL.of e,λp H' s n e'=>k _ hb _ H' (rel3.same s) (K3.trans (Kp.same rel3 s)) ⟨Qdy (λa ha=>rel3.isl ha) s n e' (Qnu q _ _),QaD (Qcj K3 n)⟩⟩
 ·obtain⟨l,xs,rfl,e,q⟩:=DP.tuple v3;exact .inl ⟨l,xs,rfl,e,λp H' s e'=>k _ hb _ H' (rel3.same s) (K3.trans (Kp.same rel3 s)) ⟨QgT (λa ha=>rel3.isl ha) s e' (Qnu q _ _),Qez e'⟩⟩
abbrev DF:=List Sl->(PyData->Prop)->XP->Prop
def Kq(pt:Addr->Prop)(H H':Hp):Prop:=(∀b o,¬pt b->H b=some o->H' b=some o)/\∀p,pt p->∃n,H' p=some (.lst [.int n])
def JO(fr:Bool)(f:DF):Sp:=λvs H Q Ex=>∃(A pt:Addr->Prop)(args:List Sl)(R:PyData->Prop)(EX:XP),(∀a,A a->∃xs,H a=some (.lst xs))/\(∀p,pt p->A p/\∃n,H p=some (.lst [.int n]))/\Qa9 (QkS A pt H) vs args/\f args R EX /\
 (∀d,R d->∀v H',Kq pt H H'->DA A H' v d->(fr=true->FrV H H' v)->Q v H')/\∀C,EX C->∀H',Kq pt H H'->Ex (.ref C) none H'
def Qvw:DSl:=λ_ Q _=>Q []
def sV(we:DE)(wr:DSl):DSl:=λδ Q EX=>we δ (λd=>wr δ (λds=>Q (.v d::ds)) EX) EX
def Qzm(i:Nat)(wr:DSl):DSl:=λδ Q EX=>match δ[i]? with
 |some .pot=>wr δ (λds=>Q (.pot::ds)) EX
 |_=>False
theorem QtI:PA X [] (tAs X.K E Qvw):=PA.imp Yv λσ H Q ⟨F,δ,R,EX,rel,hw,k,o⟩=>k [] hw [] H rel (Kp.refl rel) .nil
theorem QzC{e:Q1}{es:List Q1}{we:DE}{wr:DSl}(he:PE X e (tX .D X.K E we))(hr:PA X es (tAs X.K E wr))(hs:notStar e=true:=by rfl):PA X (e::es) (tAs X.K E (sV we wr)):=by
 refine PA.imp (Qel he hr hs) λσ H Q ⟨F,δ,R,EX,rel,hw,k,o⟩=>?_
 refine⟨F,δ,_,EX,rel,hw,λd hd v H' rel' kp vk=>⟨F,δ,_,EX,rel',hd,λds hds vs H2 rel2 kp2 vks=>?_,o⟩,o⟩;exact k _ hds (v::vs) H2 rel2 (kp.trans kp2) (.cons (kp2.da vk) vks)
theorem QtG{e:Q1}{es:List Q1}{i:Nat}{wr:DSl}(he:PE X e (Qh9 i))(hr:PA X es (tAs X.K E wr))(hs:notStar e=true:=by rfl):PA X (e::es) (tAs X.K E (Qzm i wr)):=by
 refine PA.imp (Qel he hr hs) λσ H Q ⟨F,δ,R,EX,rel,hw,k,o⟩=>?_
 unfold Qzm at hw;split at hw
 ·rename_i hd
  obtain⟨x,hx⟩:=rel.lt hd;obtain⟨p,n,rfl,e,q⟩:=rel.sl i _ _ hx hd;refine⟨.ref p,hx,F,δ,_,EX,rel,hw,λds hds vs H2 rel2 kp2 vks=>?_,o⟩;exact k _ hds (.ref p::vs) H2 rel2 kp2 (.cons ⟨p,rfl,i,hx,hd⟩ vks)
 ·exact hw.elim
def Qgm(f:DF)(wa:DSl):DE:=λδ Q EX=>wa δ (λargs=>f args Q EX) EX
theorem Kq.kp{K:PySem.W.Frag}{F:Fm}{σ:L2.St}{δ:Sts}{H H':Hp}(k:Kq (Yh σ δ) H H'):Kp σ δ H H':=k
theorem Qhx{m:Md}{fr:Bool}{K:PySem.W.Frag}{f:DF}{wa:DSl}(hm:∀{F:Fm}{σ:L2.St}{δ:Sts}{H H':Hp}{v:V}{d:PyData},DA (Av F σ δ) H' v d->(fr=true->FrV H H' v)->Vok m F σ δ H H' v d)(σ:L2.St)(H:Hp)(Q:VK)(h:tX m K E (Qgm f wa) σ H Q):Qv4 (JO fr f) [] E (tAs K E wa) σ H Q:=by
 obtain⟨F,δ,R,EX,rel,hw,k,o⟩:=h;refine⟨F,δ,_,EX,rel,hw,λargs ha vs H1 rel1 kp1 q=>?_,o⟩;show JO fr f (vs++[]) H1 Q E;rw[ZB];refine⟨Av F σ δ,Yh σ δ,args,R,EX,λa ha=>rel1.isl ha,λp hp=>⟨Y5 hp,(Kp.refl rel1).2 p hp⟩,q,ha,λd hd v H' kq dv fr=>?_,λC hC H' kq=>o C hC H' (rel1.kp kq).ke⟩;exact k d hd v H' (rel1.kp kq) (kp1.trans kq) (hm dv λz l e1 e2=>Qcj kp1 (fr z l e1 e2))
variable{CX:CXT}{k:Nat}{f:Addr}{fd:QL}{ps:List Str}{x:Str}{p pos:Pos}{e:Q1}{es:List Q1}{fD:DF}{wa:DSl}
theorem QtW(G:FnOk X.prog X.w X.K X.mg X.base CX k f fd ps (JO false fD))(hr:Room k X.A)(hg:Gl X x)(hm:X.mg x=some (.ref f))(hk:PySem.W.keepIn X.K (.ref f)=true)(hb:Binds X.K fd ps [])(hx:QeM CX X E)
  (ha:PA X (e::es) (tAs X.K E wa))(hdb:(x == ("__debug__" : Str))=false:=by decide)(he:starEach (e::es) X.env=(false,eval e X.env)::starEach es X.env:=by rfl)(hpl:(backTo pos (starEach es X.env)).any (·.1)=false:=by rfl) :
  PE X (.Call (.Name x p) (e::es) [] pos) (tX .D X.K E (Qgm fD wa)):=PE.imp (Qip G hr hg hm hk hb .nil hx ha hdb he hpl) (Qhx λh _=>h)
theorem Qpp(G:FnOk X.prog X.w X.K X.mg X.base CX k f fd ps (JO true fD))(hr:Room k X.A)(hg:Gl X x)(hm:X.mg x=some (.ref f))(hk:PySem.W.keepIn X.K (.ref f)=true)(hb:Binds X.K fd ps [])(hx:QeM CX X E)
  (ha:PA X (e::es) (tAs X.K E wa))(hdb:(x == ("__debug__" : Str))=false:=by decide)(he:starEach (e::es) X.env=(false,eval e X.env)::starEach es X.env:=by rfl)(hpl:(backTo pos (starEach es X.env)).any (·.1)=false:=by rfl) :
  PE X (.Call (.Name x p) (e::es) [] pos) (tX .F X.K E (Qgm fD wa)):=PE.imp (Qip G hr hg hm hk hb .nil hx ha hdb he hpl) (Qhx λh z=>⟨h,z rfl⟩)
end
abbrev DG:=PyData->Sts->(Sts->Prop)->Prop
def tG(ix:List Nat)(K:PySem.W.Frag)(w:DG):TG:=λv σ H Q=>∃(F:Fm)(δ:Sts)(d:PyData)(R:Sts->Prop),Rel K F σ H δ/\DA (Av F σ δ) H v d/\w d δ R /\
 ∀δ',R δ'->∀σ',Rel K F σ' H δ'->Stp F σ H δ σ' H δ'->σ'.length=σ.length->(∀j,j∉ix->σ'[j]? = σ[j]?)->Q σ' H
theorem Qao{α:Type}{l:List α}{i j:Nat}{x:α}(h:j≠i):(l.set i x)[j]? = l[j]? := QcR (Qbv h)
theorem set_eq{α:Type}{l:List α}{i:Nat}{x y:α}(h:(l.set i x)[i]? = some y):y=x:=by
 rw[QeO] at h;simp only[if_true] at h;split at h
 ·exact(QK h).symm
 ·cases h
theorem QeJ{F:Fm}{σ:L2.St}{δ:Sts}{i:Nat}{o:Option V}{d:PyData}{a:Addr}(h:Av F (σ.set i o) (δ.set i (.v d)) a):Av F σ δ a:=by
 rcases h with h | ⟨j,h1,h2⟩
 ·exact .inl h
 ·by_cases z:j=i
  ·subst z;rcases h2 with h2 | ⟨ds,h2⟩<;>cases set_eq h2
  ·rw[Qao z] at h1 h2;exact .inr ⟨j,h1,h2⟩
theorem Rel.setv{K:PySem.W.Frag}{F:Fm}{σ:L2.St}{H:Hp}{δ:Sts}(r:Rel K F σ H δ){i:Nat}{v:V}{d:PyData}(q:DA (Av F σ δ) H v d):Rel K F (σ.set i (some v)) H (δ.set i (.v d)) where
 len:=by rw[Yb,Yb];exact r.len
 dom:=r.dom
 dom0:=r.dom0
 pt0:=r.pt0
 kx:=r.kx
 sl:=λj o x h1 h2=>by
  have wk:∀{v:V}{d':PyData},DA (Av F σ δ) H v d'->DA (Av F (σ.set i (some v)) (δ.set i (.v d))) H v d':=λh=>h.mv (λ_ _ _ e=>e) λa z=>.inl (QeJ z)
  by_cases z:j=i
  ·subst z;cases set_eq h1;cases set_eq h2;exact⟨v,rfl,q.mv (λ_ _ _ e=>e) λa z=>.inl (QeJ z)⟩
  ·rw[Qao z] at h1 h2;have h:=r.sl j o x h1 h2;cases x with
   |no=>trivial
   |v d=>obtain⟨v',e,q'⟩:=h;exact⟨v',e,q'.mv (λ_ _ _ e=>e) λa z=>.inl (QeJ z)⟩
   |own ds=>obtain⟨l,xs,e,e2,q',f⟩:=h;exact⟨l,xs,e,e2,q'.mv (λ_ _ _ e=>e) λa z=>.inl (QeJ z),f⟩
   |pk ds=>obtain⟨l,xs,e,e2,q',f⟩:=h;exact⟨l,xs,e,e2,q'.mv (λ_ _ _ e=>e) λa z=>.inl (QeJ z),f⟩
   |pot=>exact h
   |scr=>exact h
 inj:=λj k a ds h1 h2 ⟨h3,h4⟩=>by
  by_cases z:j=i
  ·subst z;cases set_eq h1
  ·rw[Qao z] at h1 h2;by_cases z2:k=i
   ·subst z2;rcases h4 with h4 | ⟨ds,h4⟩<;>cases set_eq h4
   ·rw[Qao z2] at h3 h4;exact r.inj j k a ds h1 h2 ⟨h3,h4⟩
theorem Stp.setv{F:Fm}{σ:L2.St}{H:Hp}{δ:Sts}{i:Nat}{o:Option V}{d:PyData}:Stp F σ H δ (σ.set i o) H (δ.set i (.v d)):=⟨λ_ _ _ e=>e,λa z=>.inl (QeJ z)⟩
def gN(i:Nat):DG:=λd δ Q=>Q (δ.set i (.v d))
def Qed:Sts->List Nat->List PyData->Sts
 |δ,i::is,d::ds=>Qed (δ.set i (.v d)) is ds
 |δ,_,_=>δ
def gTN(is:List Nat):DG:=λd δ Q=>match d with
 |.tuple ds=>ds.length=is.length/\Q (Qed δ is ds)
 |_=>False
section
variable{X:Cx}{E:XK}
theorem PG.imp{e:Q1}{t t':TG}(h:PG X e t)(i:∀v σ H Q,t' v σ H Q->t v σ H Q):PG X e t':=λpins s σ H v u Q I r q=>h pins s σ H v u Q I r (i v σ H Q q)
theorem Qpn{e:Q1}{i:Nat}(h:PG X e (QdH i)):PG X e (tG [i] X.K (gN i)):=PG.imp h λv σ H Q ⟨F,δ,d,R,rel,dv,hw,k⟩=>
 k _ hw _ (rel.setv dv) Stp.setv (Yb ..) λj hj=>Qao λz=>hj (by rw[z];exact Qx.mpr rfl)
def gNs:List Nat->TGs
 |[]=>QAc
 |i::is=>Qp6 (QdH i) (gNs is)
theorem QjD{K:PySem.W.Frag}{F:Fm}{H:Hp}{Q:L2.St->Hp->Prop}:∀(is:List Nat)(vs:List V)(ds:List PyData)(σ:L2.St)(δ:Sts),ds.length=is.length->Rel K F σ H δ->DAs (Av F σ δ) H vs ds ->
  (∀σ',Rel K F σ' H (Qed δ is ds)->Stp F σ H δ σ' H (Qed δ is ds)->σ'.length=σ.length->(∀j,j∉is->σ'[j]? = σ[j]?)->Q σ' H)->gNs is vs σ H Q
 |[],vs,ds,σ,δ,hl,rel,q,k=>by
  cases ds with
  |nil=>cases q;exact⟨rfl,k σ rel Stp.refl rfl λ_ _=>rfl⟩
  |cons d ds=>cases hl
 |i::is,vs,ds,σ,δ,hl,rel,q,k=>by
  cases ds with
  |nil=>cases hl
  |cons d ds=>
   cases q with
   |@cons v vs _ _ q qs=>
    refine⟨v,vs,rfl,?_⟩;refine QjD is vs ds _ _ (by simpa using hl) (rel.setv q) (qs.mv (λ_ _ _ e=>e) λa z=>.inl (QeJ z)) λσ' r' st hl' hj=>?_
    refine k σ' r' (Stp.setv.trans st) (by rw[hl',Yb]) λj hn=>?_
    rw[hj j (λz=>hn (JS _ z)),Qao (λz=>hn (by rw[z];exact ZD))]
theorem QtP{e:Q1}{n:Nat}{is:List Nat}(h:PG X e (QAb X.K n (gNs is)))(hn:is.length=n:=by rfl):PG X e (tG is X.K (gTN is)):=PG.imp h λv σ H Q ⟨F,δ,d,R,rel,dv,hw,k⟩=>by
 unfold gTN at hw;split at hw
 ·obtain⟨hl,hR⟩:=hw;cases dv with
  |@tup a xs ds na e q=>
   exact⟨a,xs,rfl,SqT.of e,by rw[q.length,hl,hn],QjD is xs _ σ δ hl rel q λσ' r' st hl' hj=>k _ hR σ' r' st hl' hj⟩
 ·exact hw.elim
def ItD(A S:Addr->Prop)(J:It)(items:List PyData)(H1:Hp):Prop:=items.length<=sizeLine/\∀(H2:Hp)(A':Addr->Prop),(∀b o,S b->H1 b=some o->H2 b=some o)->(∀b,A' b->A b∨H1 b=none)->(∀a,A' a->∃xs,H2 a=some (.lst xs)) ->
 (∀(i:Nat) d,items[i]? = some d->J.go i H2/\∀x H3,J.yld i H2 x H3->Same H2 H3/\DA A' H3 x d)/\J.stop items.length H2
def Sx(m:Md)(F:Fm)(σ:L2.St)(δ:Sts)(b:Addr):Prop:=
 match m with
 |.P=>¬Yh σ δ b
 |_=>¬Av F σ δ b
abbrev DI:=Sts->(List PyData->Prop)->XP->Prop
def tI(m:Md)(K:PySem.W.Frag)(E:XK)(w:DI):TI:=λσ H R=>∃(F:Fm)(δ:Sts)(R':List PyData->Prop)(EX:XP),Rel K F σ H δ/\w δ R' EX/\(∀items,R' items->∀J H',Rel K F σ H' δ->Kp σ δ H H'->ItD (Av F σ δ) (Sx m F σ δ) J items H'->R J H')/\Out F E EX
theorem PI.imp{tg e:Q1}{t t':TI}(h:PI X tg e t)(i:∀σ H R,Qcp H->t' σ H R->t σ H R):PI X tg e t':=λpins s σ H R I q=>h pins s σ H R I (i σ H R (Inv.lens I) q)
theorem PI.len{tg e:Q1}{t:TI}(h:PI X tg e t):PI X tg e (λσ H R=>t σ H λJ H1=>Qcp H1->R J H1):=λpins s σ H R I q=>by
 refine thn (h pins s σ H _ I q) λv s1 h1=>thn h1 λitv s2 h2=>?_
 obtain⟨it,fp,tn,J,H',e,I',T,t0,fo,hR⟩:=h2;exact⟨it,fp,tn,J,H',e,I',T,t0,fo,hR (Inv.lens I')⟩
def QBa(w:DE):DI:=λδ Q EX=>w δ (λd=>match d with
 |.list ds=>Q ds
 |_=>False) EX
def QA9(w:DE):DI:=λδ Q EX=>w δ (λd=>match d with
 |.tuple ds=>Q ds
 |_=>False) EX
theorem Qbc{A S:Addr->Prop}{H H2:Hp}{A':Addr->Prop}{xs:List V}{ds:List PyData}(sA:∀b,¬A b->S b)(k:∀b o,S b->H b=some o->H2 b=some o)(m:∀b,A' b->A b∨H b=none)(q:DAs A H xs ds):DAs A' H2 xs ds:=q.mv (λa o n e=>k a o (sA a n) e) m
theorem Qz0{K:PySem.W.Frag}{A S:Addr->Prop}{H:Hp}{l:Addr}{xs:List V}{ds:List PyData}(sA:∀b,¬A b->S b)(sl:S l)(e:H l=some (.lst xs))(q:DAs A H xs ds)(ln:xs.length<=sizeLine):ItD A S (Itl K l) ds H:=by
 refine⟨by rw[<- q.length];exact ln,λH2 A' k m dm=>⟨λi d hd=>?_,xs,SqL.of (k _ _ sl e),by rw[q.length];exact Qh _⟩⟩;obtain⟨x,hx,dx⟩:=(Qbc sA k m q).get i d hd;refine⟨⟨xs,x,SqL.of (k _ _ sl e),hx⟩,λy H3 ⟨e3,hy⟩=>?_⟩;subst e3;have:=hy xs (SqL.of (k _ _ sl e));rw[hx] at this;cases this;exact⟨Same.refl _,dx⟩
theorem QzY{K:PySem.W.Frag}{A S:Addr->Prop}{H:Hp}{l:Addr}{xs:List V}{ds:List PyData}(sA:∀b,¬A b->S b)(sl:S l)(e:H l=some (.tup xs))(q:DAs A H xs ds)(ln:xs.length<=sizeLine):ItD A S (Itt K l) ds H:=by
 refine⟨by rw[<- q.length];exact ln,λH2 A' k m dm=>⟨λi d hd=>?_,xs,SqT.of (k _ _ sl e),by rw[q.length];exact Qh _⟩⟩;obtain⟨x,hx,dx⟩:=(Qbc sA k m q).get i d hd;refine⟨⟨xs,x,SqT.of (k _ _ sl e),hx⟩,λy H3 ⟨e3,hy⟩=>?_⟩;subst e3;have:=hy xs (SqT.of (k _ _ sl e));rw[hx] at this;cases this;exact⟨Same.refl _,dx⟩
theorem QfH{m:Md}{F:Fm}{σ:L2.St}{δ:Sts}{b:Addr}(h:¬Av F σ δ b):Sx m F σ δ b:=by
 cases m
 ·exact h
 ·exact λz=>h (Y5 z)
 ·exact h
theorem stL{m:Md}{F:Fm}{σ:L2.St}{δ:Sts}{H H':Hp}{v:V}{ds:List PyData}(h:VD m (Av F σ δ) (Yh σ δ) H v (.list ds)):∃l xs,v=.ref l/\Sx m F σ δ l/\H l=some (.lst xs)/\DAs (Av F σ δ) H xs ds:=by
 cases m
 ·cases h with | @lst a xs _ n e q=>exact⟨a,xs,rfl,n,e,q⟩
 ·rcases h with h | ⟨l,xs,ds',rfl,e,n,e2,q⟩
  ·cases h with | @lst a xs _ n e q=>exact⟨a,xs,rfl,QfH n,e,q⟩
  ·cases e;exact⟨l,xs,rfl,n,e2,q⟩
 ·cases h with | @lst a xs _ n e q=>exact⟨a,xs,rfl,n,e,q⟩
theorem stT{m:Md}{F:Fm}{σ:L2.St}{δ:Sts}{H H':Hp}{v:V}{ds:List PyData}(h:VD m (Av F σ δ) (Yh σ δ) H v (.tuple ds)):∃l xs,v=.ref l/\Sx m F σ δ l/\H l=some (.tup xs)/\DAs (Av F σ δ) H xs ds:=by
 cases m
 ·cases h with | @tup a xs _ n e q=>exact⟨a,xs,rfl,n,e,q⟩
 ·rcases h with h | ⟨l,xs,ds',rfl,e,n,e2,q⟩
  ·cases h with | @tup a xs _ n e q=>exact⟨a,xs,rfl,QfH n,e,q⟩
  ·cases e
 ·cases h with | @tup a xs _ n e q=>exact⟨a,xs,rfl,n,e,q⟩
theorem Qd6{m:Md}{F:Fm}{σ:L2.St}{δ:Sts}{H H':Hp}{v:V}{d:PyData}(h:Vok m F σ δ H H' v d):VD m (Av F σ δ) (Yh σ δ) H' v d:=by
 cases m
 ·exact h
 ·exact h
 ·exact h.1
variable{m:Md}{tg e e':Q1}{w w':DE}{p pos tpos:Pos}
theorem Qpm(h:PE X e (tX m X.K E w)):PI X tg e (tI m X.K E (QBa w)):=by
 refine PI.imp (PI.len (Qtr h)) λσ H R _ ⟨F,δ,R',EX,rel,hw,k,o⟩=>?_
 refine⟨F,δ,_,EX,rel,hw,λd hd v H' rel' kp vk=>?_,o⟩;cases d<;>first | exact(show False from hd).elim | skip
 obtain⟨l,xs,rfl,sl,e,q⟩:=stL (H':=H') (Qd6 vk);exact⟨l,rfl,⟨xs,SqL.of e⟩,λln=>k _ hd _ H' rel' kp (Qz0 (λb=>QfH) sl e q (ln _ _ (.inl e)))⟩
theorem QtO(h:PE X e (tX m X.K E w)):PI X tg e (tI m X.K E (QA9 w)):=by
 refine PI.imp (PI.len (QrX h)) λσ H R _ ⟨F,δ,R',EX,rel,hw,k,o⟩=>?_
 refine⟨F,δ,_,EX,rel,hw,λd hd v H' rel' kp vk=>?_,o⟩;cases d<;>first | exact(show False from hd).elim | skip
 obtain⟨l,xs,rfl,sl,e,q⟩:=stT (H':=H') (Qd6 vk);exact⟨l,rfl,⟨xs,SqT.of e⟩,λln=>k _ hd _ H' rel' kp (QzY (λb=>QfH) sl e q (ln _ _ (.inr e)))⟩
def Qji(lo:Int)(n:Nat):List PyData:=(Qp n).map λ(i:Nat)=>.int (lo+i)
theorem Qeg{lo:Int}{n i:Nat}{d:PyData}(h:(Qji lo n)[i]? = some d):i<n/\d=.int (lo+i):=by
 unfold Qji at h;rw[Qo] at h;by_cases z:i<n
 ·rw[Ji z] at h;exact⟨z,(QK h).symm⟩
 ·rw[QJ (by rw[QH];omega)] at h;cases h
theorem Qii{lo:Int}{n:Nat}:(Qji lo n).length=n:=by unfold Qji;rw[Qc,QH]
theorem QzZ{A S:Addr->Prop}{H:Hp}{lo:Int}{n:Nat}(hn:n<=1000000):ItD A S (Itr lo n) (Qji lo n) H:=by
 refine⟨by rw[Qii];exact QX hn Qix,λH2 A' k m dm=>⟨λi d hd=>?_,by rw[Qii];exact Qh _⟩⟩;obtain⟨hi,rfl⟩:=Qeg hd;exact⟨hi,λx H3 ⟨e1,e2⟩=>by subst e1 e2;exact⟨Same.refl _,.int _⟩⟩
def QxM(w:DE):DI:=λδ Q EX=>w δ (λd=>match d with
 |.int j=>(-1000000<=j/\j<=1000000)/\Q (Qji 0 j.toNat)
 |_=>False) EX
theorem Qpl(hg:Gl X "range")(hm:X.mg "range" = none)(h:PE X e (tX .P X.K E w))(hs:notStar e=true:=by rfl):PI X tg (.Call (.Name "range" p) [e] [] pos) (tI m X.K E (QxM w)):=by
 refine PI.imp (Qha hg hm (Qel h Yv hs) (by rw[Z8 hs];rfl)) λσ H R _ ⟨F,δ,R',EX,rel,hw,k,o⟩=>?_
 refine⟨F,δ,_,EX,rel,hw,λd hd v H' rel' kp vk=>?_,o⟩;cases d<;>first | exact(show False from hd).elim | skip
 obtain⟨⟨h1,h2⟩,hR⟩:=hd;rw[DP.int vk];exact⟨_,rfl,by omega,by omega,k _ hR _ H' rel' kp (QzZ (by omega))⟩
theorem Qir{A':Addr->Prop}{H2:Hp}{r:Addr}{x y:V}{d d':PyData}(dm:∀a,A' a->∃xs,H2 a=some (.lst xs))(n:H2 r=none)(q:DA A' H2 x d)(q':DA A' H2 y d'):DA A' (upd H2 r (.tup [x,y])) (.ref r) (.tuple [d,d']):=
 .tup (λz=>by obtain⟨xs,e⟩:=dm r z;rw[n] at e;cases e) Jz (.cons (q.same (JW n)) (.cons (q'.same (JW n)) .nil))
def QdI(ds:List PyData):List PyData:=(Qp ds.length).map λ(i:Nat)=>.tuple [.int i,ds.getD i .none]
theorem Qbg{ds:List PyData}{i:Nat}{d:PyData}(h:(QdI ds)[i]? = some d):∃e,ds[i]? = some e/\d=.tuple [.int i,e]:=by
 unfold QdI at h;rw[Qo] at h;by_cases z:i<ds.length
 ·rw[Ji z] at h;refine⟨ds[i],Qe z,?_⟩;rw[<- QK h];show YX [.int i,ds.getD i .none]=_;rw[Qd,Qe z];rfl
 ·rw[QJ (by rw[QH];omega)] at h;cases h
theorem Qb0{ds:List PyData}:(QdI ds).length=ds.length:=by unfold QdI;rw[Qc,QH]
def QBc(w:DE):DI:=λδ Q EX=>w δ (λd=>match d with
 |.list ds=>Q (QdI ds)
 |_=>False) EX
variable{elts:List Q1}
theorem Qmk{x1}(hg:Gl X "enumerate")(hm:X.mg "enumerate" = none)(h:PE X e (tX m X.K E w))(hs:notStar e=true:=by rfl):PI X (.Tuple elts x1 tpos) (.Call (.Name "enumerate" p) [e] [] pos) (tI m X.K E (QBc w)):=by
 refine PI.imp (PI.len (Qts hg hm (Qel h Yv hs) (by rw[Z8 hs];rfl))) λσ H R _ ⟨F,δ,R',EX,rel,hw,k,o⟩=>?_
 refine⟨F,δ,_,EX,rel,hw,λd hd v H' rel' kp vk=>?_,o⟩;cases d<;>first | exact(show False from hd).elim | skip
 obtain⟨l,xs,rfl,sl,e,q⟩:=stL (H':=H') (Qd6 vk);refine⟨l,xs,rfl,e,λln=>k _ hd _ H' rel' kp ⟨by rw[Qb0,<- q.length];exact ln _ _ (.inl e),λH2 A' kk mm dm=>⟨λi d hd'=>?_,xs,kk _ _ sl e,by rw[Qb0,q.length];exact Qh _⟩⟩⟩;obtain⟨d',hd2,rfl⟩:=Qbg hd';obtain⟨x,hx,dx⟩:=(Qbc (S:=Sx m F σ δ) (λb=>QfH) kk mm q).get i d' hd2;refine⟨⟨xs,x,kk _ _ sl e,hx⟩,λy H3 ⟨r,x',nr,hx',e1,e2⟩=>?_⟩;subst e1 e2;have:=hx' xs (kk _ _ sl e);rw[hx] at this;cases this;exact⟨JW nr,Qir dm nr (.int _) dx⟩
def Qj4(ds es:List PyData):List PyData:=Qcq (λd e=>.tuple [d,e]) ds es
theorem zip_get{ds es:List PyData}{i:Nat}{d:PyData}(h:(Qj4 ds es)[i]? = some d):∃a b,ds[i]? = some a/\es[i]? = some b/\d=.tuple [a,b]:=by
 unfold Qj4 at h;rw[List.getElem?_zipWith] at h;cases h1:ds[i]? with
 |none=>rw[h1] at h;cases h
 |some a=>
  cases h2:es[i]? with
  |none=>rw[h1,h2] at h;cases h
  |some b=>rw[h1,h2] at h;exact⟨a,b,rfl,rfl,(QK h).symm⟩
theorem QfD{ds es:List PyData}:(Qj4 ds es).length=min ds.length es.length:=by unfold Qj4;rw[Qn4]
def QA3(w w':DE):DI:=λδ Q EX=>w δ (λd=>w' δ (λd'=>match d,d' with
 |.list ds,.list es=>Q (Qj4 ds es)
 |_,_=>False) EX) EX
def QA2(w w':DE):DI:=λδ Q EX=>w δ (λd=>w' δ (λd'=>match d,d' with
 |.tuple ds,.tuple es=>Q (Qj4 ds es)
 |_,_=>False) EX) EX
theorem Qpk{x1}(hg:Gl X "zip")(hm:X.mg "zip" = none)(h:PE X e (tX m X.K E w))(h':PE X e' (tX m X.K E w'))(hs:notStar e=true:=by rfl)(hs':notStar e'=true:=by rfl):PI X (.Tuple elts x1 tpos) (.Call (.Name "zip" p) [e,e'] [] pos) (tI m X.K E (QA3 w w')):=by
 refine PI.imp (PI.len (Qtq hg hm (Qel h (Qel h' Yv hs') hs) (by rw[Z8 hs,Z8 hs'];rfl) (hs2:=by rw[Z8 hs'];rfl))) λσ H R _ ⟨F,δ,R',EX,rel,hw,k,o⟩=>?_
 refine⟨F,δ,_,EX,rel,hw,λd hd v H1 rel1 kp1 vk=>⟨F,δ,_,EX,rel1,hd,λd2 hd2 v2 H2 rel2 kp2 vk2=>?_,o⟩,o⟩;cases d<;>cases d2<;>first | exact(show False from hd2).elim | skip
 obtain⟨l,xs,rfl,sl,e,q⟩:=stL (H':=H2) (kp2.vd (Qd6 vk));obtain⟨l2,ys,rfl,sl2,e2,q2⟩:=stL (H':=H2) (Qd6 vk2);refine⟨l,l2,xs,ys,rfl,e,e2,λln=>k _ hd2 _ H2 rel2 (kp1.trans kp2) ⟨?_,λH3 A' kk mm dm=>⟨λi d hd'=>?_,xs,ys,kk _ _ sl e,kk _ _ sl2 e2,by rw[QfD,q.length,q2.length];omega⟩⟩⟩
 ·rw[QfD,<- q.length];exact QX (QvG _ _) (ln _ _ (.inl e))
 obtain⟨a,b,ha,hb,rfl⟩:=zip_get hd';obtain⟨x,hx,dx⟩:=(Qbc (S:=Sx m F σ δ) (λb=>QfH) kk mm q).get i a ha;obtain⟨y,hy,dy⟩:=(Qbc (S:=Sx m F σ δ) (λb=>QfH) kk mm q2).get i b hb;refine⟨⟨xs,ys,x,y,kk _ _ sl e,kk _ _ sl2 e2,hx,hy⟩,λz H4 ⟨r,x',y',nr,hx',hy',e1,e3⟩=>?_⟩;subst e1 e3;have h1:=hx' xs (kk _ _ sl e);have h2:=hy' ys (kk _ _ sl2 e2);rw[hx] at h1;rw[hy] at h2;cases h1;cases h2;exact⟨JW nr,Qir dm nr dx dy⟩
theorem Qpj{x1}(hg:Gl X "zip")(hm:X.mg "zip" = none)(h:PE X e (tX m X.K E w))(h':PE X e' (tX m X.K E w'))(hs:notStar e=true:=by rfl)(hs':notStar e'=true:=by rfl):PI X (.Tuple elts x1 tpos) (.Call (.Name "zip" p) [e,e'] [] pos) (tI m X.K E (QA2 w w')):=by
 refine PI.imp (PI.len (QwA hg hm (Qel h (Qel h' Yv hs') hs) (by rw[Z8 hs,Z8 hs'];rfl) (hs2:=by rw[Z8 hs'];rfl))) λσ H R _ ⟨F,δ,R',EX,rel,hw,k,o⟩=>?_
 refine⟨F,δ,_,EX,rel,hw,λd hd v H1 rel1 kp1 vk=>⟨F,δ,_,EX,rel1,hd,λd2 hd2 v2 H2 rel2 kp2 vk2=>?_,o⟩,o⟩;cases d<;>cases d2<;>first | exact(show False from hd2).elim | skip
 obtain⟨l,xs,rfl,sl,e,q⟩:=stT (H':=H2) (kp2.vd (Qd6 vk));obtain⟨l2,ys,rfl,sl2,e2,q2⟩:=stT (H':=H2) (Qd6 vk2);refine⟨l,l2,xs,ys,rfl,e,e2,λln=>k _ hd2 _ H2 rel2 (kp1.trans kp2) ⟨?_,λH3 A' kk mm dm=>⟨λi d hd'=>?_,xs,ys,kk _ _ sl e,kk _ _ sl2 e2,by rw[QfD,q.length,q2.length];omega⟩⟩⟩
 ·rw[QfD,<- q.length];exact QX (QvG _ _) (ln _ _ (.inr e))
 obtain⟨a,b,ha,hb,rfl⟩:=zip_get hd';obtain⟨x,hx,dx⟩:=(Qbc (S:=Sx m F σ δ) (λb=>QfH) kk mm q).get i a ha;obtain⟨y,hy,dy⟩:=(Qbc (S:=Sx m F σ δ) (λb=>QfH) kk mm q2).get i b hb;refine⟨⟨xs,ys,x,y,kk _ _ sl e,kk _ _ sl2 e2,hx,hy⟩,λz H4 ⟨r,x',y',nr,hx',hy',e1,e3⟩=>?_⟩;subst e1 e3;have h1:=hx' xs (kk _ _ sl e);have h2:=hy' ys (kk _ _ sl2 e2);rw[hx] at h1;rw[hy] at h2;cases h1;cases h2;exact⟨JW nr,Qir dm nr dx dy⟩
end
def Qu9:Option Sl->Sl
 |some (.v d)=>.v d
 |some (.own ds)=>.pk ds
 |some (.pk ds)=>.pk ds
 |some .pot=>.pot
 |_=>.no
def QdY(cap:List (Option Nat))(δ:Sts):Sts:=cap.map λo=>match o with
 |none=>.no
 |some j=>Qu9 δ[j]?
theorem Qgr{cap:List (Option Nat)}{σ:L2.St}{i:Nat}{o:Option V}(h:(QcS cap σ)[i]? = some o):(cap[i]? = some none/\o=none)∨∃j,cap[i]? = some (some j)/\o=(σ[j]?).getD none:=by
 unfold QcS at h;rw[Qo] at h;obtain⟨c,hc,rfl⟩:=Zr.mp h;cases c with
 |none=>exact .inl ⟨hc,rfl⟩
 |some j=>exact .inr ⟨j,hc,rfl⟩
theorem Qgs{cap:List (Option Nat)}{δ:Sts}{i:Nat}{x:Sl}(h:(QdY cap δ)[i]? = some x):(cap[i]? = some none/\x=.no)∨∃j,cap[i]? = some (some j)/\x=Qu9 δ[j]? := by
 unfold QdY at h;rw[Qo] at h;obtain⟨c,hc,rfl⟩:=Zr.mp h;cases c with
 |none=>exact .inl ⟨hc,rfl⟩
 |some j=>exact .inr ⟨j,hc,rfl⟩
theorem QaQ{cap:List (Option Nat)}{σ:L2.St}{δ:Sts}{i:Nat}{o:Option V}{x:Sl}(h1:(QcS cap σ)[i]? = some o)(h2:(QdY cap δ)[i]? = some x)(hx:x≠.no):∃(j:Nat)(y:Sl),δ[j]? = some y/\x=Qu9 (some y)/\o=(σ[j]?).getD none:=by
 rcases Qgs h2 with⟨_,e⟩ | ⟨j,hj,e⟩
 ·exact absurd e hx
 ·rcases Qgr h1 with⟨z,_⟩ | ⟨j',hj',e'⟩
  ·rw[hj] at z;cases z
  ·rw[hj] at hj';cases hj';cases e2:δ[j]? with
   |none=>rw[e2] at e;exact absurd e hx
   |some y=>exact⟨j,y,e2,by rw[e,e2],e'⟩
theorem Qco{cap:List (Option Nat)}{σ:L2.St}{δ:Sts}{a:Addr}(h:Yh (QcS cap σ) (QdY cap δ) a):Yh σ δ a:=by
 obtain⟨i,h1,h2⟩:=h;obtain⟨j,y,hy,e,eo⟩:=QaQ h1 h2 (λz=>by cases z);cases y<;>first | (cases e;done) | skip
 refine⟨j,?_,hy⟩;cases e2:σ[j]? with
 |none=>rw[e2] at eo;cases eo
 |some o'=>rw[e2] at eo;exact congrArg some eo.symm
def inF(A1:Addr->Prop)(cap:List (Option Nat))(σ:L2.St)(δ:Sts)(H:Hp):Fm:=⟨H,A1,Yh (QcS cap σ) (QdY cap δ)⟩
theorem QjC{A1:Addr->Prop}{cap:List (Option Nat)}{σ:L2.St}{δ:Sts}{H:Hp}(h:∀a,Yh σ δ a->A1 a){a:Addr}:Av (inF A1 cap σ δ H) (QcS cap σ) (QdY cap δ) a↔A1 a:=by
 constructor
 ·rintro(z | ⟨i,h1,h2⟩)
  ·exact z
  ·rcases h2 with h2 | ⟨ds,h2⟩
   ·exact h a (Qco ⟨i,h1,h2⟩)
   ·obtain⟨j,y,hy,e,eo⟩:=QaQ h1 h2 (λz=>by cases z);cases y<;>cases e
 ·exact .inl
theorem Qm7{K:PySem.W.Frag}{F:Fm}{σ:L2.St}{δ:Sts}{H1 H3:Hp}{A1:Addr->Prop}{cap:List (Option Nat)}(rel:Rel K F σ H1 δ)(hA:∀a,Av F σ δ a->A1 a)(hN:∀a,A1 a->Av F σ δ a∨H1 a=none)
  (dm:∀a,A1 a->∃xs,H3 a=some (.lst xs))(kp:Kp σ δ H1 H3):Rel K (inF A1 cap σ δ H3) (QcS cap σ) H3 (QdY cap δ) where
 len:=by unfold QcS QdY;rw[Qc,Qc]
 dom:=dm
 dom0:=dm
 pt0:=λp hp=>⟨hA p (Y5 (Qco hp)),kp.2 p (Qco hp)⟩
 kx:=λb o _ e=>e
 sl:=λi o x h1 h2=>by
  have iv:∀{a:Addr},Av (inF A1 cap σ δ H3) (QcS cap σ) (QdY cap δ) a->A1 a:=λ{a}=>(QjC λa z=>hA a (Y5 z)).mp
  have mv:∀{v:V}{d:PyData},DA (Av F σ δ) H1 v d->DA (Av (inF A1 cap σ δ H3) (QcS cap σ) (QdY cap δ)) H3 v d:=λq=>q.mv (λa o n e=>kp.1 a o (λz=>n (Y5 z)) e) λa z=>hN a (iv z)
  have mvs:∀{v:List V}{d:List PyData},DAs (Av F σ δ) H1 v d->DAs (Av (inF A1 cap σ δ H3) (QcS cap σ) (QdY cap δ)) H3 v d:=λq=>q.mv (λa o n e=>kp.1 a o (λz=>n (Y5 z)) e) λa z=>hN a (iv z)
  cases x with
  |no=>trivial
  |own ds=>
   obtain⟨j,y,hy,e,eo⟩:=QaQ h1 h2 (λz=>by cases z);cases y<;>cases e
  |scr=>
   obtain⟨j,y,hy,e,eo⟩:=QaQ h1 h2 (λz=>by cases z);cases y<;>cases e
  |v d=>
   obtain⟨j,y,hy,e,eo⟩:=QaQ h1 h2 (λz=>by cases z);cases y<;>first | (cases e;done) | skip
   cases e;obtain⟨x,hx⟩:=rel.lt hy;obtain⟨v,rfl,q⟩:=rel.sl j _ _ hx hy;rw[hx] at eo;exact⟨v,eo,mv q⟩
  |pk ds=>
   obtain⟨j,y,hy,e,eo⟩:=QaQ h1 h2 (λz=>by cases z);cases y<;>first | (cases e;done) | skip
   ·cases e;obtain⟨x,hx⟩:=rel.lt hy;obtain⟨l,xs,rfl,e,q,f⟩:=rel.sl j _ _ hx hy;rw[hx] at eo;have np:=rel.own_pot hy hx;exact⟨l,xs,eo,kp.1 _ _ np e,mvs q,xs,kp.1 _ _ np e,λz=>np (Qco z)⟩
   ·cases e;obtain⟨x,hx⟩:=rel.lt hy;obtain⟨l,xs,rfl,e,q,ys,f,f2⟩:=rel.sl j _ _ hx hy;rw[hx] at eo;have np:¬Yh σ δ l:=by
     rintro⟨j,j1,j2⟩;obtain⟨p,m,e1,_,w⟩:=rel.sl j _ _ j1 j2;cases e1;rcases w with w | w
     ·exact f2 w
     ·rw[w] at f;cases f
    exact⟨l,xs,eo,kp.1 _ _ np e,mvs q,xs,kp.1 _ _ np e,λz=>np (Qco z)⟩
  |pot=>
   obtain⟨j,y,hy,e,eo⟩:=QaQ h1 h2 (λz=>by cases z);cases y<;>first | (cases e;done) | skip
   obtain⟨x,hx⟩:=rel.lt hy;obtain⟨p,n,rfl,e,q⟩:=rel.sl j _ _ hx hy;rw[hx] at eo;obtain⟨m,em⟩:=kp.2 p ⟨j,hx,hy⟩;have eo':o=some (.ref p):=eo;subst eo';exact⟨p,m,rfl,em,.inl ⟨i,h1,h2⟩⟩
 inj:=λi j a ds h1 h2 _=>by
  obtain⟨j,y,hy,e,eo⟩:=QaQ h2 h1 (λz=>by cases z);cases y<;>cases e
theorem Qoo:∀{σ σ':L2.St},σ'.length=σ.length->(∀(i:Nat) v,σ[i]? = some (some v)->σ'[i]? = some (some v))->Wk σ σ'
 |[],[],_,_=>trivial
 |[],_::_,h,_=>by cases h
 |_::_,[],h,_=>by cases h
 |none::a,x::b,h,g=>Qoo (σ:=a) (σ':=b) (by simpa using h) λi v e=>by simpa using g (i+1) v (by simpa using e)
 |some u::a,x::b,h,g=>by
  have h0:=g 0 u rfl;simp only[QiZ,Option.some.injEq] at h0;subst h0;exact⟨rfl,Qoo (σ:=a) (σ':=b) (by simpa using h) λi v e=>by simpa using g (i+1) v (by simpa using e)⟩
def Qcl(cap:List (Option Nat))(ix:List Nat):Bool:=ix.all λi=>match cap[i]? with
 |some none=>true
 |_=>false
theorem Qsl{cap:List (Option Nat)}{ix:List Nat}(hf:Qcl cap ix=true){σ σ4:L2.St}(hl:σ4.length=(QcS cap σ).length)(hj:∀j,j∉ix->σ4[j]? = (QcS cap σ)[j]?):Wk (QcS cap σ) σ4:=by
 refine Qoo hl λi v e=>?_
 by_cases z:i∈ix
 ·have:=YZ.mp hf i z;rcases Qgr e with⟨_,e2⟩ | ⟨j,hj2,_⟩
  ·cases e2
  ·rw[hj2] at this;cases this
 ·rw[hj i z];exact e
def XF:XP:=λ_=>False
@[irreducible] def QiY(items:List PyData)(wg:DG)(wt:DT)(we:DE)(δ:Sts)(Q:PyData->Prop):Prop:=∃Iv:Nat->List PyData->Prop,Iv 0 [] /\
 (∀(i:Nat) acc d,items[i]? = some d->Iv i acc->wg d δ λδ4=>wt δ4 (λb=>if b=true then we δ4 (λe=>Iv (i+1) (acc++[e])) XF else Iv (i+1) acc) XF)/\∀acc,Iv items.length acc->Q (.list acc)
def dComp(cap:List (Option Nat))(wi:DI)(wg:DG)(wt:DT)(we:DE):DE:=λδ Q EX=>wi δ (λitems=>QiY items wg wt we (QdY cap δ) Q) EX
def Qyz:DT:=λ_ Q _=>Q true
section
variable{X:Cx}{E:XK}
theorem Qr1{F:Fm}{E:XK}:Out F E XF:=λ_ z=>z.elim
theorem PTs.imp{es:List Q1}{t t':TT}(h:PTs X es t)(i:∀σ H Q,t' σ H Q->t σ H Q):PTs X es t':=λpins s σ H Q I q=>h pins s σ H Q I (i σ H Q q)
theorem Qo7:PTs X [] (tT X.K E Qyz):=PTs.imp Qtk λσ H Q ⟨F,δ,R,EX,rel,hw,k,o⟩=>k _ hw H rel (Kp.refl rel)
theorem Qo6{c:Q1}{t:DT}(h:PT X c (tT X.K E t)):PTs X [c] (tT X.K E t):=Ql9 h
theorem QiC{K:PySem.W.Frag}{A1:Addr->Prop}{cap:List (Option Nat)}{σ σ4:L2.St}{δ δ4:Sts}{H3 H4:Hp}(r:Rel K (inF A1 cap σ δ H3) σ4 H4 δ4)(hk:∀b o,¬Yh σ δ b->H4 b=some o->H3 b=none->False){b:Addr}(h:Yh σ4 δ4 b):Yh σ δ b:=by
 obtain⟨i,h1,h2⟩:=h;obtain⟨p,n,e,hp,w⟩:=r.sl i _ _ h1 h2;cases e;rcases w with w | w
 ·exact Qco w
 ·by_cases z:Yh σ δ b
  ·exact z
  ·exact(hk b _ z hp w).elim
theorem Qln{K:PySem.W.Frag}{F:Fm}{σ:L2.St}{δ:Sts}{H1 H3:Hp}{cap:List (Option Nat)}{ix:List Nat}{wg:DG}{wt:DT}{A1:Addr->Prop}{x:V}{d:PyData}{inner:L2.St->Hp->(Hp->Prop)->Prop}{kk:Hp->Prop}{T:Sts->Prop}{N:Prop}
  (hf:Qcl cap ix=true)(rel:Rel K F σ H1 δ)(hA:∀a,Av F σ δ a->A1 a)(hN:∀a,A1 a->Av F σ δ a∨H1 a=none)(dm:∀a,A1 a->∃xs,H3 a=some (.lst xs))(kp:Kp σ δ H1 H3)(dx:DA A1 H3 x d)
  (h:wg d (QdY cap δ) λδ4=>wt δ4 (λb=>if b=true then T δ4 else N) XF)
  (hT:∀σ4 δ4 H5,T δ4->Rel K (inF A1 cap σ δ H3) σ4 H5 δ4->Kp σ δ H3 H5->(∀b,Yh σ4 δ4 b->Yh σ δ b)->inner σ4 H5 kk)(hF:N->∀H5,Kp σ δ H3 H5->kk H5) :
  bOf (QcS cap σ) (tG ix K wg) (tT K E0 wt) inner x H3 kk:=by
 have ri:=Qm7 (cap:=cap) rel hA hN dm kp;have iv:∀{a:Addr},Av (inF A1 cap σ δ H3) (QcS cap σ) (QdY cap δ) a->A1 a:=λ{a}=>(QjC λa z=>hA a (Y5 z)).mp
 refine⟨inF A1 cap σ δ H3,QdY cap δ,d,_,ri,dx.mv (λ_ _ _ e=>e) λa z=>.inl (iv z),h,λδ4 h4 σ4 r4 st4 l4 j4=>⟨Qsl hf l4 j4,inF A1 cap σ δ H3,δ4,_,XF,r4,h4,λb hb H5 r5 kp5=>?_,Qr1⟩⟩;have pots:∀{b:Addr},Yh σ4 δ4 b->Yh σ δ b:=λz=>QiC r4 (λb o _ e1 e2=>by rw[e2] at e1;cases e1) z
 have K5:Kp σ δ H3 H5:=by
  refine⟨λb o n e=>kp5.1 b o (λz=>n (pots z)) e,λb hb=>?_⟩;by_cases z:Yh σ4 δ4 b
  ·exact kp5.2 b z
  ·obtain⟨n,e⟩:=kp.2 b hb;exact⟨n,kp5.1 _ _ z e⟩
 exact Qcb hb (λz=>hT σ4 δ4 H5 z r5 K5 λb=>pots) λz=>hF z H5 K5
structure Lp (σ:L2.St) (δ:Sts) (A1:Addr->Prop) (p:Addr) (H1 H2:Hp) (acc:List PyData):Prop where
 kp:Kp σ δ H1 H2
 at_:∃ys,H2 p=some (.lst ys)/\DAs A1 H2 ys acc
theorem Lp.step{σ:L2.St}{δ:Sts}{A1:Addr->Prop}{p:Addr}{H1 H2 H3:Hp}{acc:List PyData}(hpA:∀a,Yh σ δ a->A1 a)(hpn:¬Yh σ δ p)(h:Lp σ δ A1 p H1 H2 acc)(k:Kp σ δ H2 H3):Lp σ δ A1 p H1 H3 acc:=by
 obtain⟨ys,e,q⟩:=h.at_;exact⟨h.kp.trans k,ys,k.1 _ _ hpn e,q.mv (λa o n e=>k.1 a o (λz=>n (hpA a z)) e) λa z=>.inl z⟩
theorem Qse{K:PySem.W.Frag}{σ σ4:L2.St}{δ δ4:Sts}{H1 H3 H5:Hp}{cap:List (Option Nat)}{we:DE}{A1:Addr->Prop}{p:Addr}{acc:List PyData}{kk:Hp->Prop}{G:PyData->Prop}
  (hpA:A1 p)(hP:∀a,Yh σ δ a->A1 a)(hp1:H1 p=none)(hpn:¬Yh σ δ p)(lp:Lp σ δ A1 p H1 H5 acc)(hl:acc.length<sizeLine)(r5:Rel K (inF A1 cap σ δ H3) σ4 H5 δ4)(pots:∀b,Yh σ4 δ4 b->Yh σ δ b)
  (h:we δ4 G XF)(hk:∀e,G e->∀H',Lp σ δ A1 p H1 H' (acc++[e])->kk H'):Qx0 p (tX .D K E0 we) σ4 H5 kk:=by
 refine⟨inF A1 cap σ δ H3,δ4,G,XF,r5,h,λe he v H6 r6 kp6 dv=>?_,Qr1⟩;have k56:Kp σ δ H5 H6:=by
  refine⟨λb o n e=>kp6.1 b o (λz=>n (pots b z)) e,λb hb=>?_⟩;by_cases z:Yh σ4 δ4 b
  ·exact kp6.2 b z
  ·obtain⟨n,e⟩:=lp.kp.2 b hb;exact⟨n,kp6.1 _ _ z e⟩
 obtain⟨k6,ys,e6,q6⟩:=lp.step hP hpn k56;have up:∀{b:Addr}{o:HO},¬A1 b->H6 b=some o->upd H6 p (.lst (ys++[v])) b=some o:=λ{b o} n e=>by rw[JX (λz=>n (by rw[z];exact hpA))];exact e
 refine⟨ys,e6,by rw[q6.length];exact hl,hk e he _ ⟨⟨λb o n e=>?_,λb hb=>?_⟩,ys++[v],Jz,DAs.app (q6.mv (λ_ _=>up) λa z=>.inl z) (.cons (DA.mv dv (λa o n e=>up (λz=>n (.inl z)) e) λa z=>.inl (.inl z)) .nil)⟩⟩
 ·rw[JX (λz=>by rw[z,hp1] at e;cases e)];exact k6.1 b o n e
 ·rw[JX (λz=>hpn (by rw[<- z];exact hb))];exact k6.2 b hb
theorem QtU{M:List Str}{cap:List (Option Nat)}{elt tg iter:Q1}{ifs:List Q1}{scope:YV}{pos:Pos}{ix:List Nat}{wi:DI}{wg:DG}{wt:DT}{we:DE}(hc:X.calm=true)(ok:Qe1 X.N X.env.scope M scope cap=true)(hf:Qcl cap ix=true)
  (hi:PI X tg iter (tI .P X.K E wi))(hb:∀cl ex s3 H3 C,PG (blk X M scope cl ex s3 H3 C) tg (tG ix X.K wg)/\PTs (blk X M scope cl ex s3 H3 C) ifs (tT X.K E0 wt)/\PE (blk X M scope cl ex s3 H3 C) elt (tX .D X.K E0 we))
  (hs:∀x,foldedSetIterable iter X.env x=pure x:=by intro _;rfl):PE X (.ListComp elt [⟨tg,iter,ifs,0⟩] scope pos) (tX .F X.K E (dComp cap wi wg wt we)):=by
 refine PE.imp (Qo2 hc ok hi hb hs) λσ H Q ⟨F,δ,R,EX,rel,hw,k,o⟩=>?_
 refine⟨F,δ,_,EX,rel,hw,λitems hC J H1 rel1 kp1 ⟨ln,it⟩ p hp=>?_,o⟩;unfold QiY at hC;obtain⟨Iv,i0,step,fin⟩:=hC;have hpn:¬Yh σ δ p:=λz=>by obtain⟨xs,e⟩:=rel1.isl (Y5 (F:=F) z);rw[hp] at e;cases e
 let A1:Addr->Prop:=λa=>Av F σ δ a∨a=p
 have hP:∀a,Yh σ δ a->A1 a:=λa z=>.inl (Y5 z)
 have hN:∀a,A1 a->Av F σ δ a∨H1 a=none:=λa z=>z.elim .inl λz=>.inr (by rw[z];exact hp)
 have dmK:∀{H2:Hp},Kp σ δ H1 H2->(∃ys,H2 p=some (.lst ys))->∀a,A1 a->∃xs,H2 a=some (.lst xs):=λ{H2} k2 e2 a z=>by
  rcases z with z | z
  ·exact(rel1.kp k2).isl z
  ·rw[z];exact e2
 refine Qes items.length (λi H2=>i<=items.length/\∃acc,Iv i acc/\acc.length<=i/\Lp σ δ A1 p H1 H2 acc) ⟨Jc _,[],i0,Qh _,Kp.same rel1 (JW hp),[],Jz,.nil⟩ (λi H2 hi ⟨_,acc,iv,hl,lp⟩=>?_) λH2 ⟨_,acc,iv,hl,lp⟩=>?_
 ·obtain⟨k2,ys,e2,q2⟩:=lp;obtain⟨go,_⟩:=it H2 A1 (λb o n e=>k2.1 b o n e) hN (dmK k2 ⟨ys,e2⟩);have hd:items[i]? = some items[i]:=Qe hi;obtain⟨g1,g2⟩:=go i _ hd;refine⟨g1,λx H3 y kk hk=>?_⟩;obtain⟨s3,dx⟩:=g2 x H3 y;have k23:=Kp.same (rel1.kp k2) s3;have lp3:Lp σ δ A1 p H1 H3 acc:=Lp.step hP hpn ⟨k2,ys,e2,q2⟩ k23;refine Qln hf rel1 (λa z=>.inl z) hN (dmK lp3.kp ⟨ys,s3 _ _ e2⟩) lp3.kp dx (step i acc _ hd iv) (λσ4 δ4 H5 h5 r5 k5 pots=>?_) λh5 H5 k5=>hk _ ⟨hi,acc,h5,by omega,lp3.step hP hpn k5⟩
  exact Qse (.inr rfl) hP hp hpn (lp3.step hP hpn k5) (by omega) r5 pots h5 λe he H' lp'=>hk _ ⟨hi,acc++[e],he,by rw[Qr];show _+1<=_;omega,lp'⟩
 ·obtain⟨k2,ys,e2,q2⟩:=lp;obtain⟨_,st⟩:=it H2 A1 (λb o n e=>k2.1 b o n e) hN (dmK k2 ⟨ys,e2⟩);refine⟨st,k _ (fin acc iv) (.ref p) H2 (rel1.kp k2) (kp1.trans k2) ⟨.lst (λz=>?_) e2 (q2.mv (λ_ _ _ e=>e) λa z=>.inl (.inl z)),λl e1 _=>?_⟩⟩
  ·obtain⟨xs,e⟩:=rel1.isl z;rw[hp] at e;cases e
  ·cases e1;exact Qcj kp1 hp
theorem QiK{items:List PyData}{wg:DG}{wt:DT}{we:DE}{δ:Sts}{Q:PyData->Prop}(G:PyData->Option PyData)
  (h:∀d∈items,∀(k1:Prop)(k2:PyData->Prop),(G d=none->k1)->(∀e,G d=some e->k2 e)->wg d δ λδ4=>wt δ4 (λb=>if b=true then we δ4 k2 XF else k1) XF)(q:Q (.list (items.filterMap G))) :
  QiY items wg wt we δ Q:=by
 unfold QiY;refine⟨λi acc=>acc=(items.take i).filterMap G,by simp,λi acc d hd e=>?_,λacc e=>by rw[e,Zp];exact q⟩;have hs:(items.take (i+1)).filterMap G=(items.take i).filterMap G++(G d).toList:=by
  rw[ZR,hd,QkW];cases e2:G d<;>simp[e2]
 have e:acc=(items.take i).filterMap G:=e;refine h d (Q8 hd) _ _ (λe2=>?_) λe' e2=>?_
 ·show acc=(items.take (i+1)).filterMap G;rw[hs,e2,e];simp
 ·show acc++[e']=(items.take (i+1)).filterMap G;rw[hs,e2,e];rfl
theorem Qaq{items:List PyData}{wg:DG}{we:DE}{δ:Sts}{Q:PyData->Prop}(G:PyData->PyData)
  (h:∀d∈items,∀(k2:PyData->Prop),k2 (G d)->wg d δ λδ4=>we δ4 k2 XF)(q:Q (.list (items.map G))) :
  QiY items wg Qyz we δ Q:=by
 unfold QiY;refine⟨λi acc=>acc=(items.take i).map G,by simp,λi acc d hd e=>?_,λacc e=>by rw[e,Zp];exact q⟩;have hs:(items.take (i+1)).map G=(items.take i).map G++[G d]:=by
  rw[ZR,hd,Jj];simp
 have e:acc=(items.take i).map G:=e;have hh:=h d (Q8 hd) (λe=>acc++[e]=(items.take (i+1)).map G) (by show acc++[G d]=_;rw[hs,e]);simp only[Qyz,if_true];exact hh
end
theorem Qnm:∀{a b:List (Int×Int)},dkV a=dkV b->a=b
 |[],[],_=>rfl
 |[],_::_,h=>by cases h
 |_::_,[],h=>by cases h
 |p::a,q::b,h=>by
  have h:=List.cons.inj (show(Qcw p.1,V.int p.2)::dkV a=(Qcw q.1,V.int q.2)::dkV b from h);have h1:=Zs h.1;rw[Qnm h.2,QdK (QvD h1.1) (V.int.inj h1.2)]
mutual
theorem Qns{A B:Addr->Prop}{H:Hp}:∀(d d':PyData)(x:V),DA A H x d->DA B H x d'->d=d'
 |.none,d',_,.non,h=>by cases h;rfl
 |.bool _,d',_,.bl _,h=>by cases h;rfl
 |.int _,d',_,.int _,h=>by cases h;rfl
 |.str _,d',_,.str _ _,h=>by cases h;rfl
 |.tuple ds,d',_,.tup (xs:=xs) n e q,h=>by
  cases h with
  |@tup a ys es n' e' q'=>
   rw[e] at e';cases e';rw[Qgk ds es xs q q']
  |@lst a ys es n' e' q'=>rw[e] at e';cases e'
  |@dct a kvs' ds' n' e' q'=>rw[e] at e';cases e'
 |.list ds,d',_,.lst (xs:=xs) n e q,h=>by
  cases h with
  |@tup a ys es n' e' q'=>rw[e] at e';cases e'
  |@lst a ys es n' e' q'=>
   rw[e] at e';cases e';rw[Qgk ds es xs q q']
  |@dct a kvs' ds' n' e' q'=>rw[e] at e';cases e'
 |.dict _,d',_,.dct (kvs:=kvs) n e q,h=>by
  cases h with
  |@tup a ys es n' e' q'=>rw[e] at e';cases e'
  |@lst a ys es n' e' q'=>rw[e] at e';cases e'
  |@dct a kvs' ds' n' e' q'=>
   rw[e] at e';rw[q,q',Qnm (HO.dK.inj (QK e'))]
theorem Qgk{A B:Addr->Prop}{H:Hp}:∀(ds es:List PyData)(xs:List V),DAs A H xs ds->DAs B H xs es->ds=es
 |[],es,_,.nil,h=>by cases h;rfl
 |d::ds,es,_,.cons q qs,h=>by
  cases h with
  |@cons x xs e es q' qs'=>rw[Qns d e _ q q',Qgk ds es _ qs qs']
end
mutual
theorem QxG{A:Addr->Prop}{H:Hp}{l:Addr}{rs:List PyData}(root:DA A H (.ref l) (.list rs)):∀(d:PyData)(x:V),sizeOf d<sizeOf (YT rs)->DA A H x d->DA (λa=>A a∨a=l) H x d
 |.none,_,_,.non=>.non
 |.bool _,_,_,.bl _=>.bl _
 |.int _,_,_,.int _=>.int _
 |.str _,_,_,.str _ c=>.str _ c
 |.tuple ds,_,hs,.tup (a:=a) (xs:=xs) n e q=>.tup (λz=>z.elim n λz=>by subst z;cases root with | @lst _ ys _ n' e' q'=>(rw[e] at e';cases e')) e (Qgl root ds xs (by simp at hs ⊢;omega) q)
 |.list ds,_,hs,.lst (a:=a) (xs:=xs) n e q=>.lst (λz=>z.elim n λz=>by
   subst z;have:=Qns _ _ _ root (.lst n e q);rw[this] at hs;omega) e (Qgl root ds xs (by simp at hs ⊢;omega) q)
 |.dict _,_,hs,.dct (a:=a) n e q=>.dct (λz=>z.elim n λz=>by subst z;cases root with | @lst _ ys _ n' e' q'=>(rw[e] at e';cases e')) e q
theorem Qgl{A:Addr->Prop}{H:Hp}{l:Addr}{rs:List PyData}(root:DA A H (.ref l) (.list rs)):∀(ds:List PyData)(xs:List V),sizeOf ds<sizeOf (YT rs)->DAs A H xs ds->DAs (λa=>A a∨a=l) H xs ds
 |[],_,_,.nil=>.nil
 |d::ds,_,hs,.cons q qs=>.cons (QxG root d _ (by simp at hs ⊢;omega) q) (Qgl root ds _ (by simp at hs ⊢;omega) qs)
end
theorem DA.items{A:Addr->Prop}{H:Hp}{l:Addr}{ds:List PyData}(root:DA A H (.ref l) (.list ds)):∃xs,H l=some (.lst xs)/\DAs (λa=>A a∨a=l) H xs ds:=by
 have root':=root;cases root with
 |@lst _ xs _ n e q=>exact⟨xs,e,Qgl root' ds xs (by simp) q⟩
structure QeN where
 nx:Sts->Prop
 rt:PyData->Prop
 rtF:PyData->Prop
 bk:Sts->Prop
 ct:Sts->Prop
 ex:XP
abbrev DS:=QeN->Sts->Prop
structure Nx (K:PySem.W.Frag) (F:Fm) (σ:L2.St) (H:Hp) (δ:Sts) (R:Sts->Prop) (T:L2.St->Hp->Prop):Prop where
 go:∀δ',R δ'->∀σ' H',Rel K F σ' H' δ'->Stp F σ H δ σ' H' δ'->T σ' H'
structure Ends1 (K:PySem.W.Frag) (E:XK) (F:Fm) (σ:L2.St) (H:Hp) (δ:Sts) (DD:QeN) (D:Ends):Prop where
 nx:Nx K F σ H δ DD.nx D.nx
 rt:∀d,DD.rt d->∀v H',Ke F H'->DA F.A0 H' v d->D.rt v H'
 rtF:∀d,DD.rtF d->∀v H',Ke F H'->DA F.A0 H' v d->FrV F.H0 H' v->D.rt v H'
 bk:Nx K F σ H δ DD.bk D.bk
 ct:Nx K F σ H δ DD.ct D.ct
 ex:Out F E DD.ex
def tS(K:PySem.W.Frag)(E:XK)(w:DS):TS:=λD σ H=>∃(F:Fm)(δ:Sts)(DD:QeN),Rel K F σ H δ/\w DD δ/\Ends1 K E F σ H δ DD D
theorem Nx.step{K:PySem.W.Frag}{F:Fm}{σ σ1:L2.St}{H H1:Hp}{δ δ1:Sts}{R:Sts->Prop}{T:L2.St->Hp->Prop}(h:Nx K F σ H δ R T)(s:Stp F σ H δ σ1 H1 δ1):Nx K F σ1 H1 δ1 R T:=⟨λδ' hR σ' H' r st=>h.go δ' hR σ' H' r (s.trans st)⟩
theorem Ends1.step{K:PySem.W.Frag}{E:XK}{F:Fm}{σ σ1:L2.St}{H H1:Hp}{δ δ1:Sts}{DD:QeN}{D:Ends}(h:Ends1 K E F σ H δ DD D)(s:Stp F σ H δ σ1 H1 δ1):Ends1 K E F σ1 H1 δ1 DD D:=⟨h.nx.step s,h.rt,h.rtF,h.bk.step s,h.ct.step s,h.ex⟩
section
variable{X:Cx}{E:XK}
theorem PS.imp{e:ZY}{t t':TS}(h:PS X e t)(i:∀D σ H,t' D σ H->t D σ H):PS X e t':=λpins s σ H D I q=>h pins s σ H D I (i D σ H q)
theorem PSs.imp{e:List ZY}{t t':TS}(h:PSs X e t)(i:∀D σ H,t' D σ H->t D σ H):PSs X e t':=λpins s σ H D I q=>h pins s σ H D I (i D σ H q)
def QA5(a b:DS):DS:=λD δ=>a { D with nx:=b D } δ
def QxJ:DS:=λD δ=>D.nx δ
theorem Qo8:PSs X [] (tS X.K E QxJ):=PSs.imp Qin λD σ H ⟨F,δ,DD,rel,hw,en⟩=>en.nx.go δ hw σ H rel Stp.refl
theorem QtH{st:ZY}{w:DS}(h:PS X st (tS X.K E w)):PSs X [st] (tS X.K E w):=QbG h
theorem Qpf{st:ZY}{rest:List ZY}{w w':DS}(h:PS X st (tS X.K E w))(h':PSs X rest (tS X.K E w')):PSs X (st::rest) (tS X.K E (QA5 w w')):=by
 refine PSs.imp (Qae h h') λD σ H ⟨F,δ,DD,rel,hw,en⟩=>?_
 exact⟨F,δ,_,rel,hw,⟨λδ' h' σ' H' r st=>⟨F,δ',DD,r,h',en.step st⟩⟩,en.rt,en.rtF,en.bk,en.ct,en.ex⟩
def Qyy(i:Nat)(we:DE):DS:=λD δ=>we δ (λd=>D.nx (δ.set i (.v d))) D.ex
def QxL(i:Nat)(we:DE):DS:=λD δ=>we δ (λd=>match d with
 |.list ds=>D.nx (δ.set i (.own ds))
 |_=>False) D.ex
def QxK(i:Nat)(we:DE):DS:=λD δ=>we δ (λd=>match d with
 |.list [.int _]=>D.nx (δ.set i .pot)
 |_=>False) D.ex
variable{i:Nat}{e:Q1}{st:ZY}{we wi:DE}
theorem Qiq(h:PS X st (Qox (tX .D X.K E we) (QdH i))):PS X st (tS X.K E (Qyy i we)):=by
 refine PS.imp h λD σ H ⟨F,δ,DD,rel,hw,en⟩=>?_
 refine⟨F,δ,_,DD.ex,rel,hw,λd hd v H' rel' kp vk=>?_,en.ex⟩;exact en.nx.go _ hd _ H' (rel'.setv vk) ((Stp.kp kp).trans Stp.setv)
theorem Qsp{F:Fm}{σ:L2.St}{δ:Sts}{i:Nat}{l:Addr}{x:Sl}{a:Addr}(h:Av F (σ.set i (some (.ref l))) (δ.set i x) a):Av F σ δ a∨a=l:=by
 rcases h with h | ⟨j,h1,h2⟩
 ·exact .inl (.inl h)
 ·by_cases z:j=i
  ·subst z;cases set_eq h1;exact .inr rfl
  ·rw[Qao z] at h1 h2;exact .inl (.inr ⟨j,h1,h2⟩)
theorem Rel.seto{K:PySem.W.Frag}{F:Fm}{σ:L2.St}{H H':Hp}{δ:Sts}{l:Addr}{x:Sl}(r:Rel K F σ H δ)(r':Rel K F σ H' δ)(kp:Kp σ δ H H')(n:H l=none)(hx:∀A:Addr->Prop,(∀a,A a->Av F σ δ a∨H a=none)->(∀a,A a->Av F σ δ a∨a=l)->QBh K F H' A (some (.ref l)) x) :
  Rel K F (σ.set i (some (.ref l))) H' (δ.set i x)/\Stp F σ H δ (σ.set i (some (.ref l))) H' (δ.set i x):=by
 have nA:∀a,Av F (σ.set i (some (.ref l))) (δ.set i x) a->Av F σ δ a∨H a=none:=λa z=>(Qsp z).elim .inl λz=>.inr (by rw[z];exact n)
 have kk:∀a o,¬Av F σ δ a->H a=some o->H' a=some o:=λa o m e=>kp.1 a o (λz=>m (Y5 z)) e
 refine⟨?_,⟨kk,nA⟩⟩;exact{
  len:=by rw[Yb,Yb];exact r.len
  dom:=r'.dom
  dom0:=r'.dom0
  pt0:=r'.pt0
  kx:=r'.kx
  sl:=λj o y h1 h2=>by
   by_cases z:j=i
   ·subst z;cases set_eq h1;cases set_eq h2;exact hx _ nA λa z=>Qsp z
   ·rw[Qao z] at h1 h2;have h:=r.sl j o y h1 h2;have h':=r'.sl j o y h1 h2;cases y with
    |no=>trivial
    |v d=>obtain⟨v',e,q'⟩:=h;exact⟨v',e,q'.mv kk nA⟩
    |own ds=>obtain⟨l',xs,rfl,e2,q',f⟩:=h;exact⟨l',xs,rfl,kp.1 _ _ (r.own_pot h2 h1) e2,q'.mv kk nA,f⟩
    |pk ds=>
     obtain⟨l',xs,rfl,e2,q',ys,f,f2⟩:=h;refine⟨l',xs,rfl,kp.1 _ _ ?_ e2,q'.mv kk nA,ys,f,f2⟩;rintro⟨j,j1,j2⟩;obtain⟨p,m,e1,_,w⟩:=r.sl j _ _ j1 j2;cases e1;rcases w with w | w
     ·exact f2 w
     ·rw[w] at f;cases f
    |pot=>exact h'
    |scr=>exact h'
  inj:=λj k a ds h1 h2 ⟨h3,h4⟩=>by
   have ne:∀(k:Nat),k≠i->σ[k]? = some (some (.ref l))->(δ[k]? = some .pot∨∃ds,δ[k]? = some (.own ds))->False:=λk _ h3 h4=>by
    obtain⟨xs,e⟩:=r.isl (a:=l) (.inr ⟨k,h3,h4⟩);rw[n] at e;cases e
   by_cases z:j=i
   ·subst z;cases set_eq h2;by_cases z2:k=j
    ·exact z2.symm
    ·rw[Qao z2] at h3 h4;exact(ne k z2 h3 h4).elim
   ·rw[Qao z] at h1 h2;by_cases z2:k=i
    ·subst z2;cases set_eq h3;exact(ne j z h2 (.inr ⟨ds,h1⟩)).elim
    ·rw[Qao z2] at h3 h4;exact r.inj j k a ds h1 h2 ⟨h3,h4⟩ }
theorem Qne{K:PySem.W.Frag}{F:Fm}{σ:L2.St}{H:Hp}{δ:Sts}(r:Rel K F σ H δ){l:Addr}(n:H l=none):F.H0 l=none:=by
 cases e:F.H0 l with
 |none=>rfl
 |some o=>
  by_cases z:F.pt l
  ·obtain⟨_,m,e'⟩:=r.pt0 l z;rw[n] at e';cases e'
  ·rw[r.kx l o z e] at n;cases n
theorem Qpa(h:PS X st (Qox (tX .F X.K E we) (QdH i))):PS X st (tS X.K E (QxL i we)):=by
 refine PS.imp h λD σ H ⟨F,δ,DD,rel,hw,en⟩=>?_
 refine⟨F,δ,_,DD.ex,rel,hw,λd hd v H' rel' kp ⟨vk,fr⟩=>?_,en.ex⟩;obtain⟨ds,rfl⟩:∃ds,d=.list ds:=by cases d<;>first | exact⟨_,rfl⟩ | exact(show False from hd).elim
 obtain⟨l,rfl⟩:∃l,v=.ref l:=by cases vk;exact⟨_,rfl⟩
 obtain⟨xs,e,q⟩:=DA.items vk;have n:=fr l rfl ⟨xs,e⟩;obtain⟨r2,st⟩:=rel.seto (i:=i) (x:=.own ds) rel' kp n λA hA hB=>⟨l,xs,rfl,e,q.mv (λ_ _ _ e=>e) λa z=>.inl (hB a z),Qne rel n⟩
 exact en.nx.go _ hd _ H' r2 st
theorem Qo9(h:PS X st (Qox (tX .F X.K E we) (QdH i))):PS X st (tS X.K E (QxK i we)):=by
 refine PS.imp h λD σ H ⟨F,δ,DD,rel,hw,en⟩=>?_
 refine⟨F,δ,_,DD.ex,rel,hw,λd hd v H' rel' kp ⟨vk,fr⟩=>?_,en.ex⟩;split at hd
 ·cases vk with
  |@lst l xs ds na e q=>
   have n:=fr l rfl ⟨xs,e⟩;cases q with
   |cons q1 q2=>
    cases q1;cases q2;obtain⟨r2,st⟩:=rel.seto (i:=i) (x:=.pot) rel' kp n λA hA hB=>⟨l,_,rfl,e,.inr (Qne rel n)⟩
    exact en.nx.go _ hd _ H' r2 st
 ·exact hd.elim
def QBd(we:DE)(wg:DG):DS:=λD δ=>we δ (λd=>wg d δ D.nx) D.ex
theorem QtM{ix:List Nat}{wg:DG}(h:PS X st (Qox (tX .D X.K E we) (tG ix X.K wg))):PS X st (tS X.K E (QBd we wg)):=by
 refine PS.imp h λD σ H ⟨F,δ,DD,rel,hw,en⟩=>?_
 refine⟨F,δ,_,DD.ex,rel,hw,λd hd v H' rel' kp vk=>?_,en.ex⟩;exact⟨F,δ,d,_,rel',vk,hd,λδ' h' σ' r' st' _ _=>en.nx.go _ h' _ H' r' ((Stp.kp kp).trans st')⟩
def QA6(we:DE):DS:=λD δ=>we δ D.rt D.ex
def QuU(we:DE):DS:=λD δ=>we δ D.rtF D.ex
theorem QuS{F:Fm}{σ:L2.St}{δ:Sts}{H:Hp}{v:V}{d:PyData}(h:DA (Av F σ δ) H v d):DA F.A0 H v d:=h.mv (λ_ _ _ e=>e) λa z=>.inl (.inl z)
theorem QtF{e:Q1}{pos:Pos}(h:PE X e (tX .D X.K E we)):PS X (.Return (some e) pos) (tS X.K E (QA6 we)):=by
 refine PS.imp (QcI h) λD σ H ⟨F,δ,DD,rel,hw,en⟩=>?_
 exact⟨F,δ,_,DD.ex,rel,hw,λd hd v H' rel' kp vk=>en.rt d hd v H' rel'.ke (QuS vk),en.ex⟩
theorem Qpc{e:Q1}{pos:Pos}(h:PE X e (tX .F X.K E we)):PS X (.Return (some e) pos) (tS X.K E (QuU we)):=by
 refine PS.imp (QcI h) λD σ H ⟨F,δ,DD,rel,hw,en⟩=>?_
 exact⟨F,δ,_,DD.ex,rel,hw,λd hd v H' rel' kp vk=>en.rtF d hd v H' rel'.ke (QuS vk.1) λl e1 e2=>Qne rel (vk.2 l e1 e2),en.ex⟩
def QuT(i:Nat):DS:=λD δ=>match δ[i]? with
 |some (.own ds)=>D.rtF (.list ds)
 |some (.v d)=>D.rt d
 |_=>False
theorem Qpb{e:Q1}{pos:Pos}(h:PE X e (Qh9 i)):PS X (.Return (some e) pos) (tS X.K E (QuT i)):=by
 refine PS.imp (QcI h) λD σ H ⟨F,δ,DD,rel,hw,en⟩=>?_
 unfold QuT at hw;split at hw
 ·rename_i ds hd
  obtain⟨x,hx⟩:=rel.lt hd;obtain⟨l,xs,rfl,e,q,f⟩:=rel.sl i _ _ hx hd;refine⟨_,hx,en.rtF _ hw _ H rel.ke (.lst (λz=>?_) e (q.mv (λ_ _ _ e=>e) λa z=>.inl (.inl z))) λl' e1 _=>by cases e1;exact f⟩;obtain⟨ys,e'⟩:=rel.dom0 l z;rw[f] at e';cases e'
 ·rename_i d hd
  obtain⟨x,hx⟩:=rel.lt hd;obtain⟨v,rfl,q⟩:=rel.sl i _ _ hx hd;exact⟨v,hx,en.rt _ hw _ H rel.ke (QuS q)⟩
 ·exact hw.elim
def dIf(t:DT)(a b:DS):DS:=λD δ=>t δ (λc=>if c=true then a D δ else b D δ) D.ex
theorem QwJ{c:Q1}{a b:List ZY}{pos:Pos}{t:DT}{w w':DS}(hc:PT X c (tT X.K E t))(ha:PSs X a (tS X.K E w))(hb:PSs X b (tS X.K E w')):PS X (.If c a b pos) (tS X.K E (dIf t w w')):=by
 refine PS.imp (Qtl hc ha hb) λD σ H ⟨F,δ,DD,rel,hw,en⟩=>?_
 exact⟨F,δ,_,DD.ex,rel,hw,λb hb H' rel' kp=>Qcb hb (λz=>⟨F,δ,DD,rel',z,en.step (Stp.kp kp)⟩) λz=>⟨F,δ,DD,rel',z,en.step (Stp.kp kp)⟩,en.ex⟩
theorem Qmj{sts:List ZY}:PSs X sts (tS X.K E λ_ _=>False):=λpins s σ H D I ⟨F,δ,DD,rel,hw,en⟩=>hw.elim
def QAn(i:Nat)(rD:PyData->PyData->(PyData->Prop)->Prop)(we:DE):DS:=λD δ=>match δ[i]? with
 |some (.v d)=>we δ (λe=>rD d e (λz=>D.nx (δ.set i (.v z)))) D.ex
 |_=>False
theorem QtL{r:TIp}{rD:PyData->PyData->(PyData->Prop)->Prop}(hd:Qrn r rD)(h:PS X st (QAF i (tX .P X.K E we) (λx y H Q=>Qcp H->r x y H Q))):PS X st (tS X.K E (QAn i rD we)):=by
 refine PS.imp h λD σ H ⟨F,δ,DD,rel,hw,en⟩=>?_
 unfold QAn at hw;split at hw
 ·rename_i d hd'
  obtain⟨x,hx⟩:=rel.lt hd';obtain⟨v,rfl,q⟩:=rel.sl i _ _ hx hd';refine⟨v,hx,F,δ,_,DD.ex,rel,hw,λe he y H' rel' kp yk ln=>?_,en.ex⟩;refine hd (Av F σ δ) (Yh σ δ) H' v y d e _ _ ln (λa ha=>rel'.isl ha) (.inl (kp.da q)) yk he λz hz u H2 s du=>?_
  exact en.nx.go _ hz _ H2 ((rel'.same s).setv du) (((Stp.kp kp).trans (Stp.kp (Kp.same rel' s))).trans Stp.setv)
 ·exact hw.elim
theorem Qf3{g:Int->Int->Int}:Qrn (ipI g) (ii0 λi j=>.int (g i j)):=λA P H x y d1 d2 R Q ln dm hx hy h k=>by
 cases d1<;>cases d2<;>first | exact h.elim | skip
 rw[hx.int,hy.int];exact⟨_,_,rfl,rfl,k _ h _ H (Same.refl H) (.int _)⟩
theorem PIp.len{op:Qcx}{t:TIp}(h:PIp X op t):PIp X op (λx y H Q=>Qcp H->t x y H Q):=λpins s σ H x y v u Q I rx ry q=>h pins s σ H x y v u Q I rx ry (q (Inv.lens I))
theorem Rel.mut{K:PySem.W.Frag}{F:Fm}{σ:L2.St}{H:Hp}{δ:Sts}(r:Rel K F σ H δ){l:Addr}{ds ds':List PyData}{ys:List V}(h:δ[i]? = some (.own ds))(hx:σ[i]? = some (some (.ref l)))(q:DAs (Av F σ δ) H ys ds') :
  Rel K F σ (upd H l (.lst ys)) (δ.set i (.own ds'))/\Stp F σ H δ σ (upd H l (.lst ys)) (δ.set i (.own ds')):=by
 have hl:Av F σ δ l:=.inr ⟨i,hx,.inr ⟨ds,h⟩⟩;obtain⟨l',xs0,e0,el,_,f⟩:=r.sl i _ _ hx h;cases e0;have lt:i < δ.length:=(QU.mp h).1;have ge:(δ.set i (.own ds'))[i]? = some (.own ds'):=by rw[Qb8 lt]
 have kk:∀a o,¬Av F σ δ a->H a=some o->upd H l (.lst ys) a=some o:=λa o n e=>by rw[JX (λz=>n (by rw[z];exact hl))];exact e
 have av:∀a,Av F σ (δ.set i (.own ds')) a->Av F σ δ a:=λa z=>by
  rcases z with z | ⟨j,h1,h2⟩
  ·exact .inl z
  ·by_cases z:j=i
   ·subst z;exact .inr ⟨j,h1,.inr ⟨ds,h⟩⟩
   ·rw[Qao z] at h2;exact .inr ⟨j,h1,h2⟩
 have up:∀{b:Addr}{o:HO},b≠l->H b=some o->upd H l (.lst ys) b=some o:=λn e=>by rw[JX n];exact e
 refine⟨?_,⟨kk,λa z=>.inl (av a z)⟩⟩;exact{
  len:=by rw[Yb];exact r.len
  dom:=λa ha=>by
   by_cases z:a=l
   ·rw[z];exact⟨_,Jz⟩
   ·obtain⟨xs,e⟩:=r.dom a ha;exact⟨xs,up z e⟩
  dom0:=r.dom0
  pt0:=λp hp=>by
   obtain⟨h1,n,e⟩:=r.pt0 p hp;refine⟨h1,n,up (λz=>?_) e⟩;obtain⟨xs,e'⟩:=r.dom0 p h1;rw[z,f] at e';cases e'
  kx:=λb o n e=>up (λz=>by rw[z,f] at e;cases e) (r.kx b o n e)
  sl:=λj o y h1 h2=>by
   by_cases z:j=i
   ·subst z;rw[ge] at h2;cases h2;rw[hx] at h1;cases h1;exact⟨l,ys,rfl,Jz,q.mv kk λa z=>.inl (av a z),f⟩
   ·rw[Qao z] at h2;have hh:=r.sl j o y h1 h2;cases y with
    |no=>trivial
    |v d=>obtain⟨v',e,q'⟩:=hh;exact⟨v',e,q'.mv kk λa z=>.inl (av a z)⟩
    |own es=>
     obtain⟨l',xs,rfl,e2,q',f'⟩:=hh;exact⟨l',xs,rfl,up (λz2=>z (r.inj j i l' es h2 h1 ⟨by rw[z2];exact hx,.inr ⟨ds,h⟩⟩)) e2,q'.mv kk λa z=>.inl (av a z),f'⟩
    |pk es=>
     obtain⟨l',xs,rfl,e2,q',ys',f',f2⟩:=hh;exact⟨l',xs,rfl,up (λz2=>by rw[z2,f] at f';cases f') e2,q'.mv kk λa z=>.inl (av a z),ys',f',f2⟩
    |pot=>
     obtain⟨p,n,rfl,e2,w⟩:=hh;refine⟨p,n,rfl,up (λz2=>?_) e2,w⟩;subst z2;exact r.own_pot h hx ⟨j,h1,h2⟩
    |scr=>exact hh
  inj:=λj k a es h1 h2 ⟨h3,h4⟩=>by
   have h4':δ[k]? = some .pot∨∃ds,δ[k]? = some (.own ds):=by
    by_cases z:k=i
    ·subst z;exact .inr ⟨ds,h⟩
    ·rw[Qao z] at h4;exact h4
   by_cases z:j=i
   ·subst z;exact r.inj j k a ds h h2 ⟨h3,h4'⟩
   ·rw[Qao z] at h1;exact r.inj j k a es h1 h2 ⟨h3,h4'⟩ }
def QAo(i:Nat)(we:DE):DS:=λD δ=>match δ[i]? with
 |some (.own ds)=>we δ (λd=>ds.length<1000000/\D.nx (δ.set i (.own (ds++[d])))) D.ex
 |_=>False
theorem QtN(h:PS X st (Qls (tBM X.K "list" Ql2 (Qh9 i) (QgV (tX .D X.K E we) Qv2)))):PS X st (tS X.K E (QAo i we)):=by
 refine PS.imp h λD σ H ⟨F,δ,DD,rel,hw,en⟩=>?_
 unfold QAo at hw;split at hw
 ·rename_i ds hd
  obtain⟨x,hx⟩:=rel.lt hd;obtain⟨l,xs,rfl,e,q,f⟩:=rel.sl i _ _ hx hd;have np:=rel.own_pot hd hx;refine⟨.ref l,hx,.inl ⟨rfl,_,SqL.of e⟩,F,δ,_,DD.ex,rel,hw,λd ⟨hl,hn⟩ v H' rel' kp vk=>?_,en.ex⟩;have q':=kp.das q;refine⟨l,xs,v,rfl,rfl,kp.1 _ _ np e,QQ (by rw[q.length];exact hl) Qix,?_⟩;obtain⟨r2,st⟩:=rel'.mut hd hx (q'.app (.cons vk .nil));exact en.nx.go _ hn _ _ r2 ((Stp.kp kp).trans st)
 ·exact hw.elim
def QuY(i:Nat)(rD:PyData->PyData->(PyData->Prop)->Prop)(wi we:DE):DS:=λD δ=>match δ[i]? with
 |some (.own ds)=>wi δ (λz=>match z with
  |.int k=>∃j a,ixN ds.length k=some j/\ds[j]? = some a/\we δ (λe=>rD a e λb=>D.nx (δ.set i (.own (ds.set j b)))) D.ex
  |_=>False) D.ex
 |_=>False
theorem Qpg{r:TIp}{rD:PyData->PyData->(PyData->Prop)->Prop}(hd:Qrn r rD)(h:PS X st (Qv5 (Qh9 i) (tX .P X.K E wi) (tX .P X.K E we) (Qys X.K) (λx y H Q=>Qcp H->r x y H Q) Qwm)):PS X st (tS X.K E (QuY i rD wi we)):=by
 refine PS.imp h λD σ H ⟨F,δ,DD,rel,hw,en⟩=>?_
 unfold QuY at hw;split at hw
 ·rename_i ds hds
  obtain⟨x,hx⟩:=rel.lt hds;obtain⟨l,xs,rfl,e,q,f⟩:=rel.sl i _ _ hx hds;have np:=rel.own_pot hds hx;refine⟨.ref l,hx,F,δ,_,DD.ex,rel,hw,λz hz y H1 rel1 kp1 yk=>?_,en.ex⟩;cases z<;>first | exact(show False from hz).elim | skip
  obtain⟨j,a,hj,ha,hn⟩:=hz;have q1:=kp1.das q;obtain⟨va,hva,da⟩:=q1.get j a ha;rw[DP.int yk];refine⟨l,xs,_,va,rfl,rfl,SqL.of (kp1.1 _ _ np e),by unfold atI;rw[q.length,hj];exact hva,F,δ,_,DD.ex,rel1,hn,λb hb u H2 rel2 kp2 uk ln=>?_,en.ex⟩;refine hd (Av F σ δ) (Yh σ δ) H2 va u a b _ _ ln (λa ha=>rel2.isl ha) (.inl (kp2.da da)) uk hb λc hc w H3 s dw=>?_
  have r3:=rel2.same s;have k3:=kp2.trans (Kp.same rel2 s);refine⟨l,xs,_,j,rfl,rfl,k3.1 _ _ np (kp1.1 _ _ np e),by rw[q.length];exact hj,?_⟩;obtain⟨r4,st⟩:=r3.mut hds hx ((k3.das q1).set dw j);exact en.nx.go _ hc _ _ r4 (((Stp.kp kp1).trans (Stp.kp k3)).trans st)
 ·exact hw.elim
@[irreducible] def Qvk(items:List PyData)(wg:DG)(wb:DS)(D:QeN)(δ:Sts):Prop:=∃Iv:Nat->Sts->Prop,Iv 0 δ/\(∀(i:Nat) d δ,items[i]? = some d->Iv i δ->wg d δ λδ2=>wb { D with nx:=Iv (i+1),ct:=Iv (i+1),bk:=D.nx } δ2)/\∀δ,Iv items.length δ->D.nx δ
def dFor(wi:DI)(wg:DG)(wb:DS):DS:=λD δ=>wi δ (λitems=>Qvk items wg wb D δ) D.ex
theorem QtK{tg iter:Q1}{body:List ZY}{pos:Pos}{ix:List Nat}{wi:DI}{wg:DG}{wb:DS}(hp:QfA (model X.prog X.w) X.A X.env X.xe)(hc:X.calm=true)(hi:PI X tg iter (tI .D X.K E wi))(hg:PG X tg (tG ix X.K wg))(hb:PSs X body (tS X.K E wb))
  (hs:∀x,foldedSetIterable iter X.env x=pure x:=by intro _;rfl):PS X (.For tg iter body [] pos) (tS X.K E (dFor wi wg wb)):=by
 refine PS.imp (QrT hp hc hi hg hb hs) λD σ H ⟨F,δ,DD,rel,hw,en⟩=>?_
 refine⟨F,δ,_,DD.ex,rel,hw,λitems hC J H1 rel1 kp1 ⟨ln,it⟩=>?_,en.ex⟩;unfold Qvk at hC;obtain⟨Iv,i0,step,fin⟩:=hC;have en1:=en.step (Stp.kp (F:=F) kp1);refine⟨λi m σ' H'=>m=items.length - i/\i<=items.length/\∃δ',Iv i δ'/\Rel X.K F σ' H' δ'/\Stp F σ H1 δ σ' H' δ',⟨_,rfl,Jc _,δ,i0,rel1,Stp.refl⟩,?_⟩;rintro i m σ' H' ⟨rfl,hi',δ',iv,r',st'⟩;obtain⟨go,stop⟩:=it H' (Av F σ' δ') st'.1 st'.2 λa ha=>r'.isl ha
 by_cases hlt:i<items.length
 ·have hd:items[i]? = some items[i]:=Qe hlt;obtain⟨g1,g2⟩:=go i _ hd;refine .inr ⟨g1,λσ2 H2=>∃δ2,Iv (i+1) δ2/\Rel X.K F σ2 H2 δ2/\Stp F σ H1 δ σ2 H2 δ2,λσ2 H2 ⟨δ2,h2,r2,s2⟩=>⟨_,by omega,rfl,hlt,δ2,h2,r2,s2⟩,λx H3 y=>?_⟩;obtain⟨s3,dx⟩:=g2 x H3 y;have r3:=r'.same s3;have st3:Stp F σ H1 δ σ' H3 δ':=st'.trans (Stp.kp (Kp.same r' s3));refine⟨F,δ',_,_,r3,dx,step i _ δ' hd iv,λδ4 h4 σ4 r4 st4 _ _=>⟨F,δ4,_,r4,h4,?_⟩⟩;have st5:=st3.trans st4;exact⟨⟨λδ6 h6 σ6 H6 r6 s6=>⟨δ6,h6,r6,st5.trans s6⟩⟩,en.rt,en.rtF,(en1.step st5).nx,⟨λδ6 h6 σ6 H6 r6 s6=>⟨δ6,h6,r6,st5.trans s6⟩⟩,en.ex⟩
 ·have e:i=items.length:=by omega
  subst e;exact .inl ⟨stop,(en1.step st').nx.go δ' (fin δ' iv) σ' H' r' Stp.refl⟩
theorem Qgg{lo:Int}{n:Nat}{wg:DG}{wb:DS}{D:QeN}{δ:Sts}(Iv:Nat->Sts->Prop)(h0:Iv 0 δ)
  (hs:∀(i:Nat) δ,i<n->Iv i δ->wg (.int (lo+i)) δ λδ2=>wb { D with nx:=Iv (i+1),ct:=Iv (i+1),bk:=D.nx } δ2)(hd:∀δ,Iv n δ->D.nx δ):Qvk (Qji lo n) wg wb D δ:=by
 unfold Qvk;exact⟨Iv,h0,λi d δ hd iv=>by obtain⟨hi,rfl⟩:=Qeg hd;exact hs i δ hi iv,λδ iv=>hd δ (by rw[Qii] at iv;exact iv)⟩
theorem QaE{items:List PyData}{wg:DG}{wb:DS}{D:QeN}{δ:Sts}(Iv:Nat->Sts->Prop)(h0:Iv 0 δ)
  (hs:∀(i:Nat) d δ,items[i]? = some d->Iv i δ->wg d δ λδ2=>wb { D with nx:=Iv (i+1),ct:=Iv (i+1),bk:=D.nx } δ2)(hd:∀δ,Iv items.length δ->D.nx δ):Qvk items wg wb D δ:=by
 unfold Qvk;exact⟨Iv,h0,hs,hd⟩
def QxQ(we:DE):DS:=λD δ=>we δ (λ_=>D.nx δ) D.ex
theorem Qpe(h:PS X st (Qls (tX .P X.K E we))):PS X st (tS X.K E (QxQ we)):=by
 refine PS.imp h λD σ H ⟨F,δ,DD,rel,hw,en⟩=>?_
 exact⟨F,δ,_,DD.ex,rel,hw,λd hd v H' rel' kp vk=>en.nx.go δ hd σ H' rel' (Stp.kp kp),en.ex⟩
end
def stD(N:List Str)(args:List Sl):Sts:=args++QR (N.length - args.length) .no
theorem Qfi{α β:Type}{R:α->β->Prop}:∀{xs:List α}{ys:List β},Qa9 R xs ys->∀(i:Nat) x y,xs[i]? = some x->ys[i]? = some y->R x y
 |_,_,.nil,i,x,y,h,_=>by simp at h
 |_,_,.cons a b,0,x,y,h,h'=>by simp at h h';subst h h';exact a
 |_,_,.cons a b,i+1,x,y,h,h'=>Qfi b i x y (by simpa using h) (by simpa using h')
theorem QlC{K:PySem.W.Frag}{N:List Str}{A pt:Addr->Prop}{H:Hp}{vs:List V}{args:List Sl}(dm:∀a,A a->∃xs,H a=some (.lst xs))(hp:∀p,pt p->A p/\∃n,H p=some (.lst [.int n]))(q:Qa9 (QkS A pt H) vs args):Rel K ⟨H,A,pt⟩ (L2.start N vs) H (stD N args):=by
 have hl:vs.length=args.length:=q.length;have no:∀(i:Nat) x,(stD N args)[i]? = some x->(i<args.length/\args[i]? = some x)∨x=.no:=λi x h=>by
  unfold stD at h;by_cases z:i<args.length
  ·rw[Z4 z] at h;exact .inl ⟨z,h⟩
  ·rw[ZX (by omega),ZM] at h;split at h
   ·exact .inr (QK h).symm
   ·cases h
 have arg:∀(i:Nat) o x,(L2.start N vs)[i]? = some o->(stD N args)[i]? = some x->x≠.no->∃v,o=some v/\QkS A pt H v x:=λi o x h1 h2 hx=>by
  rcases no i x h2 with⟨z,e⟩ | e
  ·unfold L2.start at h1;rw[Z4 (by rw[Qc];omega),Qo] at h1;obtain⟨v,hv,rfl⟩:=Zr.mp h1;exact⟨v,rfl,Qfi q i v x hv e⟩
  ·exact absurd e hx
 have av:∀a,Av ⟨H,A,pt⟩ (L2.start N vs) (stD N args) a->A a:=λa z=>by
  rcases z with z | ⟨i,h1,h2⟩
  ·exact z
  ·rcases h2 with h2 | ⟨ds,h2⟩
   ·obtain⟨v,e,p,rfl,hp'⟩:=arg i _ _ h1 h2 (λz=>by cases z);cases e;exact(hp _ hp').1
   ·obtain⟨v,e,hh⟩:=arg i _ _ h1 h2 (λz=>by cases z);exact hh.elim
 exact{
  len:=by unfold L2.start stD;rw[Qr,Qr,Qc,Qaw,Qaw,hl]
  dom:=dm
  dom0:=dm
  pt0:=hp
  kx:=λ_ _ _ e=>e
  sl:=λi o x h1 h2=>by
   cases x with
   |no=>trivial
   |v d=>
    obtain⟨v,e,hh⟩:=arg i _ _ h1 h2 (λz=>by cases z);exact⟨v,e,DA.mv hh (λ_ _ _ e=>e) λa z=>.inl (av a z)⟩
   |pot=>
    obtain⟨v,e,p,rfl,hp'⟩:=arg i _ _ h1 h2 (λz=>by cases z);obtain⟨_,n,en⟩:=hp p hp';exact⟨p,n,e,en,.inl hp'⟩
   |own ds=>obtain⟨v,e,hh⟩:=arg i _ _ h1 h2 (λz=>by cases z);exact hh.elim
   |pk ds=>obtain⟨v,e,hh⟩:=arg i _ _ h1 h2 (λz=>by cases z);exact hh.elim
   |scr=>obtain⟨v,e,hh⟩:=arg i _ _ h1 h2 (λz=>by cases z);exact hh.elim
  inj:=λi j a ds h1 h2 _=>by
   obtain⟨v,e,hh⟩:=arg i _ _ h2 h1 (λz=>by cases z);exact hh.elim }
def QBF:PyData->Bool
 |.list _=>false
 |_=>true
def rtD:Bool->(PyData->Prop)->PyData->Prop
 |true,R,d=>QBF d=true/\R d
 |false,R,d=>R d
def Qp8(fr:Bool)(R:PyData->Prop)(EX:XP):QeN:=⟨λ_=>R .none,rtD fr R,R,λ_=>False,λ_=>False,EX⟩
theorem QuO{K:PySem.W.Frag}{E Ex:XK}{fr:Bool}{A pt:Addr->Prop}{H:Hp}{R:PyData->Prop}{EX EX':XP}{Q:VK}{σ:L2.St}{δ:Sts}(k:∀d,R d->∀v H',Kq pt H H'->DA A H' v d->(fr=true->FrV H H' v)->Q v H')(o:Out ⟨H,A,pt⟩ E EX') :
  Ends1 K E ⟨H,A,pt⟩ σ H δ (Qp8 fr R EX') { nx:=λ_ H'=>Q .non H',rt:=Q } where
 nx:=⟨λδ' hR σ' H' r st=>k _ hR _ H' r.ke .non λ_=>QuK⟩
 rt:=λd h v H' ke dv=>by
  cases fr with
  |false=>exact k d h v H' ke dv λz=>by cases z
  |true=>
   obtain⟨h1,h2⟩:=h;refine k d h2 v H' ke dv λz l e1 ⟨xs,e2⟩=>?_
   subst e1;cases dv with
   |@tup a ys ds n e q=>rw[e] at e2;cases e2
   |@lst a ys ds n e q=>cases h1
   |@dct a kvs ds n e q=>rw[e] at e2;cases e2
 rtF:=λd h v H' ke dv fr'=>k d h v H' ke dv λ_=>fr'
 bk:=⟨λ_ h=>h.elim⟩
 ct:=⟨λ_ h=>h.elim⟩
 ex:=o
section
variable{P:QC}{w:Jf}{K:PySem.W.Frag}{mg:Str->Option Value}{base:Heap}
theorem okD{x qual:Str}{st:ZY}{f:Addr}{fd:QL}{N ps:List Str}{k:Nat}{fD:DF}(fr:Bool)(F:Fun K x qual st f fd)(S:Jl N ps (Qm st))(len:∀args R EX,fD args R EX->args.length=ps.length)
  (hbody:∀(cdv:Value)(A:Ja)(outer:List Env)(s:Shared)(H:Hp)(E:XK),Room k (A.deeper (envOfC qual (Qm st) s.heap.objs.size f cdv)) ->
   ∃wd,PSs (Qn8 CX0 P w K mg base N qual (Qm st) f cdv A outer s H E).nox (Jh st) (tS K E0 wd)/\∀args R EX,fD args R EX->wd (Qp8 fr R XF) (stD N args)):FnOk P w K mg base CX0 (k+1) f fd ps (JO fr fD):=by
 refine F.ok S (λvs H Q E h=>?_) λcdv A outer s H vs Q E hr h=>?_
 ·obtain⟨A,pt,args,R,EX,_,_,q,h,_⟩:=h;rw[q.length];exact len _ _ _ h
 ·obtain⟨wd,hp,hw⟩:=hbody cdv A outer s H E hr;obtain⟨A',pt,args,R,EX,dm,hpt,q,h,k,_⟩:=h;exact⟨_,hp,⟨H,A',pt⟩,_,_,QlC dm hpt q,hw args R EX h,QuO (Ex:=E) (EX:=EX) k Qr1⟩
end
end Dl
namespace L2
def QAA(i j:Int):Prop:=0<j/\j<=10^40
theorem Qpw{X:Cx}:OpR X (binaryOp .FloorDiv) (rI QAA λi j=>.int (i / j)):=opI λi j _ _ _ _ _ hc q=>by
 have h1:(0:Int)<j:=hc.1;have h2:j<=10^40:=hc.2;refine floordiv_int (by omega) (by rw[Int.fdiv_eq_ediv_of_nonneg i (by omega)];exact q) (.inl (PyProof.noPylong_of_log2 ?_));have h3:j.natAbs<2^200:=by
  have:(10:Int)^40<2^200:=by decide
  omega
 have:=(Nat.log2_lt (by omega:j.natAbs≠0)).mpr h3;omega
end L2
namespace Rk
open L2 _root_.Rd
def Qjf:Sp:=λvs H Q _=>∃p n f,vs=[.ref p,.int f]/\H p=some (.lst [.int n])/\0<f/\f<=10^40/\∀r m,0<=r->r<f->Q (.int r) (upd H p (.lst [.int m]))
end Rk
namespace Dl
open L2 _root_.Rd Rk
theorem JI{X:Cx}{E:XK}:QeM CX0 X E:=λ_ _ _ _ _ _ _ h=>h.elim
theorem Room.u60{k:Nat}{A:Ja}(r:Room k A):A.units+60<cLine:=by have:=r.un;omega
theorem Room.i60{k:Nat}{A:Ja}(r:Room k A):A.in1.units+60<cLine:=by
 have:=r.un;show A.units+1+60<cLine;omega
section
variable{X:Cx}{E:XK}{CX:CXT}{k:Nat}{f:Addr}{fd:QL}{ps:List Str}{x:Str}{p pos:Pos}{e:Q1}{es:List Q1}{fD:DF}
def Qov:DF:=λargs R _=>∃f,args=[.pot,.v (.int f)]/\0<f/\f<=10^40/\∀r,0<=r->r<f->R (.int r)
theorem QvV{vs:List V}{H:Hp}{Q:VK}{Ex:XK}(h:JO true Qov vs H Q Ex):Qjf vs H Q Ex:=by
 obtain⟨A,pt,args,R,EX,dm,hp,q,⟨f,rfl,f0,f1,hR⟩,k,_⟩:=h;cases q with
 |cons q1 q2=>cases q2 with
  |cons q2 q3=>
   cases q3;obtain⟨p,rfl,pp⟩:=q1;cases q2;obtain⟨_,n,e⟩:=hp p pp;refine⟨p,n,f,rfl,e,f0,f1,λr m r0 r1=>k _ (hR r r0 r1) _ _ ⟨λb o nb eb=>?_,λz hz=>?_⟩ (.int _) λ_=>YI⟩
   ·rw[JX (λz=>nb (by rw[z];exact pp))];exact eb
   ·by_cases y:z=p
    ·rw[y];exact⟨m,Jz⟩
    ·obtain⟨_,n',e'⟩:=hp z hz;exact⟨n',by rw[JX y];exact e'⟩
def Qzy:DF:=λargs R _=>∃c,args=[.v (.int c)]/\∀n,R (.list [.int n])
theorem Qzx{vs:List V}{H:Hp}{Q:VK}{Ex:XK}(h:JO true Qzy vs H Q Ex):Qv7 vs H Q Ex:=by
 obtain⟨A,pt,args,R,EX,dm,hp,q,⟨c,rfl,hR⟩,k,_⟩:=h;cases q with
 |cons q1 q2=>
  cases q2;cases q1;refine⟨c,rfl,λp n hn=>k _ (hR n) _ _ ⟨λb o _ eb=>JW hn b o eb,λz hz=>?_⟩ (.lst (λz=>?_) Jz (.cons (.int _) .nil)) λ_=>QaD hn⟩
  ·obtain⟨_,n',e'⟩:=hp z hz;exact⟨n',JW hn _ _ e'⟩
  ·obtain⟨xs,e⟩:=dm p z;rw[hn] at e;cases e
def isW:PyData->Bool
 |.int _=>true
 |_=>false
def Qlg:DF:=λargs R _=>∃d,args=[.v d]/\R (.bool (isW d))
theorem QlL{K:PySem.W.Frag}{F:Fm}{σ:L2.St}{H:Hp}{δ:Sts}(r:Rel K F σ H δ){a:Addr}{xs:List V}(h:SqL K F.H0 a xs)(n:¬F.pt a):SqL K H a xs:=by
 rcases h with h | h
 ·rcases h with h | ⟨o,h⟩
  ·exact .inl (.inl (r.kx _ _ n h))
  ·exact .inl (.inr ⟨o,r.kx _ _ n h⟩)
 ·exact .inr h
def QuW(i:Nat):DE:=λδ Q _=>match δ[i]? with
 |some .scr=>∀n:Nat,n<=63->Q (.int n)
 |_=>False
theorem QtS{i:Nat}{a:Q1}(hg:Gl X "len")(hm:X.mg "len" = none)(h:PE X a (Qh9 i))(hs:notStar a=true:=by rfl):PE X (.Call (.Name "len" p) [a] [] pos) (tX .F X.K E (QuW i)):=by
 refine PE.imp (QcJ QbN hg hm Yg (Qel h Yv hs) (he:=by rw[Z8 hs])) λσ H Q ⟨F,δ,R,EX,rel,hw,k,o⟩=>?_
 unfold QuW at hw;split at hw
 ·rename_i hd
  obtain⟨x,hx⟩:=rel.lt hd;obtain⟨l,ns,rfl,sq,np,n63⟩:=rel.sl i _ _ hx hd;refine⟨_,hx,l,_,rfl,.inl (QlL rel sq np),?_⟩;rw[Qc];exact k _ (hw _ n63) _ H rel (Kp.refl rel) ⟨.int _,YI⟩
 ·exact hw.elim
def QuX(i:Nat)(wb:DE):DE:=λδ Q EX=>match δ[i]? with
 |some .scr=>wb δ (λd=>match d with
  |.int k=>0<=k/\∀c,Q (.int c)
  |_=>False) EX
 |_=>False
theorem QtV{i:Nat}{a b:Q1}{wb:DE}(G:FnOk X.prog X.w X.K X.mg X.base CX0 k f fd ps (QcE X.K))(hr:Room k X.A)(hg:Gl X x)(hm:X.mg x=some (.ref f))(hk:PySem.W.keepIn X.K (.ref f)=true)(hb:Binds X.K fd ps [])
  (ha:PE X a (Qh9 i))(h:PE X b (tX .P X.K E wb))(h1:notStar a=true:=by rfl)(h2:notStar b=true:=by rfl)(hdb:(x == ("__debug__" : Str))=false:=by decide) :
  PE X (.Call (.Name x p) [a,b] [] pos) (tX .F X.K E (QuX i wb)):=by
 refine PE.imp (Qip (E:=E) G hr hg hm hk hb .nil JI (Qel ha (Qel h Yv h2) h1) hdb (Z8 h1) (by rw[Z8 h2];rfl)) λσ H Q ⟨F,δ,R,EX,rel,hw,k,o⟩=>?_
 unfold QuX at hw;split at hw
 ·rename_i hd
  obtain⟨x,hx⟩:=rel.lt hd;obtain⟨l,ns,rfl,sq,np,n63⟩:=rel.sl i _ _ hx hd;refine⟨_,hx,F,δ,_,EX,rel,hw,λd hd2 v H' rel' kp vk=>?_,o⟩;cases d<;>first | exact(show False from hd2).elim | skip
  rw[DP.int vk];exact⟨l,ns,_,rfl,QlL rel' sq np,Qd3 n63 (by decide),hd2.1,λc=>k _ (hd2.2 c) _ H' rel' kp ⟨.int _,YI⟩⟩
 ·exact hw.elim
end
section
variable{P:QC}{w:Jf}{K:PySem.W.Frag}{mg:Str->Option Value}{base:Heap}
def Qe9(K:PySem.W.Frag):Sp:=λvs H Q _=>∃(a:Addr)(ns:List Int),vs=[.ref a]/\SqL K H a (ns.map V.int)/\ns.length<=63/\∀H',Q (.bl true) H'
def QxC:QeN:=⟨λ_=>False,λd=>d=.bool true,λd=>d=.bool true,λ_=>False,λ_=>False,XF⟩
theorem QzR{x qual:Str}{st:ZY}{f:Addr}{fd:QL}{N:List Str}{p:Str}{k:Nat}(F:Fun K x qual st f fd)(S:Jl N [p] (Qm st))
  (hbody:∀(cdv:Value)(A:Ja)(outer:List Env)(s:Shared)(H:Hp)(E:XK),Room k (A.deeper (envOfC qual (Qm st) s.heap.objs.size f cdv)) ->
   ∃wd,PSs (Qn8 CX0 P w K mg base N qual (Qm st) f cdv A outer s H E).nox (Jh st) (tS K E0 wd)/\wd QxC (stD N [.scr])):FnOk P w K mg base CX0 (k+1) f fd [p] (Qe9 K):=by
 refine F.ok S (λvs H Q E h=>?_) λcdv A outer s H vs Q E hr h=>?_
 ·obtain⟨a,ns,rfl,_⟩:=h;rfl
 ·obtain⟨wd,hp,hw⟩:=hbody cdv A outer s H E hr;obtain⟨a,ns,rfl,sq,n63,k⟩:=h;have get0:∀(i:Nat) o y,(L2.start N [V.ref a])[i]? = some o->(stD N [.scr])[i]? = some y->y≠.no->o=some (.ref a)/\y=.scr:=λi o y h1 h2 hy=>by
   cases i with
   |zero=>cases h1;cases h2;exact⟨rfl,rfl⟩
   |succ i=>
    unfold stD at h2;rw[ZX (by simp),ZM] at h2;split at h2
    ·exact absurd (QK h2).symm hy
    ·cases h2
  have noav:∀b,¬Av (⟨H,λ_=>False,λ_=>False⟩:Fm) (L2.start N [V.ref a]) (stD N [.scr]) b:=λb z=>by
   rcases z with z | ⟨i,h1,h2⟩
   ·exact z
   ·rcases h2 with h2 | ⟨ds,h2⟩
    ·cases(get0 i _ _ h1 h2 (λz=>by cases z)).2
    ·cases(get0 i _ _ h1 h2 (λz=>by cases z)).2
  refine⟨_,hp,⟨H,λ_=>False,λ_=>False⟩,_,_,?_,hw,?_⟩
  ·exact{
    len:=by unfold L2.start stD;simp
    dom:=λ_ h=>h.elim
    dom0:=λ_ h=>h.elim
    pt0:=λ_ h=>h.elim
    kx:=λ_ _ _ e=>e
    sl:=λi o y h1 h2=>by
     cases y with
     |no=>trivial
     |scr=>
      obtain⟨rfl,_⟩:=get0 i _ _ h1 h2 (λz=>by cases z);exact⟨a,ns,rfl,sq,λz=>z,n63⟩
     |v d=>cases(get0 i _ _ h1 h2 (λz=>by cases z)).2
     |own d=>cases(get0 i _ _ h1 h2 (λz=>by cases z)).2
     |pk d=>cases(get0 i _ _ h1 h2 (λz=>by cases z)).2
     |pot=>cases(get0 i _ _ h1 h2 (λz=>by cases z)).2
    inj:=λi j b ds h1 h2 _=>by cases(get0 i _ _ h2 h1 (λz=>by cases z)).2 }
  ·exact{
    nx:=⟨λ_ h=>h.elim⟩
    rt:=λd h v H' ke dv=>by cases(show d=.bool true from h);cases dv;exact k H'
    rtF:=λd h v H' ke dv _=>by cases(show d=.bool true from h);cases dv;exact k H'
    bk:=⟨λ_ h=>h.elim⟩
    ct:=⟨λ_ h=>h.elim⟩
    ex:=Qr1 }
end
theorem Qx4{α:Type}{p:α->Prop}:∀x∈([]:List α),p x:=λ_ h=>nomatch h
theorem QaV{α:Type}{p:α->Prop}{a:α}{l:List α}(h:p a)(t:∀x∈l,p x):∀x∈a::l,p x:=λx hx=>by
 rcases Qy.mp hx with z | z
 ·rw[z];exact h
 ·exact t x z
theorem Qx2{b c:Bool}{R:PyData->Prop}(h:R (.bool (b&&c))):if b=true then R (.bool c) else R (.bool false):=by
 cases b
 ·exact QAX h
 ·exact Qyw h
theorem Qvd{b c:Bool}{R:PyData->Prop}{Pk:Prop}(h:R (.bool (b&&c)))(k:b=true->R (.bool c)->Pk):if b=true then Pk else R (.bool false):=by
 cases b
 ·exact QAX h
 ·exact Qyw (k rfl h)
theorem ifF{c:Bool}{A B:Prop}(h:c=false)(k:B):if c=true then A else B:=by subst h;exact k
theorem ifT{c:Bool}{A B:Prop}(h:c=true)(k:A):if c=true then A else B:=by subst h;exact k
theorem ifC{c:Bool}{A B:Prop}(t:c=true->A)(f:c=false->B):if c=true then A else B:=by
 cases c
 ·exact f rfl
 ·exact t rfl
theorem all_map{α:Type}(l:List α)(g:α->Bool):(l.map g).all id=l.all g:=by
 rw[List.all_map];rfl
theorem QiV{ds:List PyData}{Q:PyData->Prop}{g:PyData->Bool}{items:List PyData}(h:ds=[.list (items.map λd=>.bool (g d))])(q:Q (.bool (items.all g))):QyB ds Q:=by
 subst h;unfold QyB;refine⟨items.map g,?_,by rw[all_map];exact q⟩;rw[show items.map (λd=>Qam (g d))=(items.map g).map Qam by rw[QN];rfl,QhD]
theorem Qlx{ds:List PyData}{Q:PyData->Prop}(ns:List Int)(h:ds=[.list (ns.map Qg)])(q:Q (.int ns.sum)):Qyr ds Q:=by
 subst h;unfold Qyr;exact⟨ns,ints_map ns,q⟩
end Dl
namespace L2
section
variable{X:Cx}
end
end L2
namespace Dl
open L2 _root_.Rd Rk
section
variable{X:Cx}{E:XK}
variable{e:Q1}{w:DE}{p p2 pos pos2:Pos}
end
theorem Qx1{ds:List PyData}{i:Int}(h0:0<=i)(h1:i<ds.length):∃d,d∈ds/\atI ds i=some d:=by
 obtain⟨j,rfl⟩:∃j:Nat,i=j:=⟨i.toNat,by omega⟩
 have hj:j<ds.length:=by omega
 exact⟨ds[j],ZF hj,Q6 (Qe hj)⟩
theorem QzX{ds:List PyData}{i:Int}{Q:PyData->Prop}(h0:0<=i)(h1:i<ds.length)(q:∀d∈ds,Q d):∃d,atI ds i=some d/\Q d:=by
 obtain⟨d,hd,e⟩:=Qx1 h0 h1;exact⟨d,e,q d hd⟩
theorem Qrb{xs:List PyData}{lo hi:Option Int}{d:PyData}(h:d∈cutD xs lo hi):d∈xs:=List.mem_of_mem_drop (Qla h)
structure QE (m:Md) (X:Cx) (E:XK) (e:Q1) (w:DE):Prop where h:PE X e (tX m X.K E w)
structure QT (X:Cx) (E:XK) (e:Q1) (w:DT):Prop where h:PT X e (tT X.K E w)
structure QW (X:Cx) (E:XK) (e:Q1) (w:DT):Prop where h:PW X e (tT X.K E w)
structure QTs (X:Cx) (E:XK) (es:List Q1) (w:DT):Prop where h:PTs X es (tT X.K E w)
structure QA (n:Nat) (m:Md) (X:Cx) (E:XK) (es:List Q1) (w:DAr):Prop where h:PA X es (tAr n m X.K E w)
structure QAs (X:Cx) (E:XK) (es:List Q1) (w:DSl):Prop where h:PA X es (tAs X.K E w)
structure QO (X:Cx) (E:XK) (o:Option Q1) (w:DO):Prop where h:PO X o (tO X.K E w)
structure QG (ix:List Nat) (X:Cx) (tg:Q1) (w:DG):Prop where h:PG X tg (tG ix X.K w)
structure QI (m:Md) (X:Cx) (E:XK) (tg it:Q1) (w:DI):Prop where h:PI X tg it (tI m X.K E w)
structure QS (X:Cx) (E:XK) (st:ZY) (w:DS):Prop where h:PS X st (tS X.K E w)
structure QSs (X:Cx) (E:XK) (sts:List ZY) (w:DS):Prop where h:PSs X sts (tS X.K E w)
section
variable{X:Cx}{E:XK}
theorem JB{e:Q1}{w:DE}(h:QE .F X E e w):QE .D X E e w:=⟨toD h.h⟩
theorem QP{e:Q1}{w:DE}(h:QE .D X E e w):QE .P X E e w:=⟨toP h.h⟩
theorem QY{e:Q1}{w:DE}(h:QE .F X E e w):QE .P X E e w:=⟨QBo h.h⟩
theorem qv(i:Nat){x:Str}{pos:Pos}(hN:X.N[i]? = some x:=by rfl)(hv:Vis X.env.scope x:=by first | exact Q2 rfl | exact QZ (Q2 rfl) | exact QZ (QZ rfl))(hd:(x == ("__debug__" : Str))=false:=by decide)(hcd:(x == ("__classdict__" : Str))=false:=by decide):QE .D X E (.Name x pos) (QxI i):=⟨QwK (pv i hN hv hd hcd)⟩
theorem qp(i:Nat){x:Str}{pos:Pos}(hN:X.N[i]? = some x:=by rfl)(hv:Vis X.env.scope x:=by first | exact Q2 rfl | exact QZ (Q2 rfl) | exact QZ (QZ rfl))(hd:(x == ("__debug__" : Str))=false:=by decide)(hcd:(x == ("__classdict__" : Str))=false:=by decide):QE .P X E (.Name x pos) (dPk i):=⟨QzD (pv i hN hv hd hcd)⟩
theorem Jg{i:Int}{j pos}:QE .D X E (.Constant (.int i) j pos) (dC (.int i)):=⟨QwQ⟩
theorem Ql7{b:Bool}{j pos}:QE .D X E (.Constant (.bool b) j pos) (dC (.bool b)):=⟨QzI⟩
theorem QrS{x:Str}(i:Int){u:Value}{pos:Pos}(hg:Gl X x)(hm:X.mg x=some u)(r:RelV (.int i) u)(hd:(x == ("__debug__" : Str))=false:=by decide):QE .D X E (.Name x pos) (dC (.int i)):=⟨QzH (Qtw hg hm r hd) λ_ _=>.int i⟩
theorem ZL{a b:Q1}{wa wb:DE}{pos:Pos}{r:R2}{rD:PyData->PyData->(PyData->Prop)->Prop}{op:Qcx}(ho:OpR X (binaryOp op) r)(hd:OpD r rD)(ha:QE .P X E a wa)(hb:QE .P X E b wb):QE .F X E (.BinOp a op b pos) (dOp rD wa wb):=⟨QwT ho hd ha.h hb.h⟩
theorem QeY{a b:Q1}{wa wb:DE}{pos:Pos}{r:R2}{rD:PyData->PyData->(PyData->Prop)->Prop}{op:QsF}(ho:OpR X (compareOp op) r)(hd:OpD r rD)(ha:QE .P X E a wa)(hb:QE .P X E b wb)(hm:behindInMarks op b=false):QE .F X E (.Compare a [op] [b] pos) (dOp rD wa wb):=⟨QwS ho hd ha.h hb.h hm⟩
theorem Yk{a b:Q1}{wa wb:DE}{pos:Pos}{r:R2}{rD:PyData->PyData->(PyData->Prop)->Prop}{op:QsF}(ho:OpR X (compareOp op) r)(hd:OpD r rD)(ha:QE .P X E a wa)(hb:QE .P X E b wb)(hm:behindInMarks op b=false):QT X E (.Compare a [op] [b] pos) (dTst (dOp rD wa wb)):=⟨QtE ho hd ha.h hb.h hm⟩
theorem Yr{a b:Q1}{wa wb:DE}{pos:Pos}{r:R2}{rD:PyData->PyData->(PyData->Prop)->Prop}(ho:IxR X r)(hd:Qrn r rD)(ha:QE .P X E a wa)(hb:QE .P X E b wb)(hs:QiW b):QE .D X E (.Subscript a b pos) (dOp rD wa wb):=⟨QzF ho hd ha.h hb.h hs⟩
theorem Qth{a:Q1}{wa:DE}{pos:Pos}(ha:QE .P X E a wa):QE .F X E (.UnaryOp .USub a pos) (dUn QAV wa):=⟨QwO ha.h⟩
theorem QBB{a b c:Q1}{wa wb wc:DE}{pos:Pos}{op op':QsF}{p q:Int->Int->Bool}(ho:OpR X (compareOp op) (rI0 λi j=>.bl (p i j)))(ho':OpR X (compareOp op') (rI0 λi j=>.bl (q i j)))(ha:QE .P X E a wa)(hb:QE .P X E b wb)(hc:QE .P X E c wc)(hm:lastMarks [op,op'] [b,c]=false:=by with_unfolding_all rfl):QE .F X E (.Compare a [op,op'] [b,c] pos) (dCh p q wa wb wc):=⟨QzG ho ho' ha.h hb.h hc.h hm⟩
theorem Qei{e:Q1}{w:DE}(h:QE .P X E e w)(he:∀whole,isTrue e X.env whole=(do let v <- whole;standAt e.pos;holding [v] (truthy v)):=by intro _;rfl):QT X E e (dTru w):=⟨QtC h.h he⟩
theorem QbC{e:Q1}{w:DE}(h:QE .P X E e w)(he:∀whole,isTrue e X.env whole=(do let v <- whole;standAt e.pos;holding [v] (truthy v)):=by intro _;rfl):QT X E e (dTst w):=⟨QtB h.h he⟩
theorem QfT{a:Q1}{pos:Pos}{ta:DT}(ha:QT X E a ta):QW X E (.BoolOp .And [a] pos) ta:=⟨Qo5 ha.h⟩
theorem Qjn{a b:Q1}{rest:List Q1}{pos:Pos}{ta tb:DT}(ha:QT X E a ta)(hb:QW X E (.BoolOp .And (b::rest) pos) tb):QW X E (.BoolOp .And (a::b::rest) pos) (QBe ta tb):=⟨QtA ha.h hb.h⟩
theorem Ql8{a b:Q1}{rest:List Q1}{pos:Pos}{wa wb:DE}(ha:QE .P X E a wa)(hb:QE .D X E (.BoolOp .And (b::rest) pos) wb):QE .D X E (.BoolOp .And (a::b::rest) pos) (QxR wa wb):=⟨QwU ha.h hb.h⟩
theorem Qeh{a:Q1}{pos:Pos}{ta:DT}(ha:QT X E a ta):QW X E (.BoolOp .Or [a] pos) ta:=⟨Qtz ha.h⟩
theorem Qik{a b:Q1}{rest:List Q1}{pos:Pos}{ta tb:DT}(ha:QT X E a ta)(hb:QW X E (.BoolOp .Or (b::rest) pos) tb):QW X E (.BoolOp .Or (a::b::rest) pos) (dOr ta tb):=⟨QwI ha.h hb.h⟩
theorem QBA{a b:Q1}{rest:List Q1}{pos:Pos}{wa wb:DE}(ha:QE .P X E a wa)(hb:QE .D X E (.BoolOp .Or (b::rest) pos) wb):QE .D X E (.BoolOp .Or (a::b::rest) pos) (QA7 wa wb):=⟨QzE ha.h hb.h⟩
theorem Ql6{e:Q1}{t:DT}(h:QW X E e t):QT X E e t:=⟨PW.pt h.h⟩
theorem Qa5{a:Q1}{pos:Pos}{ta:DT}(ha:QT X E a ta):QT X E (.UnaryOp .Not a pos) (QA8 ta):=⟨QtD ha.h⟩
theorem Qko{op}{a:Q1}{pos:Pos}{w:DE}(h:QE .D X E a w):QE .D X E (.BoolOp op [a] pos) w:=⟨QwM h.h⟩
theorem Qzt{a:Q1}{pos:Pos}{wa:DE}(ha:QE .P X E a wa):QE .D X E (.UnaryOp .Not a pos) (QxN wa):=⟨QwN ha.h⟩
theorem Qzu{c a b:Q1}{pos:Pos}{ta:DT}{wa wb:DE}(hc:QT X E c ta)(ha:QE .D X E a wa)(hb:QE .D X E b wb):QE .D X E (.IfExp c a b pos) (QBb ta wa wb):=⟨QwR hc.h ha.h hb.h⟩
theorem Q7{m:Md}:QA 0 m X E [] QAj:=⟨QtQ⟩
theorem Y0{n:Nat}{e:Q1}{es:List Q1}{we:DE}{wr:DAr}(he:QE .D X E e we)(hr:QA n .D X E es wr)(hs:notStar e=true:=by rfl):QA (n+1) .D X E (e::es) (QkF we wr):=⟨Qmm he.h hr.h hs⟩
theorem Qap{n:Nat}{e:Q1}{es:List Q1}{we:DE}{wr:DAr}(he:QE .P X E e we)(hr:QA n .P X E es wr)(hs:notStar e=true:=by rfl):QA (n+1) .P X E (e::es) (QkF we wr):=⟨Qml he.h hr.h hs⟩
theorem QaH{n:Nat}{es:List Q1}{w:DAr}{x1}{pos:Pos}(h:QA n .D X E es w)(hn:n<=1000:=by decide):QE .F X E (.Tuple es x1 pos) (QA4 w):=⟨QwL h.h hn⟩
theorem Qb6{n:Nat}{es:List Q1}{w:DAr}{pos:Pos}(h:QA n .D X E es w)(hn:n<=1000:=by decide):QE .F X E (.List es pos) (QAk w):=⟨QwP h.h hn⟩
theorem JU{x:Str}{bid:String}{p pos:Pos}{e:Q1}{es:List Q1}{n:Nat}{wr:DAr}{r:List V->Hp->VK->Prop}{rD:List PyData->(PyData->Prop)->Prop}(hc:CallR X (.builtin bid) r)(hd:Qbj r rD)(hg:Gl X x)(hm:X.mg x=none)(hv:bootBuiltins x=some (.builtin bid))(ha:QA n .P X E (e::es) wr)(hn:x ≠ "__name__" := by decide)(hdb:(x == ("__debug__" : Str))=false:=by decide)(he:starEach (e::es) X.env=(false,eval e X.env)::starEach es X.env:=by rfl)(hpl:(backTo pos (starEach es X.env)).any (·.1)=false:=by rfl):QE .F X E (.Call (.Name x p) (e::es) [] pos) (dCB rD wr):=⟨Qpq hc hd hg hm hv ha.h hn hdb he hpl⟩
theorem Qad{x:Str}{T:String}{p pos:Pos}{e:Q1}{es:List Q1}{n:Nat}{wr:DAr}{r:List V->Hp->VK->Prop}{rD:List PyData->(PyData->Prop)->Prop}(hc:CallR X (.type T) r)(hd:Qbj r rD)(hg:Gl X x)(hm:X.mg x=none)(hv:bootBuiltins x=some (.type T))(ha:QA n .P X E (e::es) wr)(hn:x ≠ "__name__" := by decide)(hdb:(x == ("__debug__" : Str))=false:=by decide)(he:starEach (e::es) X.env=(false,eval e X.env)::starEach es X.env:=by rfl)(hpl:(backTo pos (starEach es X.env)).any (·.1)=false:=by rfl):QE .F X E (.Call (.Name x p) (e::es) [] pos) (dCB rD wr):=⟨Qmn hc hd hg hm hv ha.h hn hdb he hpl⟩
theorem Qg7{e:Q1}{we:DE}{p pos pos2:Pos}{x:Str}(tn:Tn)(hg:Gl X "isinstance")(hm:X.mg "isinstance" = none)(he:QE .P X E e we)(hg2:Gl X x)(hm2:X.mg x=none)(hv:bootBuiltins x=some (.type tn.s))(hn:x ≠ "__name__" := by decide)(hd:(x == ("__debug__" : Str))=false:=by decide)(h1:notStar e=true:=by rfl):QE .F X E (.Call (.Name "isinstance" p) [e,.Name x pos2] [] pos) (QxP tn we):=⟨QtT tn hg hm he.h (QzJ tn hg2 hm2 hv hn hd) h1 rfl⟩
theorem QfV  : QO X E none dNo:=⟨Qpi⟩
theorem QfU{e:Q1}{we:DE}(he:QE .P X E e we):QO X E (some e) (dSo we):=⟨Qph he.h⟩
theorem QfW{e:Q1}{lo hi:Option Q1}{we:DE}{wl wh:DO}{p2 pos:Pos}(he:QE .P X E e we)(hl:QO X E lo wl)(hh:QO X E hi wh):QE .F X E (.Subscript e (.Slice lo hi none p2) pos) (dSl we wl wh):=⟨Qpo he.h hl.h hh.h⟩
theorem Jb  : QAs X E [] Qvw:=⟨QtI⟩
theorem Zf{e:Q1}{es:List Q1}{we:DE}{wr:DSl}(he:QE .D X E e we)(hr:QAs X E es wr)(hs:notStar e=true:=by rfl):QAs X E (e::es) (sV we wr):=⟨QzC he.h hr.h hs⟩
theorem QcH(i:Nat){x:Str}{pos:Pos}{es:List Q1}{wr:DSl}(hr:QAs X E es wr)(hN:X.N[i]? = some x:=by rfl)(hv:Vis X.env.scope x:=by first | exact Q2 rfl | exact QZ (Q2 rfl) | exact QZ (QZ rfl))(hd:(x == ("__debug__" : Str))=false:=by decide)(hcd:(x == ("__classdict__" : Str))=false:=by decide):QAs X E (.Name x pos::es) (Qzm i wr):=⟨QtG (pv i hN hv hd hcd) hr.h rfl⟩
theorem JZ{CX:CXT}{k:Nat}{f:Addr}{fd:QL}{ps:List Str}{x:Str}{p pos:Pos}{e:Q1}{es:List Q1}{fD:DF}{wa:DSl}(G:FnOk X.prog X.w X.K X.mg X.base CX k f fd ps (JO false fD))(hr:Room k X.A)(hg:Gl X x)(hm:X.mg x=some (.ref f))(hk:PySem.W.keepIn X.K (.ref f)=true)(hb:Binds X.K fd ps [])(hx:QeM CX X E)(ha:QAs X E (e::es) wa)(hdb:(x == ("__debug__" : Str))=false:=by decide)(he:starEach (e::es) X.env=(false,eval e X.env)::starEach es X.env:=by rfl)(hpl:(backTo pos (starEach es X.env)).any (·.1)=false:=by rfl):QE .D X E (.Call (.Name x p) (e::es) [] pos) (Qgm fD wa):=⟨QtW G hr hg hm hk hb hx ha.h hdb he hpl⟩
theorem J3{CX:CXT}{k:Nat}{f:Addr}{fd:QL}{ps:List Str}{x:Str}{p pos:Pos}{e:Q1}{es:List Q1}{fD:DF}{wa:DSl}(G:FnOk X.prog X.w X.K X.mg X.base CX k f fd ps (JO true fD))(hr:Room k X.A)(hg:Gl X x)(hm:X.mg x=some (.ref f))(hk:PySem.W.keepIn X.K (.ref f)=true)(hb:Binds X.K fd ps [])(hx:QeM CX X E)(ha:QAs X E (e::es) wa)(hdb:(x == ("__debug__" : Str))=false:=by decide)(he:starEach (e::es) X.env=(false,eval e X.env)::starEach es X.env:=by rfl)(hpl:(backTo pos (starEach es X.env)).any (·.1)=false:=by rfl):QE .F X E (.Call (.Name x p) (e::es) [] pos) (Qgm fD wa):=⟨Qpp G hr hg hm hk hb hx ha.h hdb he hpl⟩
theorem Qwu{k:Nat}{f:Addr}{fd:QL}{ps:List Str}{x y:Str}{p pos pos2:Pos}{b:Q1}{wb:DE}(i:Nat)(G:FnOk X.prog X.w X.K X.mg X.base CX0 k f fd ps (QcE X.K))(hr:Room k X.A)(hg:Gl X x)(hm:X.mg x=some (.ref f))(hk:PySem.W.keepIn X.K (.ref f)=true)(hb:Binds X.K fd ps [])(h:QE .P X E b wb)(hN:X.N[i]? = some y:=by rfl)(hv:Vis X.env.scope y:=by first | exact Q2 rfl | exact QZ (Q2 rfl) | exact QZ (QZ rfl))(hd:(y == ("__debug__" : Str))=false:=by decide)(hcd:(y == ("__classdict__" : Str))=false:=by decide)(h2:notStar b=true:=by rfl)(hdb:(x == ("__debug__" : Str))=false:=by decide):QE .F X E (.Call (.Name x p) [.Name y pos2,b] [] pos) (QuX i wb):=⟨QtV G hr hg hm hk hb (pv i hN hv hd hcd) h.h rfl h2 hdb⟩
theorem Qwt{y:Str}{p pos pos2:Pos}(i:Nat)(hg:Gl X "len")(hm:X.mg "len" = none)(hN:X.N[i]? = some y:=by rfl)(hv:Vis X.env.scope y:=by first | exact Q2 rfl | exact QZ (Q2 rfl) | exact QZ (QZ rfl))(hd:(y == ("__debug__" : Str))=false:=by decide)(hcd:(y == ("__classdict__" : Str))=false:=by decide):QE .F X E (.Call (.Name "len" p) [.Name y pos2] [] pos) (QuW i):=⟨QtS hg hm (pv i hN hv hd hcd) rfl⟩
theorem ZK(i:Nat){x:Str}{pos:Pos}(hN:X.N.Nodup)(hi:X.N[i]? = some x)(hx:Loc X.env.scope x)(hf:X.fn x=true∨X.env.scope.names.lookup x=some .local:=by first | exact .inl rfl | exact .inr rfl | assumption):QG [i] X (.Name x pos) (gN i):=⟨Qpn (Qek hN hi hx hf)⟩
structure QGs (X:Cx) (es:List Q1) (is:List Nat):Prop where h:PGs X es (gNs is)
theorem Qaj  : QGs X [] []:=⟨Qmf⟩
theorem JP(i:Nat){is:List Nat}{x:Str}{pos:Pos}{es:List Q1}(h:QGs X es is)(hN:X.N.Nodup)(hi:X.N[i]? = some x)(hx:Loc X.env.scope x)(hf:X.fn x=true∨X.env.scope.names.lookup x=some .local:=by first | exact .inl rfl | exact .inr rfl | assumption)(hs:(assignEach (.Name x pos::es) X.env).map (·.2)=assign (.Name x pos) X.env::(assignEach es X.env).map (·.2):=by rfl):QGs X (.Name x pos::es) (i::is):=⟨Qf2 (Qek hN hi hx hf) h.h hs⟩
theorem Qai{es:List Q1}{k:Nat}{pos:Pos}{is:List Nat}(hc:X.calm=true)(h:QGs X es is)(hn:(assignEach es X.env).length=is.length:=by rfl)(hst:(assignEach es X.env).findIdx? (·.1)=none:=by rfl):QG is X (.Tuple es k pos) (gTN is):=⟨QtP (QrY hc h.h hn hst) rfl⟩
theorem QaT{m:Md}{tg e:Q1}{w:DE}(h:QE m X E e w):QI m X E tg e (QBa w):=⟨Qpm h.h⟩
theorem Qdu{m:Md}{tg e:Q1}{w:DE}(h:QE m X E e w):QI m X E tg e (QA9 w):=⟨QtO h.h⟩
theorem QbF{m:Md}{tg e:Q1}{w:DE}{p pos:Pos}(hg:Gl X "range")(hm:X.mg "range" = none)(h:QE .P X E e w)(hs:notStar e=true:=by rfl):QI m X E tg (.Call (.Name "range" p) [e] [] pos) (QxM w):=⟨Qpl hg hm h.h hs⟩
theorem QbW{m:Md}{e:Q1}{w:DE}{p pos tpos:Pos}{elts:List Q1}{x1}(hg:Gl X "enumerate")(hm:X.mg "enumerate" = none)(h:QE m X E e w)(hs:notStar e=true:=by rfl):QI m X E (.Tuple elts x1 tpos) (.Call (.Name "enumerate" p) [e] [] pos) (QBc w):=⟨Qmk hg hm h.h hs⟩
theorem Qtg{m:Md}{e e':Q1}{w w':DE}{p pos tpos:Pos}{elts:List Q1}{x1}(hg:Gl X "zip")(hm:X.mg "zip" = none)(h:QE m X E e w)(h':QE m X E e' w')(hs:notStar e=true:=by rfl)(hs':notStar e'=true:=by rfl):QI m X E (.Tuple elts x1 tpos) (.Call (.Name "zip" p) [e,e'] [] pos) (QA3 w w'):=⟨Qpk hg hm h.h h'.h hs hs'⟩
theorem Qtf{m:Md}{e e':Q1}{w w':DE}{p pos tpos:Pos}{elts:List Q1}{x1}(hg:Gl X "zip")(hm:X.mg "zip" = none)(h:QE m X E e w)(h':QE m X E e' w')(hs:notStar e=true:=by rfl)(hs':notStar e'=true:=by rfl):QI m X E (.Tuple elts x1 tpos) (.Call (.Name "zip" p) [e,e'] [] pos) (QA2 w w'):=⟨Qpj hg hm h.h h'.h hs hs'⟩
theorem Yy  : QTs X E [] Qyz:=⟨Qo7⟩
theorem QbB{c:Q1}{t:DT}(h:QT X E c t):QTs X E [c] t:=⟨Qo6 h.h⟩
theorem YL(M:List Str)(cap:List (Option Nat)){elt tg iter:Q1}{ifs:List Q1}{scope:YV}{pos:Pos}{ix:List Nat}{wi:DI}{wg:DG}{wt:DT}{we:DE}(hi:QI .P X E tg iter wi)(hb:∀cl ex s3 H3 C,QG ix (blk X M scope cl ex s3 H3 C) tg wg/\QTs (blk X M scope cl ex s3 H3 C) E0 ifs wt/\QE .D (blk X M scope cl ex s3 H3 C) E0 elt we)(hc:X.calm=true:=by rfl)(ok:Qe1 X.N X.env.scope M scope cap=true:=by rfl)(hf:Qcl cap ix=true:=by rfl)(hs:∀x,foldedSetIterable iter X.env x=pure x:=by intro _;rfl):QE .F X E (.ListComp elt [⟨tg,iter,ifs,0⟩] scope pos) (dComp cap wi wg wt we):=⟨QtU hc ok hf hi.h (λcl ex s3 H3 C=>⟨(hb cl ex s3 H3 C).1.h,(hb cl ex s3 H3 C).2.1.h,(hb cl ex s3 H3 C).2.2.h⟩) hs⟩
theorem Yl  : QSs X E [] QxJ:=⟨Qo8⟩
theorem Q5{st:ZY}{w:DS}(h:QS X E st w):QSs X E [st] w:=⟨QtH h.h⟩
theorem QB{st:ZY}{rest:List ZY}{w w':DS}(h:QS X E st w)(h':QSs X E rest w'):QSs X E (st::rest) (QA5 w w'):=⟨Qpf h.h h'.h⟩
theorem Qa6{sts:List ZY}:QSs X E sts (λ_ _=>False):=⟨Qmj⟩
theorem Za(i:Nat){x:Str}{e:Q1}{pos pos':Pos}{we:DE}(he:QE .D X E e we)(hN:X.N.Nodup)(hi:X.N[i]? = some x:=by rfl)(hx:Loc X.env.scope x:=by first | exact Q2 rfl | exact QZ rfl)(hs:swapsWith e (some (.Name x pos')) pos.line X.env=pure false:=by rfl)(hf:X.fn x=true∨X.env.scope.names.lookup x=some .local:=by first | exact .inl rfl | exact .inr rfl | assumption):QS X E (.Assign [.Name x pos'] e pos) (Qyy i we):=⟨Qiq (Qdv hN hi hx he.h hs hf)⟩
theorem Qdf(i:Nat){x:Str}{e:Q1}{pos pos':Pos}{we:DE}(he:QE .F X E e we)(hN:X.N.Nodup)(hi:X.N[i]? = some x:=by rfl)(hx:Loc X.env.scope x:=by first | exact Q2 rfl | exact QZ rfl)(hs:swapsWith e (some (.Name x pos')) pos.line X.env=pure false:=by rfl)(hf:X.fn x=true∨X.env.scope.names.lookup x=some .local:=by first | exact .inl rfl | exact .inr rfl | assumption):QS X E (.Assign [.Name x pos'] e pos) (QxL i we):=⟨Qpa (Qdv hN hi hx he.h hs hf)⟩
theorem Qtd(i:Nat){x:Str}{e:Q1}{pos pos':Pos}{we:DE}(he:QE .F X E e we)(hN:X.N.Nodup)(hi:X.N[i]? = some x:=by rfl)(hx:Loc X.env.scope x:=by first | exact Q2 rfl | exact QZ rfl)(hs:swapsWith e (some (.Name x pos')) pos.line X.env=pure false:=by rfl)(hf:X.fn x=true∨X.env.scope.names.lookup x=some .local:=by first | exact .inl rfl | exact .inr rfl | assumption):QS X E (.Assign [.Name x pos'] e pos) (QxK i we):=⟨Qo9 (Qdv hN hi hx he.h hs hf)⟩
theorem Qg6{tg e:Q1}{pos:Pos}{ix:List Nat}{we:DE}{wg:DG}(he:QE .D X E e we)(hg:QG ix X tg wg)(hs:swapsWithSole [tg] e pos.line X.env=pure false:=by rfl)(hw:swappedStores [tg] e X.env=pure none:=by rfl)(h1:(assignEach [tg] X.env).map (·.2)=[assign tg X.env]:=by rfl):QS X E (.Assign [tg] e pos) (QBd we wg):=⟨QtM (QrU he.h hg.h hs hw h1)⟩
theorem YD{e:Q1}{pos:Pos}{we:DE}(h:QE .D X E e we):QS X E (.Return (some e) pos) (QA6 we):=⟨QtF h.h⟩
theorem Z1{e:Q1}{pos:Pos}{we:DE}(h:QE .F X E e we):QS X E (.Return (some e) pos) (QuU we):=⟨Qpc h.h⟩
theorem Qej(i:Nat){x:Str}{pos pos2:Pos}(hN:X.N[i]? = some x:=by rfl)(hv:Vis X.env.scope x:=by first | exact Q2 rfl | exact QZ (Q2 rfl) | exact QZ (QZ rfl))(hd:(x == ("__debug__" : Str))=false:=by decide)(hcd:(x == ("__classdict__" : Str))=false:=by decide):QS X E (.Return (some (.Name x pos)) pos2) (QuT i):=⟨Qpb (pv i hN hv hd hcd)⟩
theorem QbD{c:Q1}{a b:List ZY}{pos:Pos}{t:DT}{w w':DS}(hc:QT X E c t)(ha:QSs X E a w)(hb:QSs X E b w'):QS X E (.If c a b pos) (dIf t w w'):=⟨QwJ hc.h ha.h hb.h⟩
theorem QrQ(i:Nat){x:Str}{e:Q1}{we:DE}{op:Qcx}{ti:TIp}{rD:PyData->PyData->(PyData->Prop)->Prop}{pos pos':Pos}(ho:PIp X op ti)(hd:Qrn ti rD)(he:QE .P X E e we)(hN:X.N.Nodup)(hi:X.N[i]? = some x:=by rfl)(hx:Loc X.env.scope x:=by first | exact Q2 rfl | exact QZ rfl)(hf:X.fn x=true∨X.env.scope.names.lookup x=some .local:=by first | exact .inl rfl | exact .inr rfl | assumption):QS X E (.AugAssign (.Name x pos') op e pos) (QAn i rD we):=⟨QtL hd (Qwz hN hi hx he.h (PIp.len ho) hf)⟩
theorem QrR{y:Str}{e:Q1}{we:DE}{apos cpos pos npos:Pos}(i:Nat)(he:QE .D X E e we)(hN:X.N[i]? = some y:=by rfl)(hv:Vis X.env.scope y:=by first | exact Q2 rfl | exact QZ (Q2 rfl) | exact QZ (QZ rfl))(hd:(y == ("__debug__" : Str))=false:=by decide)(hcd:(y == ("__classdict__" : Str))=false:=by decide)(hst:notStar e=true:=by rfl)(hbase:attributeBase (.Name y npos) "append" X.env (eval (.Name y npos) X.env)=eval (.Name y npos) X.env:=by rfl)(hfew:((backTo cpos (starEach [e] X.env)).all (λx => !x.1)&&(backToKw cpos (keywordEach [] X.env)).all (λx=>x.1.isSome)&&decide ([e].length+([]:List Qj1).length+(if([]:List Qj1).isEmpty then 0 else 1)<30))=true:=by rfl)(hline:(apos.endLine == cpos.line)=true:=by rfl)(hsw:swapsWith (.Call (.Attribute (.Name y npos) "append" apos) [e] [] cpos) none pos.line X.env=pure false:=by rfl):QS X E (.Expr (.Call (.Attribute (.Name y npos) "append" apos) [e] [] cpos) pos) (QAo i we):=⟨QtN (QfY (QwG PySem.F.plainAttrs_list PySem.F.slot_list_append PySem.F.type_list_append Qhm (pv i hN hv hd hcd) (Qel he.h Yv hst) hbase hfew hline (Z8 hst) rfl) hsw)⟩
theorem Ql4{y:Str}{e k:Q1}{we wk:DE}{op:Qcx}{ti:TIp}{rD:PyData->PyData->(PyData->Prop)->Prop}{pos tpos npos:Pos}(i:Nat)(ho:PIp X op ti)(hd:Qrn ti rD)(hk:QE .P X E k wk)(he:QE .P X E e we)(hN:X.N[i]? = some y:=by rfl)(hv:Vis X.env.scope y:=by first | exact Q2 rfl | exact QZ (Q2 rfl) | exact QZ (QZ rfl))(hdd:(y == ("__debug__" : Str))=false:=by decide)(hcd:(y == ("__classdict__" : Str))=false:=by decide)(ha:∀ov iv new,augStore k ov iv new=(do holding [new,ov,iv] (setItem ov iv new);release [new,ov,iv] [];pure .next):=by intros;rfl):QS X E (.AugAssign (.Subscript (.Name y npos) k tpos) op e pos) (QuY i rD wk we):=⟨Qpg hd (Qtm (pv i hN hv hdd hcd) hk.h Qp5 he.h (PIp.len ho) Qjg ha)⟩
theorem QbE{tg iter:Q1}{body:List ZY}{pos:Pos}{ix:List Nat}{wi:DI}{wg:DG}{wb:DS}(hp:QfA (model X.prog X.w) X.A X.env X.xe)(hc:X.calm=true)(hi:QI .D X E tg iter wi)(hg:QG ix X tg wg)(hb:QSs X E body wb)(hs:∀x,foldedSetIterable iter X.env x=pure x:=by intro _;rfl):QS X E (.For tg iter body [] pos) (dFor wi wg wb):=⟨QtK hp hc hi.h hg.h hb.h hs⟩
theorem Qil{e:Q1}{we:DE}{pos:Pos}(he:QE .P X E e we)(hs:swapsWith e none pos.line X.env=pure false:=by rfl):QS X E (.Expr e pos) (QxQ we):=⟨Qpe (QfY he.h hs)⟩
end
section
variable{P:QC}{w:Jf}{K:PySem.W.Frag}{mg:Str->Option Value}{base:Heap}
theorem okQ{x qual:Str}{st:ZY}{f:Addr}{fd:QL}{N ps:List Str}{k:Nat}{fD:DF}(fr:Bool)(F:Fun K x qual st f fd)(S:Jl N ps (Qm st))(len:∀args R EX,fD args R EX->args.length=ps.length)
  (hbody:∀(cdv:Value)(A:Ja)(outer:List Env)(s:Shared)(H:Hp)(E:XK),Room k (A.deeper (envOfC qual (Qm st) s.heap.objs.size f cdv)) ->
   ∃wd,QSs (Qn8 CX0 P w K mg base N qual (Qm st) f cdv A outer s H E).nox E0 (Jh st) wd/\∀args R EX,fD args R EX->wd (Qp8 fr R XF) (stD N args)):FnOk P w K mg base CX0 (k+1) f fd ps (JO fr fD):=
 okD fr F S len λcdv A outer s H E hr=>let ⟨wd,h,q⟩:=hbody cdv A outer s H E hr;⟨wd,h.h,q⟩
theorem QBE{x qual:Str}{st:ZY}{f:Addr}{fd:QL}{N:List Str}{p:Str}{k:Nat}(F:Fun K x qual st f fd)(S:Jl N [p] (Qm st))
  (hbody:∀(cdv:Value)(A:Ja)(outer:List Env)(s:Shared)(H:Hp)(E:XK),Room k (A.deeper (envOfC qual (Qm st) s.heap.objs.size f cdv)) ->
   ∃wd,QSs (Qn8 CX0 P w K mg base N qual (Qm st) f cdv A outer s H E).nox E0 (Jh st) wd/\wd QxC (stD N [.scr])):FnOk P w K mg base CX0 (k+1) f fd [p] (Qe9 K):=
 QzR F S λcdv A outer s H E hr=>let ⟨wd,h,q⟩:=hbody cdv A outer s H E hr;⟨wd,h.h,q⟩
end
structure GOk (wg:DG):Prop where h:∀d δ Q,wg d δ Q->wg d δ λδ'=>(∀(j:Nat) x,δ'[j]? = some x->(∃e,x=.v e)∨δ[j]? = some x)/\Q δ'
theorem Qds:∀(is:List Nat)(ds:List PyData)(δ:Sts)(j:Nat)(x:Sl),(Qed δ is ds)[j]? = some x->(∃e,x=.v e)∨δ[j]? = some x
 |[],_,δ,j,x,h=>.inr (by simpa [Qed] using h)
 |_::_,[],δ,j,x,h=>.inr (by simpa [Qed] using h)
 |i::is,d::ds,δ,j,x,h=>by
  rcases Qds is ds _ j x h with z | z
  ·exact .inl z
  ·by_cases y:j=i
   ·subst y;exact .inl ⟨d,set_eq z⟩
   ·rw[Qao y] at z;exact .inr z
theorem QuJ(is:List Nat):GOk (gTN is):=⟨λd δ Q h=>by
 unfold gTN at h ⊢;split at h
 ·exact⟨h.1,Qds is _ δ,h.2⟩
 ·exact h.elim⟩
theorem Qnf{cap:List (Option Nat)}{ix:List Nat}(hf:Qcl cap ix=true){i:Nat}(hi:i∈ix):cap[i]? = some none:=by
 have:=YZ.mp hf i hi;split at this
 ·assumption
 ·cases this
theorem QdW{cap:List (Option Nat)}{ix:List Nat}(hf:Qcl cap ix=true){δ:Sts}{i:Nat}{x:Sl}(h:(QdY cap δ)[i]? = some x)(hx:x≠.no):i∉ix:=λz=>by
 rcases Qgs h with⟨_,e⟩ | ⟨j,hj,_⟩
 ·exact hx e
 ·rw[Qnf hf z] at hj;cases hj
section
variable{K:PySem.W.Frag}{σ σ4:L2.St}{δ δ4:Sts}{cap:List (Option Nat)}{ix:List Nat}{A1:Addr->Prop}{H3 H5 H6:Hp}
theorem Qr9(hP:∀a,Yh σ δ a->A1 a)(hf:Qcl cap ix=true)(j4:∀j,j∉ix->σ4[j]? = (QcS cap σ)[j]?)(gk:∀(j:Nat) x,δ4[j]? = some x->(∃e,x=.v e)∨(QdY cap δ)[j]? = some x){a:Addr}(h:Av (inF A1 cap σ δ H3) σ4 δ4 a):A1 a:=by
 rcases h with z | ⟨i,h1,h2⟩
 ·exact z
 ·refine(QjC (cap:=cap) (H:=H3) hP).mp ?_
  rcases h2 with h2 | ⟨ds,h2⟩
  ·rcases gk i _ h2 with⟨e,z⟩ | z
   ·cases z
   ·exact .inr ⟨i,by rw[<- j4 i (QdW hf z (λz=>by cases z))];exact h1,.inl z⟩
  ·rcases gk i _ h2 with⟨e,z⟩ | z
   ·cases z
   ·exact .inr ⟨i,by rw[<- j4 i (QdW hf z (λz=>by cases z))];exact h1,.inr ⟨ds,z⟩⟩
theorem QuI(hP:∀a,Yh σ δ a->A1 a)(hf:Qcl cap ix=true)(j4:∀j,j∉ix->σ4[j]? = (QcS cap σ)[j]?)(gk:∀(j:Nat) x,δ4[j]? = some x->(∃e,x=.v e)∨(QdY cap δ)[j]? = some x)
  (ri:Rel K (inF A1 cap σ δ H6) (QcS cap σ) H6 (QdY cap δ))(r5:Rel K (inF A1 cap σ δ H3) σ4 H5 δ4)(kk:∀a o,¬A1 a->H5 a=some o->H6 a=some o):Rel K (inF A1 cap σ δ H6) σ4 H6 δ4 where
 len:=r5.len
 dom:=ri.dom
 dom0:=ri.dom0
 pt0:=ri.pt0
 kx:=ri.kx
 sl:=λi o x h1 h2=>by
  have iv:∀{a:Addr},Av (inF A1 cap σ δ H6) σ4 δ4 a->A1 a:=λ{a} z=>Qr9 hP hf j4 gk z
  rcases gk i x h2 with⟨d,rfl⟩ | hx
  ·obtain⟨v,e,q⟩:=r5.sl i o _ h1 h2;exact⟨v,e,q.mv (λa o n e=>kk a o (λz=>n (.inl z)) e) λa z=>.inl (.inl (iv z))⟩
  ·by_cases hn:x=.no
   ·subst hn;trivial
   ·have h1':(QcS cap σ)[i]? = some o:=by rw[<- j4 i (QdW hf hx hn)];exact h1
    have h:=ri.sl i o x h1' hx;cases x with
    |no=>trivial
    |v d=>obtain⟨v',e,q'⟩:=h;exact⟨v',e,q'.mv (λ_ _ _ e=>e) λa z=>.inl (.inl (iv z))⟩
    |own ds=>obtain⟨l,xs,e,e2,q',f⟩:=h;exact⟨l,xs,e,e2,q'.mv (λ_ _ _ e=>e) λa z=>.inl (.inl (iv z)),f⟩
    |pk ds=>obtain⟨l,xs,e,e2,q',f⟩:=h;exact⟨l,xs,e,e2,q'.mv (λ_ _ _ e=>e) λa z=>.inl (.inl (iv z)),f⟩
    |pot=>exact h
    |scr=>exact h
 inj:=λi j a ds h1 h2 _=>by
  rcases gk i _ h1 with⟨e,z⟩ | z
  ·cases z
  ·rcases Qgs z with⟨_,e⟩ | ⟨j,hj,e⟩
   ·cases e
   ·exfalso
    cases e2:δ[j]? with
    |none=>rw[e2] at e;cases e
    |some y=>rw[e2] at e;cases y<;>cases e
end
theorem Qot{K:PySem.W.Frag}{F:Fm}{σ:L2.St}{δ:Sts}{H1 H3:Hp}{cap:List (Option Nat)}{ix:List Nat}{wg:DG}{wt:DT}{A1:Addr->Prop}{x:V}{d:PyData}{inner:L2.St->Hp->(Hp->Prop)->Prop}{kk:Hp->Prop}{T:Sts->Prop}{N:Prop}(gok:GOk wg)
  (hf:Qcl cap ix=true)(rel:Rel K F σ H1 δ)(hA:∀a,Av F σ δ a->A1 a)(hN:∀a,A1 a->Av F σ δ a∨H1 a=none)(dm:∀a,A1 a->∃xs,H3 a=some (.lst xs))(kp:Kp σ δ H1 H3)(dx:DA A1 H3 x d)
  (h:wg d (QdY cap δ) λδ4=>wt δ4 (λb=>if b=true then T δ4 else N) XF)
  (hT:∀σ4 δ4 H5,T δ4->Rel K (inF A1 cap σ δ H3) σ4 H5 δ4->Kp σ δ H3 H5->(∀j,j∉ix->σ4[j]? = (QcS cap σ)[j]?)->σ4.length=(QcS cap σ).length->(∀(j:Nat) x,δ4[j]? = some x->(∃e,x=.v e)∨(QdY cap δ)[j]? = some x)->inner σ4 H5 kk)(hF:N->∀H5,Kp σ δ H3 H5->kk H5) :
  bOf (QcS cap σ) (tG ix K wg) (tT K E0 wt) inner x H3 kk:=by
 have ri:=Qm7 (cap:=cap) rel hA hN dm kp;have iv:∀{a:Addr},Av (inF A1 cap σ δ H3) (QcS cap σ) (QdY cap δ) a->A1 a:=λ{a}=>(QjC λa z=>hA a (Y5 z)).mp
 refine⟨inF A1 cap σ δ H3,QdY cap δ,d,_,ri,dx.mv (λ_ _ _ e=>e) λa z=>.inl (iv z),gok.h _ _ _ h,λδ4 ⟨g4,h4⟩ σ4 r4 st4 l4 j4=>⟨Qsl hf l4 j4,inF A1 cap σ δ H3,δ4,_,XF,r4,h4,λb hb H5 r5 kp5=>?_,Qr1⟩⟩;have pots:∀{b:Addr},Yh σ4 δ4 b->Yh σ δ b:=λz=>QiC r4 (λb o _ e1 e2=>by rw[e2] at e1;cases e1) z
 have K5:Kp σ δ H3 H5:=by
  refine⟨λb o n e=>kp5.1 b o (λz=>n (pots z)) e,λb hb=>?_⟩;by_cases z:Yh σ4 δ4 b
  ·exact kp5.2 b z
  ·obtain⟨n,e⟩:=kp.2 b hb;exact⟨n,kp5.1 _ _ z e⟩
 exact Qcb hb (λz=>hT σ4 δ4 H5 z r5 K5 j4 l4 g4) λz=>hF z H5 K5
theorem QuR{K:PySem.W.Frag}{σ σ4:L2.St}{δ δ4:Sts}{H1 H3 H5:Hp}{cap:List (Option Nat)}{we:DE}{A1:Addr->Prop}{p:Addr}{acc:List PyData}{kk:Hp->Prop}{G:PyData->Prop}
  (hpA:A1 p)(hP:∀a,Yh σ δ a->A1 a)(hp1:H1 p=none)(hpn:¬Yh σ δ p)(lp:Lp σ δ A1 p H1 H5 acc)(hl:acc.length<sizeLine)(r5:Rel K (inF A1 cap σ δ H3) σ4 H5 δ4)(pots:∀b,Yh σ4 δ4 b->Yh σ δ b)
  (h:we δ4 G XF)(hk:∀e,G e->∀H',Lp σ δ A1 p H1 H' (acc++[e])->(∀b o,¬A1 b->H5 b=some o->H' b=some o)->kk H'):Qx0 p (tX .D K E0 we) σ4 H5 kk:=by
 refine⟨inF A1 cap σ δ H3,δ4,G,XF,r5,h,λe he v H6 r6 kp6 dv=>?_,Qr1⟩;have k56:Kp σ δ H5 H6:=by
  refine⟨λb o n e=>kp6.1 b o (λz=>n (pots b z)) e,λb hb=>?_⟩;by_cases z:Yh σ4 δ4 b
  ·exact kp6.2 b z
  ·obtain⟨n,e⟩:=lp.kp.2 b hb;exact⟨n,kp6.1 _ _ z e⟩
 obtain⟨k6,ys,e6,q6⟩:=lp.step hP hpn k56;have up:∀{b:Addr}{o:HO},¬A1 b->H6 b=some o->upd H6 p (.lst (ys++[v])) b=some o:=λ{b o} n e=>by rw[JX (λz=>n (by rw[z];exact hpA))];exact e
 refine⟨ys,e6,by rw[q6.length];exact hl,hk e he _ ⟨⟨λb o n e=>?_,λb hb=>?_⟩,ys++[v],Jz,DAs.app (q6.mv (λ_ _=>up) λa z=>.inl z) (.cons (DA.mv dv (λa o n e=>up (λz=>n (.inl z)) e) λa z=>.inl (.inl z)) .nil)⟩ λb o n e=>up n (kp6.1 b o (λz=>n (hP b (pots b z))) e)⟩
 ·rw[JX (λz=>by rw[z,hp1] at e;cases e)];exact k6.1 b o n e
 ·rw[JX (λz=>hpn (by rw[<- z];exact hb))];exact k6.2 b hb
def QpY:Nat:=1000000
@[irreducible] def InR(items2:List PyData)(wg2:DG)(wt2:DT)(we:DE)(δ4:Sts)(acc:List PyData)(N:List PyData->Prop):Prop:=∃Jv:Nat->List PyData->Prop,Jv 0 acc /\
 (∀(j:Nat) acc2 d2,items2[j]? = some d2->Jv j acc2->acc2.length<QpY/\wg2 d2 δ4 λδ5=>wt2 δ5 (λb=>if b=true then we δ5 (λe=>Jv (j+1) (acc2++[e])) XF else Jv (j+1) acc2) XF)/\∀acc2,Jv items2.length acc2->N acc2
@[irreducible] def QjT(items:List PyData)(wg:DG)(wt:DT)(wi2:DI)(wg2:DG)(wt2:DT)(we:DE)(δ:Sts)(Q:PyData->Prop):Prop:=∃Iv:Nat->List PyData->Prop,Iv 0 [] /\
 (∀(i:Nat) acc d,items[i]? = some d->Iv i acc->wg d δ λδ4=>wt δ4 (λb=>if b=true then wi2 δ4 (λitems2=>InR items2 wg2 wt2 we δ4 acc (Iv (i+1))) XF else Iv (i+1) acc) XF)/\∀acc,Iv items.length acc->Q (.list acc)
def Qsh(cap:List (Option Nat))(wi:DI)(wg:DG)(wt:DT)(wi2:DI)(wg2:DG)(wt2:DT)(we:DE):DE:=λδ Q EX=>wi δ (λitems=>QjT items wg wt wi2 wg2 wt2 we (QdY cap δ) Q) EX
section
variable{X:Cx}{E:XK}
theorem QpX:QpY<=sizeLine:=QX (by decide) Qix
end
section
variable{X:Cx}{E:XK}
end
theorem Qz2{items2:List PyData}{wg2:DG}{wt2:DT}{we:DE}{δ4:Sts}{acc:List PyData}{N:List PyData->Prop}(G:PyData->Option PyData)(hl:acc.length+items2.length<QpY)
  (h:∀d∈items2,∀(k1:Prop)(k2:PyData->Prop),(G d=none->k1)->(∀e,G d=some e->k2 e)->wg2 d δ4 λδ5=>wt2 δ5 (λb=>if b=true then we δ5 k2 XF else k1) XF)(q:N (acc++items2.filterMap G)) :
  InR items2 wg2 wt2 we δ4 acc N:=by
 unfold InR;refine⟨λi acc2=>acc2=acc++(items2.take i).filterMap G,by simp,λi acc2 d hd e=>?_,λacc2 e=>by rw[e,Zp];exact q⟩;have e:acc2=acc++(items2.take i).filterMap G:=e;have hs:(items2.take (i+1)).filterMap G=(items2.take i).filterMap G++(G d).toList:=by
  rw[ZR,hd,QkW];cases e2:G d<;>simp[e2]
 refine⟨?_,h d (Q8 hd) _ _ (λe2=>?_) λe' e2=>?_⟩
 ·have:=List.length_filterMap_le G (items2.take i);have h2:(items2.take i).length<=items2.length:=by rw[YY];exact QfB _ _
  rw[e,Qr];omega
 ·show acc2=acc++(items2.take (i+1)).filterMap G;rw[hs,e2,e];simp
 ·show acc2++[e']=acc++(items2.take (i+1)).filterMap G;rw[hs,e2,e];simp
def Ql0:List V->Hp->VK->Prop:=λxs H Q=>∃l ns,xs=[.ref l]/\H l=some (.lst ((ns:List Int).map V.int))/\ns.length<64 /\
 ∀t ms H2,Same H H2->H t=none->H2 t=some (.lst ((ms:List Int).map V.int))->ms.Perm ns->ms.Pairwise (·<=·)->Q (.ref t) H2
section
open Rs PySem.W PySem.Calls
variable{X:Cx}
theorem QiO:CallR X (.builtin "sorted") Ql0:=by
 intro pins s σ H xs us Q I r h;obtain⟨l,ns,rfl,hl,h64,q⟩:=h;obtain⟨u,rfl,ru⟩:=vals1 r;cases ru;obtain⟨hz,its,n,rv,ho⟩:=I.hok l _ hl;have li:=rv.length;rw[Qc] at li;refine Qbx (.inl rfl) ho rfl rfl (by omega) λh' kp P E' hP=>?_
 have hn:(h'.push (seqObj "list" its.toArray 0)).get? h'.objs.size=some (seqObj "list" its.toArray 0):=Qq _ rfl;refine Qk2 (s:={ s with heap:=h'.push (seqObj "list" its.toArray 0) }) hn (Qgc rv) (by omega) λout ns' ia pm pw=>hP _ ?_
 have I1:Inv X pins σ H { s with heap:=h' }:=I.kept (t':=s.toks) kp;have hf:H h'.objs.size=none:=I1.hok.fresh (Qh _);obtain⟨e,he⟩:∃e,(sortedHeap (h'.push (seqObj "list" its.toArray 0)) h'.objs.size its out).get? h'.objs.size=some (seqObj "list" out e):=Qob hn
 have rv':=QdZ ia;have lp:=pm.length_eq;have I2:Inv X pins σ (upd H h'.objs.size (.lst (ns'.map V.int))) { s with heap:=sortedHeap (h'.push (seqObj "list" its.toArray 0)) h'.objs.size its out }:=
  I1.laid (t':=s.toks) (λb x e'=>(Qk1 (QD (Qj e')) (QQ (Qj e') (by rw[QyM];exact QgN _))).trans (Qf _ e')) (Qh _) (show ObjOk X.prog X.w _ _ _ (.lst _) from⟨by rw[Qc];exact ZQ (Rk.Qbf (by omega)),out.toList,e,rv',by rw[he]⟩)
 exact⟨.ref h'.objs.size,_,I2,rfl,q _ ns' _ (JW hf) hf Jz pm pw⟩
def QrP(K:PySem.W.Frag):List V->Hp->VK->Prop:=λxs H Q=>QrO K xs H Q∨Ql0 xs H Q
theorem Qft:CallR X (.builtin "sorted") (QrP X.K):=by
 intro pins s σ H xs us Q I r h;rcases h with h | h
 ·exact QkM pins s σ H xs us Q I r h
 ·exact QiO pins s σ H xs us Q I r h
end
@[irreducible] def QlH:List PyData->(PyData->Prop)->Prop
 |[.list ds],Q=>∃ns,Qbm ds=some ns/\ns.length<64/\∀ms:List Int,ms.Perm ns->ms.Pairwise (·<=·)->Q (.list (ms.map .int))
 |[.tuple ds],Q=>∃ns,Qbm ds=some ns/\ns.length<64/\∀ms:List Int,ms.Perm ns->ms.Pairwise (·<=·)->Q (.list (ms.map .int))
 |_,_=>False
theorem QbZ{A:Addr->Prop}{H:Hp}:∀ms:List Int,DAs A H (ms.map V.int) (ms.map .int)
 |[]=>.nil
 |m::ms=>.cons (.int m) (QbZ ms)
theorem Qny{K:PySem.W.Frag}:Qbj (QrP K) QlH:=λA P H vs ds R Q ln dm q h k=>by
 unfold QlH at h;split at h
 ·obtain⟨v,rfl,hv⟩:=pd1 q;obtain⟨bs,hb,h64,hR⟩:=h;rw[Qev hb] at hv;obtain⟨l,xs,rfl,e,qq⟩:=hv.list;rw[QaN qq] at e;exact .inr ⟨l,bs,rfl,e,h64,λt ms H2 s n e2 pm pw=>k _ (hR ms pm pw) _ H2 s (Qdy dm s n e2 (QbZ ms)) (QaD n)⟩
 ·obtain⟨v,rfl,hv⟩:=pd1 q;obtain⟨bs,hb,h64,hR⟩:=h;rw[Qev hb] at hv;obtain⟨l,xs,rfl,e,qq⟩:=hv.tuple;rw[QaN qq] at e;exact .inl ⟨l,bs,rfl,SqT.of e,h64,λt ms H2 s n e2 pm pw=>k _ (hR ms pm pw) _ H2 s (Qdy dm s n e2 (QbZ ms)) (QaD n)⟩
 ·exact h.elim
theorem QlG{ds:List PyData}{Q:PyData->Prop}{ns:List Int}(h:Qbm ds=some ns)(h64:ns.length<64)(k:∀ms:List Int,ms.Perm ns->ms.Pairwise (·<=·)->Q (.list (ms.map .int))):QlH [.list ds] Q/\QlH [.tuple ds] Q:=by
 unfold QlH;exact⟨⟨ns,h,h64,k⟩,ns,h,h64,k⟩
def QBN(a b:DI):DI:=λδ R EX=>a δ R EX∨b δ R EX
theorem Qzs{X:Cx}{E:XK}{m:Md}{tg e:Q1}{a b:DI}(h:QI m X E tg e a)(h':QI m X E tg e b):QI m X E tg e (QBN a b):=⟨λpins s σ H R I ⟨F,δ,R',EX,rel,hw,k,o⟩=>by
 rcases hw with hw | hw
 ·exact h.h pins s σ H R I ⟨F,δ,R',EX,rel,hw,k,o⟩
 ·exact h'.h pins s σ H R I ⟨F,δ,R',EX,rel,hw,k,o⟩⟩
end Dl
namespace PySem
namespace AutoSeq1
open PyProof
end AutoSeq1
end PySem
namespace L2
end L2
namespace Dl
open L2 _root_.Rd Rk
section
variable{X:Cx}{E:XK}
end
theorem Qnv{K:PySem.W.Frag}{E:XK}{cap:List (Option Nat)}{ix:List Nat}{wi:DI}{wg:DG}{wt:DT}{we:DE}(hf:Qcl cap ix=true)(σ:L2.St)(H:Hp)(Q:VK)(h:tX .F K E (dComp cap wi wg wt we) σ H Q) :
  tComp cap (tI .P K E wi) (tG ix K wg) (tT K E0 wt) (tX .D K E0 we) σ H Q:=by
 obtain⟨F,δ,R,EX,rel,hw,k,o⟩:=h;refine⟨F,δ,_,EX,rel,hw,λitems hC J H1 rel1 kp1 ⟨ln,it⟩ p hp=>?_,o⟩;unfold QiY at hC;obtain⟨Iv,i0,step,fin⟩:=hC;have hpn:¬Yh σ δ p:=λz=>by obtain⟨xs,e⟩:=rel1.isl (Y5 (F:=F) z);rw[hp] at e;cases e
 let A1:Addr->Prop:=λa=>Av F σ δ a∨a=p
 have hP:∀a,Yh σ δ a->A1 a:=λa z=>.inl (Y5 z)
 have hN:∀a,A1 a->Av F σ δ a∨H1 a=none:=λa z=>z.elim .inl λz=>.inr (by rw[z];exact hp)
 have dmK:∀{H2:Hp},Kp σ δ H1 H2->(∃ys,H2 p=some (.lst ys))->∀a,A1 a->∃xs,H2 a=some (.lst xs):=λ{H2} k2 e2 a z=>by
  rcases z with z | z
  ·exact(rel1.kp k2).isl z
  ·rw[z];exact e2
 refine Qes items.length (λi H2=>i<=items.length/\∃acc,Iv i acc/\acc.length<=i/\Lp σ δ A1 p H1 H2 acc) ⟨Jc _,[],i0,Qh _,Kp.same rel1 (JW hp),[],Jz,.nil⟩ (λi H2 hi ⟨_,acc,iv,hl,lp⟩=>?_) λH2 ⟨_,acc,iv,hl,lp⟩=>?_
 ·obtain⟨k2,ys,e2,q2⟩:=lp;obtain⟨go,_⟩:=it H2 A1 (λb o n e=>k2.1 b o n e) hN (dmK k2 ⟨ys,e2⟩);have hd:items[i]? = some items[i]:=Qe hi;obtain⟨g1,g2⟩:=go i _ hd;refine⟨g1,λx H3 y kk hk=>?_⟩;obtain⟨s3,dx⟩:=g2 x H3 y;have k23:=Kp.same (rel1.kp k2) s3;have lp3:Lp σ δ A1 p H1 H3 acc:=Lp.step hP hpn ⟨k2,ys,e2,q2⟩ k23;refine Qln hf rel1 (λa z=>.inl z) hN (dmK lp3.kp ⟨ys,s3 _ _ e2⟩) lp3.kp dx (step i acc _ hd iv) (λσ4 δ4 H5 h5 r5 k5 pots=>?_) λh5 H5 k5=>hk _ ⟨hi,acc,h5,by omega,lp3.step hP hpn k5⟩
  exact Qse (.inr rfl) hP hp hpn (lp3.step hP hpn k5) (by omega) r5 pots h5 λe he H' lp'=>hk _ ⟨hi,acc++[e],he,by rw[Qr];show _+1<=_;omega,lp'⟩
 ·obtain⟨k2,ys,e2,q2⟩:=lp;obtain⟨_,st⟩:=it H2 A1 (λb o n e=>k2.1 b o n e) hN (dmK k2 ⟨ys,e2⟩);refine⟨st,k _ (fin acc iv) (.ref p) H2 (rel1.kp k2) (kp1.trans k2) ⟨.lst (λz=>?_) e2 (q2.mv (λ_ _ _ e=>e) λa z=>.inl (.inl z)),λl e1 _=>?_⟩⟩
  ·obtain⟨xs,e⟩:=rel1.isl z;rw[hp] at e;cases e
  ·cases e1;exact Qcj kp1 hp
theorem QA1{K:PySem.W.Frag}{E:XK}{w:DE}(σ:L2.St)(H:Hp)(Q:VK)(h:tX .D K E w σ H Q):tX .F K E w σ H Q:=by
 obtain⟨F,δ,R,EX,rel,hw,k,o⟩:=h;exact⟨F,δ,R,EX,rel,hw,λd hd v H' r kp vk=>k d hd v H' r kp vk.1,o⟩
section
variable{X:Cx}{E:XK}
theorem Ql3(M:List Str)(cap:List (Option Nat))(i:Nat){elt tg iter:Q1}{ifs:List Q1}{scope:YV}{pos py spos:Pos}{y:Str}{ix:List Nat}{wi:DI}{wg:DG}{wt:DT}{we:DE}(hN:X.N.Nodup)(hi:QI .P X E tg iter wi)(hb:∀cl ex s3 H3 C,QG ix (blk X M scope cl ex s3 H3 C) tg wg/\QTs (blk X M scope cl ex s3 H3 C) E0 ifs wt/\QE .D (blk X M scope cl ex s3 H3 C) E0 elt we)(hiy:X.N[i]? = some y:=by rfl)(hly:X.env.scope.names.lookup y=some .local:=by rfl)(hc:X.calm=true:=by rfl)(ok:Qe1 X.N X.env.scope M scope cap=true:=by rfl)(hf:Qcl cap ix=true:=by rfl)(hs:∀x,foldedSetIterable iter X.env x=pure x:=by intro _;rfl)(hsw:swapsWith (.ListComp elt [⟨tg,iter,ifs,0⟩] scope pos) (some (.Name y py)) spos.line X.env=pure true:=by rfl):QS X E (.Assign [.Name y py] (.ListComp elt [⟨tg,iter,ifs,0⟩] scope pos) spos) (Qyy i (dComp cap wi wg wt we)):=
 ⟨Qiq (PS.imp (PS.imp (QoY hN hiy hly hc ok hi.h (λcl ex s3 H3 C=>⟨(hb cl ex s3 H3 C).1.h,(hb cl ex s3 H3 C).2.1.h,(hb cl ex s3 H3 C).2.2.h⟩) hs hsw) λD σ H q=>Qnv (E:=E) hf σ H _ q) λD σ H q=>QA1 σ H _ q)⟩
end
theorem QkG{K:PySem.W.Frag}{E:XK}{cap:List (Option Nat)}{ix ix2:List Nat}{wi wi2:DI}{wg wg2:DG}{wt wt2:DT}{we:DE}(gok:GOk wg)(hf:Qcl cap ix=true)(hf2:Qcl cap ix2=true)(hd:ix2.all (λi => !ix.contains i)=true)(σ:L2.St)(H:Hp)(Q:VK)(h:tX .F K E (Qsh cap wi wg wt wi2 wg2 wt2 we) σ H Q) :
  QrD cap (tI .P K E wi) (tG ix K wg) (tT K E0 wt) (tI .D K E0 wi2) (tG ix2 K wg2) (tT K E0 wt2) (tX .D K E0 we) σ H Q:=by
 obtain⟨F,δ,R,EX,rel,hw,k,o⟩:=h;refine⟨F,δ,_,EX,rel,hw,λitems hC J H1 rel1 kp1 ⟨ln,it⟩ p hp=>?_,o⟩;unfold QjT at hC;obtain⟨Iv,i0,step,fin⟩:=hC;have hpn:¬Yh σ δ p:=λz=>by obtain⟨xs,e⟩:=rel1.isl (Y5 (F:=F) z);rw[hp] at e;cases e
 let A1:Addr->Prop:=λa=>Av F σ δ a∨a=p
 have hP:∀a,Yh σ δ a->A1 a:=λa z=>.inl (Y5 z)
 have hN:∀a,A1 a->Av F σ δ a∨H1 a=none:=λa z=>z.elim .inl λz=>.inr (by rw[z];exact hp)
 have dmK:∀{H2:Hp},Kp σ δ H1 H2->(∃ys,H2 p=some (.lst ys))->∀a,A1 a->∃xs,H2 a=some (.lst xs):=λ{H2} k2 e2 a z=>by
  rcases z with z | z
  ·exact(rel1.kp k2).isl z
  ·rw[z];exact e2
 refine Qes items.length (λi H2=>i<=items.length/\∃acc,Iv i acc/\Lp σ δ A1 p H1 H2 acc) ⟨Jc _,[],i0,Kp.same rel1 (JW hp),[],Jz,.nil⟩ (λi H2 hi ⟨_,acc,iv,lp⟩=>?_) λH2 ⟨_,acc,iv,lp⟩=>?_
 ·obtain⟨k2,ys,e2,q2⟩:=lp;obtain⟨go,_⟩:=it H2 A1 (λb o n e=>k2.1 b o n e) hN (dmK k2 ⟨ys,e2⟩);have hd':items[i]? = some items[i]:=Qe hi;obtain⟨g1,g2⟩:=go i _ hd';refine⟨g1,λx H3 y kk hk=>?_⟩;obtain⟨s3,dx⟩:=g2 x H3 y;have k23:=Kp.same (rel1.kp k2) s3;have lp3:Lp σ δ A1 p H1 H3 acc:=Lp.step hP hpn ⟨k2,ys,e2,q2⟩ k23;refine Qot gok hf rel1 (λa z=>.inl z) hN (dmK lp3.kp ⟨ys,s3 _ _ e2⟩) lp3.kp dx (step i acc _ hd' iv) (λσ4 δ4 H5 h5 r5 k5 j4 l4 g4=>?_) λh5 H5 k5=>hk _ ⟨hi,acc,h5,lp3.step hP hpn k5⟩
  have av4:∀{H:Hp}{a:Addr},Av (inF A1 cap σ δ H) σ4 δ4 a->A1 a:=λ{H a} z=>Qr9 hP hf j4 g4 z
  refine⟨inF A1 cap σ δ H3,δ4,_,XF,r5,h5,λitems2 hJ J2 H7 rel7 kp7 ⟨ln2,it2⟩=>?_,Qr1⟩;unfold InR at hJ;obtain⟨Jv,z0,step2,fin2⟩:=hJ;have pots4:∀{b:Addr},Yh σ4 δ4 b->Yh σ δ b:=λ{b} z=>by
   obtain⟨j,z1,z2⟩:=z;rcases g4 j _ z2 with⟨e,z⟩ | z
   ·cases z
   ·exact Qco ⟨j,by rw[<- j4 j (QdW hf z (λz=>by cases z))];exact z1,z⟩
  have k57:Kp σ δ H5 H7:=by
   refine⟨λb o n e=>kp7.1 b o (λz=>n (pots4 z)) e,λb hb=>?_⟩;by_cases z:Yh σ4 δ4 b
   ·exact kp7.2 b z
   ·obtain⟨n,e⟩:=k5.2 b hb;exact⟨n,kp7.1 _ _ z e⟩
  refine Qes items2.length (λj H8=>j<=items2.length/\∃acc2,Jv j acc2/\Lp σ δ A1 p H1 H8 acc2/\∀b o,¬A1 b->H7 b=some o->H8 b=some o) ⟨Jc _,acc,z0,(lp3.step hP hpn k5).step hP hpn k57,λ_ _ _ e=>e⟩ (λj H8 hj ⟨_,acc2,jv,lp8,s78⟩=>?_) λH8 ⟨_,acc2,jv,lp8,s78⟩=>?_
  ·obtain⟨ys8,e8,q8⟩:=lp8.at_;obtain⟨go2,_⟩:=it2 H8 A1 (λb o n e=>s78 b o (λz=>n (.inl z)) e) (λb z=>.inl (.inl z)) (dmK lp8.kp ⟨ys8,e8⟩);have hd2:items2[j]? = some items2[j]:=Qe hj;obtain⟨g3,g5⟩:=go2 j _ hd2;refine⟨g3,λx2 H9 y2 kk2 hk2=>?_⟩;obtain⟨s9,dx2⟩:=g5 x2 H9 y2;have k89:=Kp.same (rel1.kp lp8.kp) s9;have lp9:Lp σ δ A1 p H1 H9 acc2:=lp8.step hP hpn k89;have ri:=Qm7 (cap:=cap) rel1 (λa z=>.inl z) hN (dmK lp9.kp ⟨ys8,s9 _ _ e8⟩) lp9.kp;have r9:=QuI hP hf j4 g4 ri r5 λa o n e=>s9 _ _ (s78 a o n (k57.1 a o (λz=>n (hP a z)) e))
   obtain⟨hl2,hw2⟩:=step2 j acc2 _ hd2 jv;refine⟨inF A1 cap σ δ H9,δ4,_,_,r9,dx2.mv (λ_ _ _ e=>e) λa z=>.inl (av4 z),hw2,λδ5 h6 σ5 r10 st5 l5 j5=>⟨Qoo l5 λi v e=>?_,inF A1 cap σ δ H9,δ5,_,XF,r10,h6,λb hb H10 r11 kp11=>?_,Qr1⟩⟩
   ·by_cases z:i∈ix2
    ·have n1:i∉ix:=λz2=>by
      have:=YZ.mp hd i z;simp[z2] at this
     rw[j4 i n1] at e;rcases Qgr e with⟨_,e2⟩ | ⟨j,hj2,_⟩
     ·cases e2
     ·rw[Qnf hf2 z] at hj2;cases hj2
    ·rw[j5 i z];exact e
   ·have pots:∀{b:Addr},Yh σ5 δ5 b->Yh σ δ b:=λz=>QiC r10 (λb o _ e1 e2=>by rw[e2] at e1;cases e1) z
    have K10:Kp σ δ H9 H10:=by
     refine⟨λb o n e=>kp11.1 b o (λz=>n (pots z)) e,λb hb=>?_⟩;by_cases z:Yh σ5 δ5 b
     ·exact kp11.2 b z
     ·obtain⟨n,e⟩:=lp9.kp.2 b hb;exact⟨n,kp11.1 _ _ z e⟩
    have s710:∀b o,¬A1 b->H7 b=some o->H10 b=some o:=λb o n e=>K10.1 b o (λz=>n (hP b z)) (s9 _ _ (s78 b o n e))
    refine Qcb hb (λz=>?_) λz=>hk2 _ ⟨hj,acc2,z,lp9.step hP hpn K10,s710⟩
    exact QuR (.inr rfl) hP hp hpn (lp9.step hP hpn K10) (QQ hl2 QpX) r11 (λb=>pots) z λe he H' lp' kk'=>hk2 _ ⟨hj,acc2++[e],he,lp',λb o n e=>kk' b o n (s710 b o n e)⟩
  ·obtain⟨ys8,e8,q8⟩:=lp8.at_;obtain⟨_,st2⟩:=it2 H8 A1 (λb o n e=>s78 b o (λz=>n (.inl z)) e) (λb z=>.inl (.inl z)) (dmK lp8.kp ⟨ys8,e8⟩);exact⟨st2,hk _ ⟨hi,acc2,fin2 acc2 jv,lp8⟩⟩
 ·obtain⟨k2,ys,e2,q2⟩:=lp;obtain⟨_,st⟩:=it H2 A1 (λb o n e=>k2.1 b o n e) hN (dmK k2 ⟨ys,e2⟩);refine⟨st,k _ (fin acc iv) (.ref p) H2 (rel1.kp k2) (kp1.trans k2) ⟨.lst (λz=>?_) e2 (q2.mv (λ_ _ _ e=>e) λa z=>.inl (.inl z)),λl e1 _=>?_⟩⟩
  ·obtain⟨xs,e⟩:=rel1.isl z;rw[hp] at e;cases e
  ·cases e1;exact Qcj kp1 hp
section
variable{X:Cx}{E:XK}
theorem QoV(M:List Str)(cap:List (Option Nat))(i:Nat){elt tg iter tg2 iter2:Q1}{ifs ifs2:List Q1}{scope:YV}{pos py spos:Pos}{y:Str}{ix ix2:List Nat}{wi wi2:DI}{wg wg2:DG}{wt wt2:DT}{we:DE}(hN:X.N.Nodup)(gok:GOk wg)(hi:QI .P X E tg iter wi)(hb:∀cl ex s3 H3 C,QG ix (blk X M scope cl ex s3 H3 C) tg wg/\QTs (blk X M scope cl ex s3 H3 C) E0 ifs wt/\QI .D (blk X M scope cl ex s3 H3 C) E0 tg2 iter2 wi2/\QG ix2 (blk X M scope cl ex s3 H3 C) tg2 wg2/\QTs (blk X M scope cl ex s3 H3 C) E0 ifs2 wt2/\QE .D (blk X M scope cl ex s3 H3 C) E0 elt we)(hiy:X.N[i]? = some y:=by rfl)(hly:X.env.scope.names.lookup y=some .local:=by rfl)(hc:X.calm=true:=by rfl)(ok:Qe1 X.N X.env.scope M scope cap=true:=by rfl)(hf:Qcl cap ix=true:=by rfl)(hf2:Qcl cap ix2=true:=by rfl)(hd:ix2.all (λi => !ix.contains i)=true:=by rfl)(hs:∀x,foldedSetIterable iter X.env x=pure x:=by intro _;rfl)(hs2:∀env x,foldedSetIterable iter2 env x=pure x:=by intro _ _;rfl)(hsw:swapsWith (.ListComp elt [⟨tg,iter,ifs,0⟩,⟨tg2,iter2,ifs2,0⟩] scope pos) (some (.Name y py)) spos.line X.env=pure true:=by rfl):QS X E (.Assign [.Name y py] (.ListComp elt [⟨tg,iter,ifs,0⟩,⟨tg2,iter2,ifs2,0⟩] scope pos) spos) (Qyy i (Qsh cap wi wg wt wi2 wg2 wt2 we)):=
 ⟨Qiq (PS.imp (PS.imp (Qmb hN hiy hly hc ok hi.h (λcl ex s3 H3 C=>⟨(hb cl ex s3 H3 C).1.h,(hb cl ex s3 H3 C).2.1.h,(hb cl ex s3 H3 C).2.2.1.h,(hb cl ex s3 H3 C).2.2.2.1.h,(hb cl ex s3 H3 C).2.2.2.2.1.h,(hb cl ex s3 H3 C).2.2.2.2.2.h⟩) hs hs2 hsw) λD σ H q=>QkG (E:=E) gok hf hf2 hd σ H _ q) λD σ H q=>QA1 σ H _ q)⟩
end
theorem Qhe{A:Addr->Prop}{H:Hp}(dm:∀a,A a->∃xs,H a=some (.lst xs)):∀(M:List (Int×Int))(ys:List V),Dats H ys (M.map Rk.pairD)->DAs A H ys (M.map Rk.pairD)
 |[],ys,h=>by cases h;exact .nil
 |m::M,ys,h=>by
  cases h with
  |@cons x xs _ _ h1 h2=>
   refine .cons ?_ (Qhe dm M xs h2)
   cases h1 with
   |@tup a zs _ e q=>
    refine .tup (λz=>?_) e ?_
    ·obtain⟨xs,e'⟩:=dm a z;rw[e] at e';cases e'
    ·cases q with
     |cons a b=>
      cases a;cases b with
      |cons a b=>cases a;cases b;exact .cons (.int _) (.cons (.int _) .nil)
theorem Qa7(L:List (Int×Int)):nds (L.map Rk.pairD)=true:=QmO.mpr λd hd=>by
 obtain⟨i,_,rfl⟩:=Qt.mp hd;rfl
@[irreducible] def sortPD:List PyData->(PyData->Prop)->Prop
 |[.list ds],Q=>∃L:List (Int×Int),ds=L.map Rk.pairD/\L.Nodup/\L.length<64/\(∀ij∈L,0<=ij.2/\ij.2<64)/\∀M:List (Int×Int),M.Perm L->M.Pairwise (λa b=>Rs.code a<Rs.code b)->Q (.list (M.map Rk.pairD))
 |_,_=>False
theorem cd_sortP:Qbj QlZ sortPD:=λA P H vs ds R Q ln dm q h k=>by
 unfold sortPD at h;split at h
 ·obtain⟨v,rfl,hv⟩:=pd1 q;obtain⟨L,rfl,nd',h64,hb,hR⟩:=h;obtain⟨l,xs,rfl,e,qq⟩:=hv.list;refine⟨l,xs,L,rfl,e,QaO _ _ (Qa7 L) qq,nd',h64,hb,λt ys M H2 s n e2 dts pm pw=>?_⟩;have dm2:∀a,A a->∃xs,H2 a=some (.lst xs):=λa z=>by obtain⟨xs,e⟩:=dm a z;exact⟨xs,s _ _ e⟩
  refine k _ (hR M pm pw) _ H2 s (.lst (λz=>?_) e2 (Qhe dm2 M ys dts)) (QaD n);obtain⟨xs,e⟩:=dm t z;rw[n] at e;cases e
 ·exact h.elim
theorem sortP_of{L:List (Int×Int)}{Q:PyData->Prop}(h1:L.Nodup)(h2:L.length<64)(h3:∀ij∈L,0<=ij.2/\ij.2<64)(k:∀M:List (Int×Int),M.Perm L->M.Pairwise (λa b=>Rs.code a<Rs.code b)->Q (.list (M.map Rk.pairD))):sortPD [.list (L.map Rk.pairD)] Q:=by
 unfold sortPD;exact⟨L,rfl,h1,h2,h3,k⟩
def rkD:PyData->Nat
 |.int _=>0
 |.tuple _=>1
 |_=>2
def Qu4(i j:Int):Ordering:=if i<j then .lt else if i=j then .eq else .gt
def QBP(i j:Nat):Ordering:=if i<j then .lt else if i=j then .eq else .gt
def thn(o:Ordering)(p:Ordering):Ordering:=match o with
 |.eq=>p
 |o=>o
mutual
def Qvy:PyData->PyData->Ordering
 |.int i,.int j=>Qu4 i j
 |.tuple a,.tuple b=>QkJ a b
 |x,y=>QBP (rkD x) (rkD y)
def QkJ:List PyData->List PyData->Ordering
 |[],[]=>.eq
 |[],_::_=>.lt
 |_::_,[]=>.gt
 |x::xs,y::ys=>thn (Qvy x y) (QkJ xs ys)
end
def isL:Ordering->Bool
 |.lt=>true
 |_=>false
def ltD(x y:PyData):Bool:=isL (Qvy x y)
def Qxk(x y:List PyData):Bool:=isL (QkJ x y)
def sw:Ordering->Ordering
 |.lt=>.gt
 |.gt=>.lt
 |.eq=>.eq
mutual
def Qn9:PyData->PyData->Bool
 |.int _,.int _=>true
 |.tuple a,.tuple b=>QiJ a b
 |_,_=>false
def QiJ:List PyData->List PyData->Bool
 |x::xs,y::ys=>Qn9 x y&&QiJ xs ys
 |_,_=>true
end
def isE:Ordering->Bool
 |.eq=>true
 |_=>false
theorem QuF(a b:Ordering):isE (thn a b)=(isE a&&isE b):=by cases a<;>rfl
mutual
theorem Qsb:∀(x y:PyData),Qn9 x y=true->Q9 x y=isE (Qvy x y)
 |.int i,.int j,_=>by
  show(i == j)=isE (Qu4 i j);unfold Qu4;by_cases h:i=j
  ·subst h;simp[isE]
  ·rw[beq_eq_false_iff_ne.mpr h];split
   ·rfl
   ·rfl
 |.tuple a,.tuple b,h=>Qnk a b h
 |.int _,.tuple _,h=>by cases h
 |.tuple _,.int _,h=>by cases h
 |.int _,.none,h=>by cases h
 |.int _,.bool _,h=>by cases h
 |.int _,.str _,h=>by cases h
 |.int _,.list _,h=>by cases h
 |.int _,.dict _,h=>by cases h
 |.tuple _,.none,h=>by cases h
 |.tuple _,.bool _,h=>by cases h
 |.tuple _,.str _,h=>by cases h
 |.tuple _,.list _,h=>by cases h
 |.tuple _,.dict _,h=>by cases h
 |.none,y,h=>by cases y<;>cases h
 |.bool _,y,h=>by cases y<;>cases h
 |.str _,y,h=>by cases y<;>cases h
 |.list _,y,h=>by cases y<;>cases h
 |.dict _,y,h=>by cases y<;>cases h
theorem Qnk:∀(xs ys:List PyData),QiJ xs ys=true->Qvn xs ys=isE (QkJ xs ys)
 |[],[],_=>rfl
 |[],_::_,_=>rfl
 |_::_,[],_=>rfl
 |x::xs,y::ys,h=>by
  have h:=JG.mp (show(Qn9 x y&&QiJ xs ys)=true from h);show(Q9 x y&&Qvn xs ys)=isE (thn (Qvy x y) (QkJ xs ys));rw[Qsb x y h.1,Qnk xs ys h.2,QuF]
end
end Dl
namespace Rt
open PySem.Calls Dl
theorem Qhs:∀{ds:List PyData}{d:PyData},d∈ds->d.depth<=JN ds
 |x::ds,d,h=>by
  show d.depth<=max x.depth (JN ds);rcases Qy.mp h with z | z
  ·subst z;exact Nat.le_max_left _ _
  ·exact QX (Qhs z) (Qvp _ _)
theorem readsAll_len{h:Heap}:∀{vs:List Value}{ds:List PyData}{as:List Addr},QdJ h vs ds as->vs.length=ds.length
 |_,_,_,.nil=>rfl
 |_,_,_,.cons _ r=>by rw[QF,QF,readsAll_len r]
section
open PySem.SeqAt
open PySem.AutoSeq1 (wpAny_loadPart')
open PySem.MeetsSeq PySem.MeetsSeq2 PySem.MeetsSeq3
theorem QgS{l b:Addr}{items items2:Array Value}{n n2:Nat}{dd dd2:Option Addr}{sl sl2:Array (Option Value)}{ds es:List PyData}{as bs:List Addr}{N:Nat}(hk:QiJ ds es=true)(hc1:J8 ds=true)(hc2:J8 es=true)(hd:JN ds<=N)
  (ih:∀(x y:PyData)(A:Ja)(s:Shared)(v u:Value)(p q:List Addr),Qk4 s.heap v x p->Qk4 s.heap u y q->x.canLay0=true->y.canLay0=true->Qn9 x y=true->x.depth<=N->A.units+2*N+2<cLine->∀(prog:QC)(w:Jf)(E Q:Value->Shared->Prop),Q (.bool (ltD x y)) s->wpAny (model prog w) A (richCompare .Lt v u) Q E s) :
  Meets (Y2.«tuple.__lt__» ⟨[.ref l,.ref b],[]⟩)
   (λA R s=>s.heap.get? l=some { cls:=.type "tuple",dict:=dd,data:=.seq items n,slots:=sl }/\s.heap.get? b=some { cls:=.type "tuple",dict:=dd2,data:=.seq items2 n2,slots:=sl2 }/\QdJ s.heap items.toList ds as/\QdJ s.heap items2.toList es bs/\A.units+2*N+4<cLine /\
    R (.ok (.ret (.bool (Qxk ds es)))) s):=
 .of_wp λprog w A R s h=>by
  obtain⟨hp,g,d,tk,os⟩:=s;obtain⟨hl,hb,hr1,hr2,hu,h⟩:=h;have f2:=AutoSeq1.sub_tuple_tuple;have hu1:A.in1.units+2*N+2<cLine:=by show A.units+1+2*N+2<cLine;omega
  have z1:items.size=ds.length:=by rw[<- readsAll_len hr1];simp
  have z2:items2.size=es.length:=by rw[<- readsAll_len hr2];simp
  wp_walk using wpAny_loadPart' hl,wpAny_loadPart' hb,wpAny_forIn_list _ (λrest b s'=>b.1=none/\s'=⟨hp,g,d,tk,os⟩/\∃(vs ws:List Value)(xs ys:List PyData)(p q:List Addr),rest=vs.zip ws /\
   QdJ hp vs xs p/\QdJ hp ws ys q/\QiJ xs ys=true/\J8 xs=true/\J8 ys=true/\JN xs<=N/\xs.length+items2.size=ys.length+items.size/\R (.ok (.ret (.bool (Qxk xs ys)))) ⟨hp,g,d,tk,os⟩) _
  case turn=>
   rintro⟨y,x⟩ rest b s' ⟨hb',rfl,vs,ws,xs,ys,p,q,hz,hvi,hwi,hkk,c1,c2,hdd,hlen,hR⟩;cases hvi with
   |nil=>rw[List.zip_nil_left] at hz;cases hz
   |@cons v0 vs0 d1 ds1 as1 as2 r1 hvi'=>
    cases hwi with
    |nil=>rw[List.zip_nil_right] at hz;cases hz
    |@cons u0 us0 d2 ds2 bs1 bs2 r2 hwi'=>
     rw[Qok] at hz;injection hz with hyx hrest
     injection hyx with hy hx
     subst hy hx;have hkk:=JG.mp (show(Qn9 d1 d2&&QiJ ds1 ds2)=true from hkk);simp only[J8,JH] at c1 c2;have dm1:d1.depth<=N:=QX (Qhs (ds:=d1::ds1) (.head _)) hdd;have dm2:JN ds1<=N:=QX (show JN ds1<=max d1.depth (JN ds1) from Qvp _ _) hdd;simp only[QF] at hlen;have he:=Qrs d1 d2 A.in1 ⟨hp,g,d,tk,os⟩ y x _ _ r1 r2 c1.1 c2.1 (by omega);have hR:R (.ok (.ret (.bool (isL (thn (Qvy d1 d2) (QkJ ds1 ds2)))))) ⟨hp,g,d,tk,os⟩:=hR;rw[Qsb d1 d2 hkk.1] at he;have hri:=λE Q=>ih d1 d2 A.in1 ⟨hp,g,d,tk,os⟩ y x _ _ r1 r2 c1.1 c2.1 hkk.1 dm1 hu1 prog w E Q
     unfold ltD at hri;cases e1:Qvy d1 d2 with
     |lt=>
      rw[e1] at he hR hri;refine wpAny_bind (he prog w _ _ ?_)
      wp_walk using hri
      exact⟨_,rfl,hR⟩
     |gt=>
      rw[e1] at he hR hri;refine wpAny_bind (he prog w _ _ ?_)
      wp_walk using hri
      exact⟨_,rfl,hR⟩
     |eq=>
      rw[e1] at he hR;refine wpAny_bind (he prog w _ _ ?_)
      wp_walk
      exact⟨rfl,rfl,_,_,_,_,_,_,hrest,hvi',hwi',hkk.2,c1.2,c2.2,dm2,by omega,hR⟩
  case fin=>
   rintro⟨b1,b2⟩ s' ⟨hb',rfl,vs,ws,xs,ys,p,q,hz,hvi,hwi,hkk,c1,c2,hdd,hlen,hR⟩;simp only at hb';subst hb';have hv:Qxk xs ys=decide (items.size<items2.size):=by
    cases hvi with
    |nil=>
     cases hwi with
     |nil=>
      simp only[QgH] at hlen;exact(decide_eq_false (by omega)).symm
     |cons r2 hw=>
      simp only[QgH,QF] at hlen;exact(decide_eq_true (by omega)).symm
    |cons r1 hv=>
     cases hwi with
     |nil=>
      simp only[QgH,QF] at hlen;exact(decide_eq_false (by omega)).symm
     |cons r2 hw=>
      rw[Qok] at hz;cases hz
   rw[hv] at hR
   wp_walk
   exact⟨_,rfl,by simpa [Qy5] using hR⟩
  case h=>
   exact⟨rfl,rfl,items.toList,items2.toList,ds,es,as,bs,rfl,hr1,hr2,hk,hc1,hc2,hd,by omega,h⟩
end
end Rt
namespace Rt
open PySem.Calls PySem.W Dl
mutual
def okK:PyData->Bool
 |.int _=>true
 |.tuple ds=>Qyv ds
 |_=>false
def Qyv:List PyData->Bool
 |[]=>true
 |d::ds=>okK d&&Qyv ds
end
theorem Qzn:∀(N:Nat)(x y:PyData)(A:Ja)(s:Shared)(v u:Value)(p q:List Addr),Qk4 s.heap v x p->Qk4 s.heap u y q->x.canLay0=true->y.canLay0=true->Qn9 x y=true->x.depth<=N->A.units+2*N+2<cLine->∀(prog:QC)(w:Jf)(E Q:Value->Shared->Prop),Q (.bool (ltD x y)) s->wpAny (model prog w) A (richCompare .Lt v u) Q E s:=by
 intro N;have intz:∀(i j:Int)(A:Ja)(s:Shared)(v u:Value)(p q:List Addr),Qk4 s.heap v (.int i) p->Qk4 s.heap u (.int j) q->∀(prog:QC)(w:Jf)(E Q:Value->Shared->Prop),Q (.bool (ltD (.int i) (.int j))) s->wpAny (model prog w) A (richCompare .Lt v u) Q E s:=by
  intro i j A s v u p q r1 r2 prog w E Q h;cases r1;cases r2;refine HT.Qjl A s i _ j _ prog w E Q ?_
  have e:ltD (.int i) (.int j)=decide (i<j):=by
   show isL (Qu4 i j)=_;unfold Qu4;by_cases z:i<j
   ·rw[if_pos z,decide_eq_true z];rfl
   ·rw[if_neg z,decide_eq_false z];split<;>rfl
  rw[e] at h;exact h
 induction N with
 |zero=>
  intro x y A s v u p q r1 r2 c1 c2 hk hd hu prog w E Q h;cases x<;>cases y<;>first | (cases hk;done) | skip
  ·exact intz _ _ A s v u p q r1 r2 prog w E Q h
  ·unfold Ys at hd;omega
 |succ N ih=>
  intro x y A s v u p q r1 r2 c1 c2 hk hd hu prog w E Q h;cases x<;>cases y<;>first | (cases hk;done) | skip
  ·exact intz _ _ A s v u p q r1 r2 prog w E Q h
  ·rename_i ds es
   cases r1 with
   |@tuple a o vs n _ _ ho hc hd' ra=>
    cases r2 with
    |@tuple b o2 vs2 n2 _ _ ho2 hc2 hd2 rb=>
     obtain⟨cls,dd,data,sl⟩:=o;obtain⟨cls2,dd2,data2,sl2⟩:=o2;simp only at hc hd' hc2 hd2;subst hc hd' hc2 hd2;have dd3:JN ds<=N:=by unfold Ys at hd;omega
     exact richCompare_meets_room (op:=.Lt) ⟨_,ho,rfl⟩ ⟨_,ho2,rfl⟩ PySem.F.slot_tuple_lt PySem.F.entry_tuple_lt (PySem.F.args_tuple_lt_2 _ _) (QgS (N:=N) hk c1 c2 dd3 ih)
      ⟨ho,ho2,ra,rb,by omega,show Qbp (Qxk ds es)≠Value.notImplemented/\Q (.bool (Qxk ds es)) s from⟨(λx=>nomatch x),h⟩⟩ (by omega)
section
variable{prog:QC}{w:Jf}{A:Ja}{E:Value->Shared->Prop}{s:Shared}
end
section
variable{M:Model}{A:Ja}{E:Value->Shared->Prop}{s:Shared}
end
section
variable{prog:QC}{w:Jf}{A:Ja}{E:Value->Shared->Prop}{s:Shared}
end
end Rt
namespace Rt
open PySem.Calls PySem.W Dl Rs
section
variable{prog:QC}{w:Jf}{A:Ja}{E:Value->Shared->Prop}{s:Shared}
end
end Rt
namespace L2
open PySem.Calls _root_.Rd _root_.Rk _root_.Rs Rt Dl
section
variable{X:Cx}
end
end L2
namespace Dl
open L2 _root_.Rd Rk Rt
mutual
theorem QmI:∀(d:PyData),okK d=true->nd d=true
 |.int _,_=>rfl
 |.tuple ds,h=>QmH ds h
 |.none,h=>by cases h
 |.bool _,h=>by cases h
 |.str _,h=>by cases h
 |.list _,h=>by cases h
 |.dict _,h=>by cases h
theorem QmH:∀(ds:List PyData),Qyv ds=true->nds ds=true
 |[],_=>rfl
 |d::ds,h=>by
  have h:=JG.mp (show(okK d&&Qyv ds)=true from h);show(nd d&&nds ds)=true;rw[QmI d h.1,QmH ds h.2];rfl
end
end Dl
namespace L2
open PySem.Calls _root_.Rd _root_.Rk Rt
section
variable{X:Cx}
theorem QlX(bs:List Bool):((Qp bs.length).any λi=>(bs[i]?).getD false)=bs.any id:=by
 rw[J6,Yj,Yj];constructor
 ·rintro⟨i,hi,h⟩;have hl:=QM.mp hi;rw[Qe hl] at h;exact⟨bs[i],ZF hl,h⟩
 ·rintro⟨b,hb,h⟩;obtain⟨i,hi⟩:=Jx.mp hb;exact⟨i,QM.mpr (QU.mp hi).1,by rw[hi];exact h⟩
theorem Qrk:CallR X (.builtin "any") (λxs H Q=>∃(p:Addr)(bs:List Bool),xs=[.ref p]/\SqL X.K H p (bs.map V.bl)/\X.calm=true/\Q (.bl (bs.any id)) H):=by
 intro pins s σ H xs us Q I r h;obtain⟨p,bs,rfl,hp,hc,q⟩:=h;obtain⟨u,rfl,ru⟩:=vals1 r;cases ru;obtain⟨its,rv,pl,hz⟩:=I.list hp;have hl:=pl.isList;have hb:=QjP rv;have hlt:p<s.heap.objs.size:=by obtain⟨_,e,_⟩:=hl;exact Qj e
 refine call_any_walk (Qcd hl ?_);refine⟨s.heap.objs.size,[s.heap.objs.size,p],[s.heap.objs.size],its.toArray.size,_,_,λi=>(bs[i]?).getD false,rfl,Walks.list (A:=X.A.in1) (I.ok.hd hc) _ p (QD hlt) its.toArray,
  ⟨⟨_,Qq _ rfl,rfl,rfl⟩,hl.push _⟩,λi v s' Q' E' hP hQ=>?_,λh' tk hk=>?_⟩
 ·obtain⟨b,e,rfl⟩:=hb.get i v (by simpa using hP);simp only[e,Qoh] at hQ;exact Zl hQ
 ·have e:((Qp its.toArray.size).any λi=>(bs[i]?).getD false)=bs.any id:=by
   rw[Ql,hb.length];exact QlX bs
  rw[e];exact⟨.bl _,H,I.kept (Qy1 hk),rfl,q⟩
def QAO:R2:=λx y H Q=>∃d e,Dat H x d/\Dat H y e/\Dl.Qn9 d e=true/\d.depth<=20/\Q (.bl (Dl.ltD d e)) H
theorem Qw2(hu:X.A.units+60<cLine):OpR X (compareOp .Lt) QAO:=by
 intro pins s σ H x y v u Q I rx ry h;obtain⟨d,e,qx,qy,hk,hd,q⟩:=h;obtain⟨⟨as,ra⟩,ca⟩:=Ym I.hok d x v qx rx;obtain⟨⟨bs,rb⟩,cb⟩:=Ym I.hok e y u qy ry;exact Qzn 20 d e X.A s v u as bs ra rb ca cb hk hd (by omega) _ _ _ _ ⟨.bl _,H,I,rfl,q⟩
end
end L2
namespace Dl
open L2 _root_.Rd Rk Rt
theorem bt_any:bootBuiltins "any" = some (.builtin "any"):=PyProof.Rows.boot_any
@[irreducible] def QyA:List PyData->(PyData->Prop)->Prop
 |[.list ds],Q=>∃bs,QbO ds=some bs/\Q (.bool (bs.any id))
 |_,_=>False
theorem QxV{K:PySem.W.Frag}{cm:Bool}(hc:cm=true):Qbj (λxs H Q=>∃(p:Addr)(bs:List Bool),xs=[.ref p]/\SqL K H p (bs.map V.bl)/\cm=true/\Q (.bl (bs.any id)) H) QyA:=λA P H vs ds R Q ln dm q h k=>by
 unfold QyA at h;split at h
 ·obtain⟨v,rfl,hv⟩:=pd1 q;obtain⟨bs,hb,hR⟩:=h;rw[bools_eq hb] at hv;obtain⟨l,xs,rfl,e,qq⟩:=hv.list;rw[QeG qq] at e;exact⟨l,bs,rfl,SqL.of e,hc,k _ hR _ H (Same.refl H) (.bl _) Qak⟩
 ·exact h.elim
theorem any_map{α:Type}(l:List α)(g:α->Bool):(l.map g).any id=l.any g:=by rw[QeU];rfl
theorem Qvc{ds:List PyData}{Q:PyData->Prop}{g:PyData->Bool}{items:List PyData}(h:ds=[.list (items.map λd=>.bool (g d))])(q:Q (.bool (items.any g))):QyA ds Q:=by
 subst h;unfold QyA;refine⟨items.map g,?_,by rw[any_map];exact q⟩;rw[show items.map (λd=>Qam (g d))=(items.map g).map Qam by rw[QN];rfl,QhD]
def QBJ:PyData->PyData->(PyData->Prop)->Prop:=λd e Q=>(okK d=true/\okK e=true/\Qn9 d e=true/\d.depth<=20)/\Q (.bool (ltD d e))
theorem Qxf:OpD QAO QBJ:=λA P H x y d1 d2 R Q ln dm hx hy h k=>by
 obtain⟨⟨h1,h2,h3,h4⟩,hR⟩:=h;exact⟨d1,d2,hx.dat (QmI d1 h1),hy.dat (QmI d2 h2),h3,h4,k _ hR _ H (Same.refl H) (.bl _) Qak⟩
section
variable{X:Cx}{E:XK}
end
end Dl
namespace Rk
open L2 _root_.Rd Dl
def inW(d:PyData)(a b:Int):Bool:=match d with
 |.int i=>decide (a<=i)&&decide (i<=b)
 |_=>false
theorem Qm8{i a b:Int}(h1:a<=i)(h2:i<=b):inW (.int i) a b=true:=by
 show(decide (a<=i)&&decide (i<=b))=true;rw[decide_eq_true h1,decide_eq_true h2];rfl
def QcZ:DF:=λargs R _=>∃d a b,args=[.v d,.v (.int a),.v (.int b)]/\R (.bool (inW d a b))
theorem Qxm(ns:List Int):(ns.map Qg).length=ns.length:=Qc _
theorem Qaf(ns:List Int):nds (ns.map Qg)=true:=QmO.mpr λd hd=>by
 obtain⟨i,_,rfl⟩:=Qt.mp hd;rfl
theorem Qra(xs:List PyData)(k:Int)(h:0<=k):Dl.cutD xs none (some k)=xs.take k.toNat:=by
 unfold Dl.cutD;obtain⟨j,rfl⟩:∃j:Nat,k=j:=⟨k.toNat,by omega⟩
 rw[HT.QfQ,HT.QlT,QvJ,Qk8,QV];by_cases z:j<=xs.length
 ·rw[QgM z]
 ·rw[Nat.min_eq_right (by omega),Zp,QjZ (by omega)]
end Rk
namespace Rx
open PySem.Calls L2
section
variable{X:Cx}{e:Q1}{st:ZY}{rest:List ZY}{pos:Pos}{te:TX}{t u:TSX}
end
end Rx
namespace L2
open Dl
end L2
namespace Dl
open L2 _root_.Rd Rk
section
variable{X:Cx}
variable{k:Nat}{f:Addr}{fd:QL}{ps:List Str}{x:Str}{p pos:Pos}{e:Q1}{es:List Q1}{fD:DF}{wa:DSl}
end
end Dl
namespace Rk
open L2 _root_.Rd Dl Rt
def Qkn:List PyData->Bool
 |x::y::r=>ltD x y&&Qkn (y::r)
 |_=>true
def Qxj:PyData->Bool
 |.tuple [a,b]=>ltD a b
 |_=>false
theorem QxS(d:PyData)(ds:List PyData):Dl.cutD (d::ds) (some 1) none=ds:=by
 unfold Dl.cutD;rw[HT.QfQ,show(1:Int)=((1:Nat):Int) from rfl,HT.QlT];rw[QgM (by rw[QF];omega),List.drop_one,List.tail_cons,QF,Ze,Zp]
theorem Qd5:∀ds:List PyData,(Qj4 ds (Dl.cutD ds (some 1) none)).all Qxj=Qkn ds
 |[]=>by
  have h:(Qj4 ([]:List PyData) (Dl.cutD [] (some 1) none))=[]:=by unfold Qj4;rfl
  rw[h];rfl
 |[x]=>by rw[QxS];rfl
 |x::y::r=>by
  have ih:=Qd5 (y::r);rw[QxS] at ih ⊢;show(Qxj (.tuple [x,y])&&(Qj4 (y::r) r).all Qxj)=_;rw[ih];rfl
def Qst(ds:List PyData):Prop:=∀x∈ds,okK x=true/\x.depth<=20/\∀y∈ds,Qn9 x y=true
def Qij:DF:=λargs R _=>∃ds:List PyData,(args=[.v (.tuple ds)]∨args=[.v (.list ds)])/\Qst ds/\R (.bool (Qkn ds))
def QAZ(h w:Int):PyData->Bool
 |.tuple [a,b]=>inW a 0 (h - 1)&&inW b 0 (w - 1)
 |_=>false
theorem Qxw{h w:Int}{p:Int×Int}(h1:0<=p.1)(h2:p.1<h)(h3:0<=p.2)(h4:p.2<w):QAZ h w (pairD p)=true:=by
 show(inW (.int p.1) 0 (h - 1)&&inW (.int p.2) 0 (w - 1))=true;rw[Qm8 h1 (by omega),Qm8 h3 (by omega)];rfl
def toP:PyData->Int×Int
 |.tuple [.int a,.int b]=>(a,b)
 |_=>(0,0)
theorem QiE(p:Int×Int):(pairD p).depth<=1:=by
 show JN [.int p.1,.int p.2]+1<=1;simp[JN,Ys]
theorem QeE{n:Nat}:∀{ds:List PyData},(∀d∈ds,d.depth<=n)->JN ds<=n
 |[],_=>Jc _
 |d::ds,h=>by
  show max d.depth (JN ds)<=n;exact Nat.max_le.mpr ⟨h d (.head _),QeE λd hd=>h d (.tail _ hd)⟩
def stT(L:List (Int×Int)):PyData:=.tuple (L.map pairD)
def plt(p q:Int×Int):Prop:=p.1<q.1∨(p.1=q.1/\p.2<q.2)
theorem QeD(p q:Int×Int):Q9 (pairD p) (pairD q)=decide (p=q):=by
 show((p.1 == q.1)&&((p.2 == q.2)&&true))=_;obtain⟨a,b⟩:=p;obtain⟨c,d⟩:=q;by_cases h1:a=c
 ·by_cases h2:b=d
  ·subst h1 h2;simp
  ·simp[h1,h2]
 ·simp[h1]
theorem QcP(cs:List (Int×Int))(p:Int×Int):((cs.map pairD).any λc=>Q9 c (pairD p))=decide (p∈cs):=by
 rw[QeU,J6,Yj,decide_eq_true_iff];constructor
 ·rintro⟨c,hc,h⟩;have:c=p:=of_decide_eq_true (by rw[<- QeD];exact h);rw[<- this];exact hc
 ·intro h;refine⟨p,h,?_⟩;show Q9 (pairD p) (pairD p)=true;rw[QeD];simp
def bdD(h w:Int)(cs:List (Int×Int)):PyData:=.tuple [.int h,.int w,.tuple (cs.map pairD)]
def Qmd:DF:=λargs R _=>∃(h w:Int)(d:PyData),args=[.v (.int h),.v (.int w),.v d]/\R (.bool (QAZ h w d))
theorem Qfu(ns:List Int):Qbm (ns.map Qg)=some ns:=Dl.ints_map ns
def Qde(r n:Nat)(f:Nat->Nat->Bool):List (Int×Int):=((Qp n).filter (f r)).map λ(c:Nat)=>((r:Int),(c:Int))
def cellsF(h w:Nat)(f:Nat->Nat->Bool):List (Int×Int):=(Qp h).flatMap λr=>Qde r w f
def QsO(f:Nat->Nat->Bool)(i j:Nat)(b:Bool):Nat->Nat->Bool:=λr c=>if r=i/\c=j then b else f r c
theorem YJ(h w:Nat)(f:Nat->Nat->Bool):cellsF (h+1) w f=cellsF h w f++Qde h w f:=by
 unfold cellsF;rw[QgD,Qa0];simp
theorem QlU(r n:Nat)(f:Nat->Nat->Bool):Qde r (n+1) f=Qde r n f++(if f r n=true then[((r:Int),(n:Int))] else[]):=by
 unfold Qde;rw[QgD,Qab,Jj]
 congr 1
 by_cases z:f r n=true
 ·rw[if_pos z];simp[z]
 ·rw[if_neg z];simp[z]
theorem Qfh{r n:Nat}{f g:Nat->Nat->Bool}(h:∀c,c<n->f r c=g r c):Qde r n f=Qde r n g:=by
 unfold Qde
 congr 1
 exact J9 λc hc=>h c (QM.mp hc)
theorem QaP{h w:Nat}{f g:Nat->Nat->Bool}(q:∀r c,r<h->c<w->f r c=g r c):cellsF h w f=cellsF h w g:=by
 induction h with
 |zero=>rfl
 |succ h ih=>rw[YJ,YJ,ih λr c hr=>q r c (by omega),Qfh λc hc=>q h c (by omega) hc]
theorem QkK{h w i j:Nat}{f:Nat->Nat->Bool}{b:Bool}(hi:h<=i):cellsF h w (QsO f i j b)=cellsF h w f:=QaP λr c hr _=>if_neg λz=>by omega
theorem QoN{i n j:Nat}{f:Nat->Nat->Bool}{b:Bool}(hj:n<=j):Qde i n (QsO f i j b)=Qde i n f:=Qfh λc hc=>if_neg λz=>by omega
theorem Qbe{r n:Nat}{f:Nat->Nat->Bool}{p:Int×Int}:p∈Qde r n f↔∃c:Nat,c<n/\f r c=true/\p=((r:Int),(c:Int)):=by
 unfold Qde;rw[Qt];constructor
 ·rintro⟨c,hc,rfl⟩;have hc:=Qz.mp hc;exact⟨c,QM.mp hc.1,hc.2,rfl⟩
 ·rintro⟨c,hc,hf,rfl⟩;exact⟨c,Qz.mpr ⟨QM.mpr hc,hf⟩,rfl⟩
theorem JK{h w:Nat}{f:Nat->Nat->Bool}{p:Int×Int}:p∈cellsF h w f↔∃r c:Nat,r<h/\c<w/\f r c=true/\p=((r:Int),(c:Int)):=by
 unfold cellsF;rw[Yi];constructor
 ·rintro⟨r,hr,hp⟩;obtain⟨c,hc,hf,rfl⟩:=Qbe.mp hp;exact⟨r,c,QM.mp hr,hc,hf,rfl⟩
 ·rintro⟨r,c,hr,hc,hf,rfl⟩;exact⟨r,QM.mpr hr,Qbe.mpr ⟨c,hc,hf,rfl⟩⟩
theorem Zh{h w:Nat}{f:Nat->Nat->Bool}{p:Int×Int}(q:p∈cellsF h w f):0<=p.1/\p.1<h/\0<=p.2/\p.2<w:=by
 obtain⟨r,c,hr,hc,_,rfl⟩:=JK.mp q;exact⟨Qrw _,by show(r:Int)<h;omega,Qrw _,by show(c:Int)<w;omega⟩
theorem QfR(r n:Nat)(f:Nat->Nat->Bool):(Qde r n f).length<=n:=by
 unfold Qde;rw[Qc];exact QX (Zi _ _) (by rw[QH];exact Qh _)
theorem YN(w:Nat)(f:Nat->Nat->Bool):∀h,(cellsF h w f).length<=h*w
 |0=>Jc _
 |h+1=>by
  have:=YN w f h;have:=QfR h w f;rw[YJ,Qr,Qk7];omega
theorem QeA(r n:Nat)(f:Nat->Nat->Bool):(Qde r n f).filter (λp=>decide (p.1=(r:Int)))=Qde r n f:=Y1.mpr λp hp=>by
 obtain⟨c,_,_,rfl⟩:=Qbe.mp hp;exact decide_eq_true rfl
theorem QeB{r k n:Nat}(h:r≠k)(f:Nat->Nat->Bool):(Qde r n f).filter (λp=>decide (p.1=(k:Int)))=[]:=ZU.mpr λp hp=>by
 obtain⟨c,_,_,rfl⟩:=Qbe.mp hp;show ¬decide ((r:Int)=(k:Int))=true;rw[decide_eq_false (by omega)];exact Qi
theorem Qfr(w k:Nat)(f:Nat->Nat->Bool):∀h,(cellsF h w f).filter (λp=>decide (p.1=(k:Int)))=if k<h then Qde k w f else[]
 |0=>rfl
 |h+1=>by
  rw[YJ,Qab,Qfr w k f h];by_cases z:k=h
  ·subst z;rw[if_neg (by omega),QeA,if_pos (by omega)];rfl
  ·rw[QeB (λe=>z e.symm),ZB];by_cases z2:k<h
   ·rw[if_pos z2,if_pos (by omega)]
   ·rw[if_neg z2,if_neg (by omega)]
theorem Qti(r n:Nat)(f:Nat->Nat->Bool):(Qde r n f).Pairwise plt:=by
 unfold Qde;refine Qy0 (R:=λa b=>a<b) _ (λa b hab=>.inr ⟨rfl,by show(a:Int)<b;omega⟩) ?_
 exact JM _ Qj0
theorem pw_cellsF(w:Nat)(f:Nat->Nat->Bool):∀h,(cellsF h w f).Pairwise plt
 |0=>.nil
 |h+1=>by
  rw[YJ];refine ZI.mpr ⟨pw_cellsF w f h,Qti h w f,λp hp q hq=>?_⟩;obtain⟨r,c,hr,_,_,rfl⟩:=JK.mp hp;obtain⟨c',_,_,rfl⟩:=Qbe.mp hq;exact .inl (by show(r:Int)<h;omega)
theorem plt_ne{p q:Int×Int}(h:plt p q):p≠q:=λe=>by subst e;rcases h with z | z<;>omega
theorem nd_cellsF(h w:Nat)(f:Nat->Nat->Bool):(cellsF h w f).Nodup:=(pw_cellsF w f h).imp plt_ne
def QiB:DF:=λargs R _=>∃m:Int,args=[.pot,.v (.int m)]/\1<=m/\m<=6/\∀(h w:Nat)(f:Nat->Nat->Bool),1<=h->(h:Int)<=m->1<=w->(w:Int)<=m->R (bdD h w (cellsF h w f))
def Qdt(cs:List (Int×Int))(r:Int):List (Int×Int):=cs.filter λp=>decide (p.1=r)
def Qe0(cells L:List (Int×Int)):List (List (Int×Int)):=(cells.filter λc => !decide (c.2∈L.map (·.2))).map λc=>L++[c]
def Qbt(cs:List (Int×Int)):Nat->List (List (Int×Int))
 |0=>[[]]
 |i+1=>Qbt cs i++(Qbt cs i).flatMap (Qe0 (Qdt cs i))
theorem Qp7(cells L:List (Int×Int)):(Qe0 cells L).length<=cells.length:=by
 unfold Qe0;rw[Qc];exact Zi _ _
theorem QjE{α β:Type}{f:α->List β}{k:Nat}:∀{xs:List α},(∀x∈xs,(f x).length<=k)->(xs.flatMap f).length<=xs.length*k
 |[],_=>Jc _
 |x::xs,h=>by
  have h1:=h x (.head _);have h2:=QjE (xs:=xs) λy hy=>h y (.tail _ hy)
  rw[Jw,Qr,QF,Qk7];omega
theorem Qje{cs:List (Int×Int)}{k:Nat}(h:∀r,(Qdt cs r).length<=k):∀i,(Qbt cs i).length<=(k+1)^i
 |0=>Qh _
 |i+1=>by
  have h1:=Qje h i;have h2:=QjE (xs:=Qbt cs i) (k:=k) λL _=>QX (Qp7 (Qdt cs i) L) (h i)
  show(Qbt cs i++(Qbt cs i).flatMap (Qe0 (Qdt cs i))).length<=_;rw[Qr,Nat.pow_succ,Nat.mul_add,Nat.mul_one];have h3:(Qbt cs i).length*k<=(k+1)^i*k:=Nat.mul_le_mul_right k h1;omega
theorem Qau{cells L M:List (Int×Int)}:M∈Qe0 cells L↔∃c∈cells,c.2∉L.map (·.2)/\M=L++[c]:=by
 unfold Qe0;rw[Qt];constructor
 ·rintro⟨c,hc,rfl⟩;have hc:=Qz.mp hc;exact⟨c,hc.1,by simpa using hc.2,rfl⟩
 ·rintro⟨c,hc,hn,rfl⟩;exact⟨c,Qz.mpr ⟨hc,by simpa using hn⟩,rfl⟩
theorem Qeb{cs:List (Int×Int)}:∀i,∀L∈Qbt cs i,L.length<=i
 |0,L,h=>by rw[Qx.mp h];exact Qh _
 |i+1,L,h=>by
  rcases Q0.mp (show L∈Qbt cs i++(Qbt cs i).flatMap (Qe0 (Qdt cs i)) from h) with z | z
  ·exact Nat.le_succ_of_le (Qeb i L z)
  ·obtain⟨M,hM,hL⟩:=Yi.mp z;obtain⟨c,_,_,rfl⟩:=Qau.mp hL;have:=Qeb i M hM;rw[Qr];exact Nat.succ_le_succ this
theorem QlB(cs:List (Int×Int)):∀i,[]∈Qbt cs i
 |0=>.head _
 |i+1=>Q0.mpr (.inl (QlB cs i))
theorem QnP(ns:List Int)(i:Int):((ns.map Qg).any λe=>Q9 e (.int i))=decide (i∈ns):=by
 rw[QeU,J6,Yj,decide_eq_true_iff];constructor
 ·rintro⟨c,hc,h⟩;have:c=i:=by simpa [Q9] using h
  rw[<- this];exact hc
 ·intro h;refine⟨i,h,?_⟩;show(i == i)=true;simp
theorem Qih(w h:Nat)(f:Nat->Nat->Bool)(r:Int):(Qdt (cellsF h w f) r).length<=w:=by
 by_cases z:0<=r
 ·obtain⟨k,rfl⟩:∃k:Nat,r=k:=⟨r.toNat,by omega⟩
  unfold Qdt;rw[Qfr];split
  ·exact QfR _ _ _
  ·exact Jc _
 ·have:Qdt (cellsF h w f) r=[]:=ZU.mpr λp hp e=>by
   have:=Zh hp;have:=of_decide_eq_true e;omega
  rw[this];exact Jc _
def toI:PyData->Int
 |.int i=>i
 |_=>0
theorem Qnh{α β:Type}{g:α->Option β}{p:α->Bool}{k:α->β}:∀{xs:List α},(∀x∈xs,g x=if p x=true then some (k x) else none)->xs.filterMap g=(xs.filter p).map k
 |[],_=>rfl
 |x::xs,h=>by
  have ih:=Qnh (xs:=xs) λy hy=>h y (.tail _ hy)
  by_cases z:p x=true
  ·rw[List.filterMap_cons_some (by rw[h x (.head _),if_pos z]),ih,Jy z];rfl
  ·rw[List.filterMap_cons_none (by rw[h x (.head _),if_neg z]),ih,Jp z]
@[irreducible] def QpV:List PyData->(PyData->Prop)->Prop:=Quy
@[irreducible] def QpS:List PyData->(PyData->Prop)->Prop:=Quv
theorem Qri:Qbj (λxs H Q=>∃i j,xs=[.int i,.int j]/\Q (.int (if j > i then j else i)) H) QpV:=by unfold QpV;exact QnA
theorem Qrh:Qbj (λxs H Q=>∃i j,xs=[.int i,.int j]/\Q (.int (if j<i then j else i)) H) QpS:=by unfold QpS;exact Qnz
theorem Qux{i j k:Int}{Q:PyData->Prop}(e:(if j > i then j else i)=k)(h:Q (.int k)):QpV [.int i,.int j] Q:=by
 unfold QpV;show Q (.int (if j > i then j else i));rw[e];exact h
theorem Quu{i j k:Int}{Q:PyData->Prop}(e:(if j<i then j else i)=k)(h:Q (.int k)):QpS [.int i,.int j] Q:=by
 unfold QpS;show Q (.int (if j<i then j else i));rw[e];exact h
theorem QdX(g:Int×Int->Bool)(cs:List (Int×Int)):(cs.map pairD).filterMap (λd=>if g (toP d)=true then some d else none)=(cs.filter g).map pairD:=by
 rw[Yp];exact Qnh (p:=g) (k:=pairD) λp _=>rfl
theorem QuQ(L:List (Int×Int)):(L.map pairD).isEmpty=L.isEmpty:=by cases L<;>rfl
theorem Qu5{items:List PyData}{wg wg2:DG}{wt wt2:DT}{wi2:DI}{we:DE}{δ:Sts}{Q:PyData->Prop}(G:PyData->List PyData)(k:Nat)(hl:(items.flatMap G).length<=k)
  (h:∀d∈items,∀(acc:List PyData)(N:List PyData->Prop),acc.length+(G d).length<=k->N (acc++G d)->wg d δ λδ4=>wt δ4 (λb=>if b=true then wi2 δ4 (λitems2=>InR items2 wg2 wt2 we δ4 acc N) XF else N acc) XF)(q:Q (.list (items.flatMap G))) :
  QjT items wg wt wi2 wg2 wt2 we δ Q:=by
 unfold QjT;refine⟨λi acc=>acc=(items.take i).flatMap G,by simp,λi acc d hd e=>?_,λacc e=>by rw[e,Zp];exact q⟩;have e:acc=(items.take i).flatMap G:=e;have hs:(items.take (i+1)).flatMap G=(items.take i).flatMap G++G d:=by
  rw[ZR,hd,Qa0];simp
 refine h d (Q8 hd) acc _ ?_ (by show acc++G d=_;rw[hs,e])
 have h1:(items.flatMap G).length=((items.take (i+1)).flatMap G).length+((items.drop (i+1)).flatMap G).length:=by
  rw[<- Qr,<- Qa0,QkT]
 rw[hs,<- e,Qr] at h1;omega
end Rk
namespace Rv
theorem Qv6:isSubtype (.type "range_iterator") (.type "reversed")=pure false:=by rw[Qb4];kernel_rfl
section
variable{prog:QC}{w:Jf}{A:Ja}{E:Value->Shared->Prop}{s:Shared}
def Qg5(a b:Int):Obj:={ cls:=.type "range_iterator",data:=.fields #[rawInt (a+(ZA a b 1 - 1)*1),rawInt (ZA a b 1),rawInt (-1)] }
theorem QkO{r:Addr}{j:Int}{t u v:Tok}{Q:Value->Shared->Prop}(hr:IsRange s.heap r 0 j 1 t u v)(h0 : -1000<=j)(h1:j<=1000)
  (h:Q (.ref s.heap.objs.size) { s with heap:=s.heap.push (Qg5 0 j) }):wpAny (model prog w) A (call (.builtin "range.__reversed__") [.ref r]) Q E s:=by
 refine JL QcX ⟨_,hr,rfl⟩ F.entry_range_reversed ?_ (F.args_range_reversed_1 _)
 unfold Y2.«range.__reversed__»;refine wpAny_bind (ZN (a:=Zm r) rfl ?_);refine wpAny_bind ?_
 unfold Qy8;refine wpAny_bind (Zg hr rfl (x:=.int 0 t) rfl ?_);refine wpAny_bind (ZN (a:=some 0) rfl ?_);refine wpAny_bind (Zg hr rfl (x:=.int j u) rfl ?_);refine wpAny_bind (ZN (a:=some j) rfl ?_);refine wpAny_bind (Zg hr rfl (x:=.int 1 v) rfl ?_);refine wpAny_bind (ZN (a:=some 1) rfl ?_);refine wpAny_pure ?_
 dsimp only
 have hz:ZA 0 j 1=if 0<j then j else 0:=by rw[Qod];split<;>omega
 have fit:∀x:Int,-2000<=x->x<=2000->JC x=true:=λx a b=>by
  unfold JC;simp only[JH,decide_eq_true_eq];omega
 have hs:(JC 0&&JC j&&JC 1&&JC (-1)&&JC (0 - 1)&&JC (ZA 0 j 1))=true:=by
  rw[fit 0 (by decide) (by decide),fit j (by omega) (by omega),fit 1 (by decide) (by decide),fit (-1) (by decide) (by decide),fit (0 - 1) (by decide) (by decide),fit _ (by rw[hz];split<;>omega) (by rw[hz];split<;>omega)];rfl
 rw[hs,if_neg (by decide),if_pos rfl];exact wpAny_bind (Jr (wpAny_pure ⟨_,rfl,h⟩))
theorem Qrl{r:Addr}{j:Int}{t u v:Tok}{Q:Value->Shared->Prop}(hr:IsRange s.heap r 0 j 1 t u v)(h0 : -1000<=j)(h1:j<=1000)
  (h:Q (.ref s.heap.objs.size) { s with heap:=s.heap.push (Qg5 0 j) }):codeAny (model prog w) A (.call (.builtin "reversed.__new__") ⟨[.type "reversed",.ref r],[]⟩) (wants Q E) s:=by
 have hT:s.TypeIs (.ref r) "range" := ⟨_,hr,rfl⟩;refine QjW ?_
 show wpAny _ A.in1 (do checkBuiltinCall "reversed.__new__" ⟨[.type "reversed",.ref r],[]⟩;again (.builtin "reversed.__new__" ⟨[.type "reversed",.ref r],[]⟩)) _ _ s;refine wpAny_bind (ZN (F.newCall_reversed_1 _) (wpAny_pure ⟨Qas Qrx _,YR F.entry_reversed_new ?_⟩));rw[ZH Qrx _];unfold Y2.«reversed.__new__»;refine wpAny_bind (ZN (newClass_reversed _) ?_)
 dsimp only
 refine wpAny_bind (ZN (a:=()) (by first | rfl | kernel_rfl) ?_);refine wpAny_bind (ZN (a:=()) (by first | rfl | kernel_rfl) ?_)
 try dsimp only
 refine wpAny_bind (wpAny_specialOf hT QcX.lookup ?_)
 try dsimp only
 refine wpAny_bind (ZN (QcX.bind _) ?_)
 try dsimp only
 first
 |rw[if_neg (show ¬((QhX "range.__reversed__" == Js)=true) from Qi)]
 |(show wpAny _ _ (if(QhX "range.__reversed__" == Js)=true then _ else _) _ _ _;rw[if_neg (show ¬((QhX "range.__reversed__" == Js)=true) from Qi)])
 refine wpAny_bind (wpAny_rule ?_);refine wpAny_bind (m:=runValue (.call (.builtin "range.__reversed__") ⟨[.ref r],[]⟩)) (show wpAny _ _ (call (.builtin "range.__reversed__") [.ref r]) _ _ _ from QkO hr h0 h1 ?_)
 first
 |exact wpAny_pure h
 |exact wpAny_bind (wpAny_pure (wpAny_pure h))
theorem QnD{r:Addr}{j:Int}{t u v:Tok}{Q:Value->Shared->Prop}(hr:IsRange s.heap r 0 j 1 t u v)(h0 : -1000<=j)(h1:j<=1000)
  (h:Q (.ref s.heap.objs.size) { s with heap:=s.heap.push (Qg5 0 j) }):wpAny (model prog w) A (call (.type "reversed") [.ref r]) Q E s:=by
 refine callType_other (U := "range_iterator") (Q₁:=λobj s₁=>obj=.ref s.heap.objs.size/\s₁={ s with heap:=s.heap.push (Qg5 0 j) }) (by decide +kernel) F.create_reversed ⟨_,_,F.mro_reversed⟩ F.made_reversed Qv6 (F.typeCall_reversed_1 _) (Qrl hr h0 h1 ⟨rfl,rfl⟩) ?_
 rintro obj s₁ ⟨rfl,rfl⟩;exact⟨⟨_,Qq _ rfl,rfl⟩,h⟩
end
end Rv
namespace L2
def Itv(n:Nat):It:=⟨λi _=>i<n,λi H x H'=>H'=H/\x=.int ((n:Int) - 1 - i),λi _=>n<=i⟩
theorem Qlp{P:QC}{w:Jf}{K:PySem.W.Frag}{tg:Q1}(it:Addr)(n:Nat):Turn P w K tg (Itv n) [it] it (λi h=>Qj2 h it ((n:Int) - 1+(i:Nat)*(-1)) ((n:Int) - (i:Nat)) (-1)) where
 mem:=by simp
 obj:=λi h st b hb=>by
  have e:b=it:=by simpa using hb
  subst e;exact⟨_,st,λv z=>by
   have z':Data.fields _=Data.cell v:=z;cases z'⟩
 keep:=λi h h' st k=>k it (by simp) _ st
 item:=by
  intro X hP hw hK hc i pins s σ H E I hf st hg;subst hP hw hK;obtain⟨f0,f1,f2,f3,f4,f5⟩:=hf it (by simp);have W:=QyN (prog:=X.prog) (w:=X.w) (I.ok.hd hc) it ((n:Int) - 1) (-1) n;refine W.item i s _ _ hg st λv h' tk hv st' kk=>?_
  obtain⟨t,rfl⟩:=hv;have I1:Inv X pins σ H { s with heap:=h',toks:=tk }:=I.turned (λb o hb e=>kk b o (by simpa using hb) e) f0 f1 f3 f4 f5;refine⟨_,rfl,Qp4 (s:={ s with heap:=h',toks:=tk }) (n := "range_iterator") st' rfl rfl (by decide) ⟨.int ((n:Int) - 1 - i),H,I1,⟨t,?_⟩,⟨rfl,rfl⟩,st',λb hb=>(hf b hb).1⟩⟩;rw[show(n:Int) - 1+(i:Int)*(-1)=(n:Int) - 1 - i by omega]
 done:=by
  intro X hP hw hK hc i pins s σ H E I hf st hg;subst hP hw hK;obtain⟨f0,f1,f2,f3,f4,f5⟩:=hf it (by simp);exact Qro (I.ok.hd hc) st (by have:n<=i:=hg;omega) λh' eb=>⟨rfl,I.turned (t':=s.toks) (λb o hb e=>eb b o hb e) f0 f1 f3 f4 f5⟩
 self:=λ_ _ _ _ _ st h=>QcU st h
def Qz7(ta:TA):TI:=λσ H R=>ta σ H λvs H1=>∃(r:Addr)(j:Int),vs=[.ref r]/\H1 r=some (.rng 0 j) /\ -1000<=j/\j<=1000/\R (Itv j.toNat) H1
section
variable{X:Cx}{tg:Q1}
theorem Qtt{a:Q1}{ta:TA}{p pos:Pos}(hg:Gl X "reversed")(hm:X.mg "reversed" = none)(ha:PA X [a] ta)(hs:starEach [a] X.env=[(false,eval a X.env)]:=by rfl):PI X tg (.Call (.Name "reversed" p) [a] [] pos) (Qz7 ta):=by
 intro pins s σ H R I h;refine Call_ (Qca I hg hm boot_reversed (JV (thn (ha pos pins s σ H _ I h) λus s1 ⟨vs,H1,I1,r1,q1⟩=>?_) hs rfl));obtain⟨r,j,e,hr,q1,q2,q⟩:=q1;subst e;obtain⟨u,rfl,ru⟩:=vals1 r1;cases(show u=Zm r from ru);obtain⟨t1,t2,t3,e⟩:=I1.hok r _ hr;refine Rv.QnD (show IsRange s1.heap r 0 j 1 t1 t2 t3 from e) q1 q2 ?_
 have hz:ZA 0 j 1=((j.toNat:Nat):Int):=by rw[Qod];split<;>omega
 have it0:Qj2 (s1.heap.push (Rv.Qg5 0 j)) s1.heap.objs.size (((j.toNat:Nat):Int) - 1+((0:Nat):Int)*(-1)) (((j.toNat:Nat):Int) - ((0:Nat):Int)) (-1):=by
  have:=Qq (h:=s1.heap) (o:=Rv.Qg5 0 j) rfl;unfold Rv.Qg5 at this;rw[hz,show(0:Int)+(((j.toNat:Nat):Int) - 1)*1=((j.toNat:Nat):Int) - 1+((0:Nat):Int)*(-1) by omega] at this;rw[show((j.toNat:Nat):Int) - ((0:Nat):Int)=((j.toNat:Nat):Int) by omega];unfold Rv.Qg5;rw[hz,show(0:Int)+(((j.toNat:Nat):Int) - 1)*1=((j.toNat:Nat):Int) - 1+((0:Nat):Int)*(-1) by omega];exact this
 refine QcU it0 ?_
 refine⟨s1.heap.objs.size,[s1.heap.objs.size],_,_,H1,rfl,I1.kept (t':=s1.toks) λb o e=>Qf _ e,Qlp _ j.toNat,it0,λb hb=>?_,q⟩;have e:b=s1.heap.objs.size:=by simpa using hb
 subst e;exact I1.fpOk (Qh _) (I1.hok.fresh (Qh _))
end
section
variable{X:Cx}
def Qjm:V->List V->Hp->VK->Prop:=λx vs H Q=>∃l xs y,x=.ref l/\vs=[.int 0,y]/\H l=some (.lst xs)/\xs.length<sizeLine/\Q .non (upd H l (.lst (y::xs)))
theorem Qkw:MtM X "list.insert" Qjm:=by
 intro pins s σ H x vs v us Q I rx rv h;obtain⟨l,xs,y,rfl,rfl,hH,hz,q⟩:=h;cases rx;cases rv with
 |cons r0 rv=>
  obtain⟨u,rfl,ru⟩:=Vals.one rv;obtain⟨t,rfl⟩:=r0;obtain⟨z,its,n,r,hl,e⟩:=I.lstM hH;refine QgK F.slot_list_insert ⟨_,e,rfl⟩ F.entry_list_insert (F.args_list_insert_3 _ _ _) (AutoSeq1.list_insert_list_int_val_1 l its.toArray n 0 t u (by decide) (by rw[Ql];omega)) ⟨e,?_⟩;refine⟨.non,_,I.lset (its':=u::its) hH e (by simp) (.cons ru r) ?_,rfl,q⟩;rw[QF];omega
end
end L2
namespace Dl
open L2 _root_.Rd Rk
section
variable{X:Cx}{E:XK}{st:ZY}{i:Nat}{we:DE}
def Qs8(n:Nat):List PyData:=(Qp n).map λ(i:Nat)=>.int ((n:Int) - 1 - i)
theorem QdT(n:Nat):(Qs8 n).length=n:=by unfold Qs8;rw[Qc,QH]
theorem QfS{n i:Nat}{d:PyData}(h:(Qs8 n)[i]? = some d):i<n/\d=.int ((n:Int) - 1 - i):=by
 unfold Qs8 at h;rw[Qo] at h;by_cases z:i<n
 ·rw[Ji z] at h;exact⟨z,(QK h).symm⟩
 ·rw[QJ (by rw[QH];omega)] at h;cases h
def QAm(w:DE):DI:=λδ Q EX=>w δ (λd=>match d with
 |.int j=>(-1000<=j/\j<=1000)/\Q (Qs8 j.toNat)
 |_=>False) EX
theorem Qz1{A S:Addr->Prop}{n:Nat}{H1:Hp}(h:n<=sizeLine):ItD A S (Itv n) (Qs8 n) H1:=by
 refine⟨by rw[QdT];exact h,λH2 A' _ _ _=>⟨λi d hd=>?_,?_⟩⟩
 ·obtain⟨hi,rfl⟩:=QfS hd;refine⟨hi,λx H3 hy=>?_⟩;obtain⟨rfl,rfl⟩:=hy;exact⟨Same.refl _,.int _⟩
 ·show n<=(Qs8 n).length;rw[QdT];exact Qh _
theorem Ql5{m:Md}{tg e:Q1}{w:DE}{p p2 pos pos2:Pos}(hg:Gl X "reversed")(hm:X.mg "reversed" = none)(hg2:Gl X "range")(hm2:X.mg "range" = none)(h:QE .P X E e w)(hs:notStar e=true:=by rfl):QI m X E tg (.Call (.Name "reversed" p) [.Call (.Name "range" p2) [e] [] pos2] [] pos) (QAm w):=⟨by
 refine PI.imp (Qtt hg hm (Qel (Qo1 hg2 hm2 (Qel h.h Yv hs) (by rw[Z8 hs];rfl)) Yv)) λσ H R _ ⟨F,δ,R',EX,rel,hw,k,o⟩=>?_
 refine⟨F,δ,_,EX,rel,hw,λd hd v H' rel' kp vk=>?_,o⟩;cases d<;>first | exact(show False from hd).elim | skip
 obtain⟨⟨h1,h2⟩,hR⟩:=hd;rw[DP.int vk];exact⟨_,rfl,λr H2 s2 n2 e2=>⟨r,_,rfl,e2,h1,h2,k _ hR _ H2 (rel'.same s2) (kp.trans (Kp.same rel' s2)) (Qz1 (ZQ (Rk.Qbf (by omega))))⟩⟩⟩
def QAl(i:Nat)(we:DE):DS:=λD δ=>match δ[i]? with
 |some (.own ds)=>we δ (λd=>ds.length<1000000/\D.nx (δ.set i (.own (d::ds)))) D.ex
 |_=>False
theorem QtJ(h:PS X st (Qls (tBM X.K "list" Qjm (Qh9 i) (QgV (tX .D X.K E (dC (.int 0))) (QgV (tX .D X.K E we) Qv2))))):PS X st (tS X.K E (QAl i we)):=by
 refine PS.imp h λD σ H ⟨F,δ,DD,rel,hw,en⟩=>?_
 unfold QAl at hw;split at hw
 ·rename_i ds hd
  obtain⟨x,hx⟩:=rel.lt hd;obtain⟨l,xs,rfl,e,q,f⟩:=rel.sl i _ _ hx hd;have np:=rel.own_pot hd hx;refine⟨.ref l,hx,.inl ⟨rfl,_,SqL.of e⟩,F,δ,(λd=>d=.int 0),DD.ex,rel,rfl,λd hd0 v0 H0 rel0 kp0 vk0=>?_,en.ex⟩;subst hd0;cases vk0;refine⟨F,δ,_,DD.ex,rel0,hw,λd ⟨hl,hn⟩ v H' rel' kp vk=>?_,en.ex⟩;have kk:=kp0.trans kp;have q':=kk.das q;refine⟨l,xs,v,rfl,rfl,kk.1 _ _ np e,QQ (by rw[q.length];exact hl) Qix,?_⟩;obtain⟨r2,st⟩:=rel'.mut hd hx (.cons vk q');exact en.nx.go _ hn _ _ r2 ((Stp.kp kk).trans st)
 ·exact hw.elim
theorem Qwr{y:Str}{e e0:Q1}{we:DE}{apos cpos pos npos:Pos}(i:Nat)(h0:QE .D X E e0 (dC (.int 0)))(he:QE .D X E e we)(hN:X.N[i]? = some y:=by rfl)(hv:Vis X.env.scope y:=by first | exact Q2 rfl | exact QZ (Q2 rfl) | exact QZ (QZ rfl))(hd:(y == ("__debug__" : Str))=false:=by decide)(hcd:(y == ("__classdict__" : Str))=false:=by decide)(hs0:notStar e0=true:=by rfl)(hst:notStar e=true:=by rfl)(hbase:attributeBase (.Name y npos) "insert" X.env (eval (.Name y npos) X.env)=eval (.Name y npos) X.env:=by rfl)(hfew:((backTo cpos (starEach [e0,e] X.env)).all (λx => !x.1)&&(backToKw cpos (keywordEach [] X.env)).all (λx=>x.1.isSome)&&decide ([e0,e].length+([]:List Qj1).length+(if([]:List Qj1).isEmpty then 0 else 1)<30))=true:=by rfl)(hline:(apos.endLine == cpos.line)=true:=by rfl)(hsw:swapsWith (.Call (.Attribute (.Name y npos) "insert" apos) [e0,e] [] cpos) none pos.line X.env=pure false:=by rfl):QS X E (.Expr (.Call (.Attribute (.Name y npos) "insert" apos) [e0,e] [] cpos) pos) (QAl i we):=⟨QtJ (QfY (QwG PySem.F.plainAttrs_list PySem.F.slot_list_insert PySem.F.type_list_insert Qkw (pv i hN hv hd hcd) (Qel h0.h (Qel he.h Yv hst) hs0) hbase hfew hline (Z8 hs0) (by rw[Z8 hst];rfl)) hsw)⟩
end
end Dl
namespace Rk
open L2 _root_.Rd Dl Rt
def Qn6(B:Nat->Nat->Int)(t:Nat):List Nat->Nat->Int
 |[],_=>0
 |c::cs,k=>(if t.testBit c=true then 0 else B (t ||| 2^c) k)+Qn6 B t cs k
theorem Qea(B:Nat->Nat->Int)(t c k:Nat):∀cs:List Nat,Qn6 B t (cs++[c]) k=Qn6 B t cs k+(if t.testBit c=true then 0 else B (t ||| 2^c) k)
 |[]=>by show _+0=0+_;omega
 |d::cs=>by
  show _+Qn6 B t (cs++[c]) k=_+Qn6 B t cs k+_;rw[Qea B t c k cs];omega
def QdS(h:Nat)(F:Nat->Int):List PyData:=(Qp (h+1)).map λ(k:Nat)=>.int (F k)
def Qh8(h w:Nat)(B:Nat->Nat->Int):List PyData:=(Qp (2^w)).map λ(t:Nat)=>.list (QdS h (B t))
def Qec(B:Nat->Nat->Int)(cols:List Nat)(t k:Nat):Int:=B t k+if k=0 then 0 else Qn6 B t cols (k - 1)
def QkI(cs:List (Int×Int))(r:Nat):List Nat:=(Qdt cs r).map λp=>p.2.toNat
def Wc(cs:List (Int×Int))(h:Nat):Nat->Nat->Nat->Int
 |0,_,k=>if k=0 then 1 else 0
 |i+1,t,k=>Qec (Wc cs h i) (QkI cs (h - 1 - i)) t k
def Qja(cs:List (Int×Int))(h w:Nat):Nat->List PyData
 |0=>[.list (Qh8 h w (Wc cs h 0))]
 |i+1=>.list (Qh8 h w (Wc cs h (i+1)))::Qja cs h w i
def Qew(ns:List Nat):List PyData:=ns.map λ(c:Nat)=>.int (c:Int)
def QjM(cs:List (Int×Int))(h w:Nat):List PyData:=(Qp (min h w+1)).map λ(k:Nat)=>.int (Wc cs h h 0 k)
def QpQ:DF:=λargs R _=>∃(h w:Nat)(cs:List (Int×Int)),args=[.v (bdD h w cs)]/\R (.int ((min h w:Nat):Int))
def QsJ:DF:=λargs R _=>∃(h w:Nat)(B:Nat->Nat->Int)(cols:List Nat)(t:Nat),args=[.v (.list (Qh8 h w B)),.v (.list (Qew cols)),.v (.int t)]/\t<2^w/\(∀c∈cols,c<w)/\h<=6/\w<=6/\R (.list (QdS h (Qec B cols t)))
def Qoq:DF:=λargs R _=>∃(h w:Nat)(cs:List (Int×Int)),args=[.v (bdD h w cs)]/\h<=6/\w<=6/\(∀p∈cs,0<=p.2/\p.2<w)/\R (.list (Qja cs h w h))
def Qcn:DF:=λargs R _=>∃(h w:Nat)(cs:List (Int×Int)),args=[.v (bdD h w cs)]/\h<=6/\w<=6/\(∀p∈cs,0<=p.2/\p.2<w)/\R (.list (QjM cs h w))
theorem QbA{h k:Nat}{F:Nat->Int}(hk:k<=h):(QdS h F)[k]? = some (.int (F k)):=by
 unfold QdS;rw[Qo,Ji (by omega)];rfl
theorem QbV(h:Nat)(F:Nat->Int):(QdS h F).length=h+1:=by unfold QdS;rw[Qc,QH]
theorem Qd8{h w t:Nat}{B:Nat->Nat->Int}(ht:t<2^w):(Qh8 h w B)[t]? = some (.list (QdS h (B t))):=by
 unfold Qh8;rw[Qo,Ji ht];rfl
theorem Qa4{h:Nat}{F G:Nat->Int}(e:∀k,k<=h->F k=G k):QdS h F=QdS h G:=by
 unfold QdS;refine JD λk hk=>?_
 rw[e k (by have:=QM.mp hk;omega)]
theorem QoO{h j:Nat}{F:Nat->Int}{v:Int}(hj:j<=h):(QdS h F).set j (.int v)=QdS h (λk=>if k=j then v else F k):=by
 apply Zw
 intro k;rw[QeO];by_cases z:j=k
 ·subst z;rw[if_pos rfl,if_pos (by rw[QbV];omega),QbA hj,if_pos rfl]
 ·rw[if_neg z];by_cases z2:k<=h
  ·rw[QbA z2,QbA z2,if_neg (λe=>z e.symm)]
  ·rw[QJ (by rw[QbV];omega),QJ (by rw[QbV];omega)]
theorem cut_last(xs:List PyData):Dl.cutD xs none (some (-1))=xs.take (xs.length - 1):=by
 unfold Dl.cutD;rw[HT.QfQ,QvJ,Qk8]
 congr 1
 have e:HT.sIx xs.length xs.length (some (-1))=((-1:Int)+(xs.length:Int)).toNat:=by unfold HT.sIx;dsimp only;rw[if_pos (by decide)]
 rw[e];omega
theorem Qvb:∀t:Fin 64,∀c:Fin 6,Qct ((t:Nat):Int) (1*2^((c:Nat):Int).toNat)=if(t:Nat).testBit c=true then 2^(c:Nat) else 0:=by decide +kernel
theorem QxX:∀t:Fin 64,∀c:Fin 6,QcY ((t:Nat):Int) (1*2^((c:Nat):Int).toNat)=(((t:Nat) ||| 2^(c:Nat):Nat):Int):=by decide +kernel
theorem QwW{t c w:Nat}(ht:t<2^w)(hc:c<w):t ||| 2^c<2^w:=Nat.or_lt_two_pow ht (Nat.pow_lt_pow_right (by decide) hc)
theorem QoQ(h:Nat)(F:Nat->Int):Dl.cutD (QdS h F) none (some (-1))=(Qp h).map λ(k:Nat)=>Qg (F k):=by
 rw[cut_last,QbV];unfold QdS;rw[<- Qyl,Ze,Qvs,QgM (QgN h)]
theorem Qve{t c w:Nat}(ht:t<2^w)(hc:c<w)(w6:w<=6):Qct (t:Int) (1*2^((c:Nat):Int).toNat)=if t.testBit c=true then 2^c else 0:=by
 have h64:2^w<=2^6:=Ya (by decide) w6;exact Qvb ⟨t,by have e:2^6=64:=rfl;omega⟩ ⟨c,by omega⟩
theorem QwX{t c w:Nat}(ht:t<2^w)(hc:c<w)(w6:w<=6):QcY (t:Int) (1*2^((c:Nat):Int).toNat)=((t ||| 2^c:Nat):Int):=by
 have h64:2^w<=2^6:=Ya (by decide) w6;exact QxX ⟨t,by have e:2^6=64:=rfl;omega⟩ ⟨c,by omega⟩
theorem QfZ(w:Nat):(1*2^((w:Nat):Int).toNat:Int)=((2^w:Nat):Int):=by
 rw[Int.one_mul,QV];simp
theorem QxT(cs:List (Int×Int))(r:Nat)(hb:∀p∈cs,0<=p.2):(cs.map pairD).filterMap (λd=>if(toP d).1=(r:Int) then some (.int (toP d).2) else none)=Qew (QkI cs r):=by
 unfold Qew QkI Qdt;rw[Yp,QN];refine Qnh (p:=λp:Int×Int=>decide (p.1=(r:Int))) λp hp=>?_
 show(if p.1=(r:Int) then some (Qg p.2) else none)=if decide (p.1=(r:Int))=true then some (Qg ((p.2.toNat:Nat):Int)) else none
 rw[show((p.2.toNat:Nat):Int)=p.2 by have:=hb p hp;omega];by_cases z:p.1=(r:Int)
 ·rw[if_pos z,if_pos (decide_eq_true z)]
 ·rw[if_neg z,if_neg (by simpa using z)]
theorem Qu2{cs:List (Int×Int)}{w r c:Nat}(hb:∀p∈cs,0<=p.2/\p.2<w)(h:c∈QkI cs r):c<w:=by
 unfold QkI Qdt at h;obtain⟨p,hp,rfl⟩:=Qt.mp h;have:=hb p (Qz.mp hp).1;omega
theorem Qi8(cs:List (Int×Int))(h w:Nat):∀i,(Qja cs h w i).length=i+1
 |0=>rfl
 |i+1=>by show(Qja cs h w i).length+1=_;rw[Qi8 cs h w i]
theorem Qh7(cs:List (Int×Int))(h w:Nat):∀i,(Qja cs h w i)[0]? = some (.list (Qh8 h w (Wc cs h i)))
 |0=>rfl
 |_+1=>rfl
theorem QoP(cs:List (Int×Int))(h t:Nat):QdS h (Wc cs h 0 t)=Qg 1::QR h (.int 0):=by
 apply Zw
 intro k;cases k with
 |zero=>rw[QbA (Jc _)];rfl
 |succ k=>
  by_cases z:k+1<=h
  ·rw[QbA z,Yf,ZM,if_pos (by omega)];rfl
  ·rw[QJ (by rw[QbV];omega),Yf,ZM,if_neg (by omega)]
theorem Qta(h:Nat):(QR h [Qg 0]).flatten=QR h (.int 0):=by
 induction h with
 |zero=>rfl
 |succ h ih=>rw[Jq,Ju,ih];rfl
theorem QrV{w:Nat}(h:w<=6) : -1000000<=(1*2^((w:Nat):Int).toNat:Int)/\(1*2^((w:Nat):Int).toNat:Int)<=1000000:=by
 have p64:2^w<=64:=Ya (n:=2) (by decide) h;rw[QfZ];generalize 2^w=x at p64;omega
def sumZ{α:Type}(f:α->Int):List α->Int
 |[]=>0
 |x::xs=>f x+sumZ f xs
theorem QfI{α:Type}(f:α->Int):∀a b:List α,sumZ f (a++b)=sumZ f a+sumZ f b
 |[],b=>by show _=0+_;rw[Y4];rfl
 |x::a,b=>by show _+sumZ f (a++b)=_+sumZ f a+_;rw[QfI f a b];omega
theorem QgX{α β:Type}(f:β->Int)(g:α->List β):∀a:List α,sumZ f (a.flatMap g)=sumZ (λx=>sumZ f (g x)) a
 |[]=>rfl
 |x::a=>by rw[Jw,QfI,QgX f g a];rfl
theorem JA{α:Type}{f g:α->Int}:∀{a:List α},(∀x∈a,f x=g x)->sumZ f a=sumZ g a
 |[],_=>rfl
 |x::a,h=>by show f x+_=g x+_;rw[h x (.head _),JA λy hy=>h y (.tail _ hy)]
theorem QbS{α:Type}(f g:α->Int):∀a:List α,sumZ (λx=>f x+g x) a=sumZ f a+sumZ g a
 |[]=>rfl
 |x::a=>by show(f x+g x)+sumZ _ a=f x+sumZ f a+(g x+sumZ g a);rw[QbS f g a];omega
theorem Z7{α:Type}(f:α->Int)(p:α->Bool):∀a:List α,sumZ f (a.filter p)=sumZ (λx=>if p x=true then f x else 0) a
 |[]=>rfl
 |x::a=>by
  by_cases z:p x=true
  ·rw[Jy z];show f x+_=(if p x=true then f x else 0)+_;rw[if_pos z,Z7 f p a]
  ·rw[Jp z];show _=(if p x=true then f x else 0)+_;rw[if_neg z,Z7 f p a,Y4]
theorem Qjc{α β:Type}(f:β->Int)(g:α->β):∀a:List α,sumZ f (a.map g)=sumZ (λx=>f (g x)) a
 |[]=>rfl
 |x::a=>by show _+sumZ f (a.map g)=_+_;rw[Qjc f g a]
theorem sumZ_zero{α:Type}:∀a:List α,sumZ (λ_=>0) a=0
 |[]=>rfl
 |x::a=>by show 0+sumZ _ a=0;rw[sumZ_zero a];rfl
theorem Qe7{α:Type}(p:α->Bool):∀a:List α,sumZ (λx=>if p x=true then 1 else 0) a=((a.countP p:Nat):Int)
 |[]=>rfl
 |x::a=>by
  show(if p x=true then 1 else 0)+_=_;rw[Qe7 p a];by_cases z:p x=true
  ·rw[if_pos z,List.countP_cons_of_pos z];omega
  ·rw[if_neg z,List.countP_cons_of_neg z];omega
theorem QcD{α:Type}(B:Nat->Nat->Int)(t k:Nat)(g:α->Nat):∀a:List α,Qn6 B t (a.map g) k=sumZ (λx=>if t.testBit (g x)=true then 0 else B (t ||| 2^g x) k) a
 |[]=>rfl
 |x::a=>by show _+Qn6 B t (a.map g) k=_+_;rw[QcD B t k g a]
def mkL(L:List (Int×Int)):Nat:=L.foldl (λt p=>t ||| 2^p.2.toNat) 0
theorem QdV(L:List (Int×Int))(p:Int×Int):mkL (L++[p])=mkL L ||| 2^p.2.toNat:=by
 unfold mkL;rw[List.foldl_append];rfl
theorem QjQ(c:Nat):∀(L:List (Int×Int))(t:Nat),(L.foldl (λt p=>t ||| 2^p.2.toNat) t).testBit c=(t.testBit c||decide (c∈L.map λp=>p.2.toNat))
 |[],t=>by simp
 |p::L,t=>by
  rw[Qvt,QjQ c L,Qyj,Qoj,Bool.or_assoc]
  congr 1
  rw[JF,J6];simp only[Qcv,decide_eq_true_eq,Qy];constructor
  ·rintro(z | z)
   ·exact .inl z.symm
   ·exact .inr z
  ·rintro(z | z)
   ·exact .inl z.symm
   ·exact .inr z
theorem Qgw(L:List (Int×Int))(c:Nat):(mkL L).testBit c=decide (c∈L.map λp=>p.2.toNat):=by
 unfold mkL;rw[QjQ];simp
theorem QdP{cs:List (Int×Int)}:∀i,∀L∈Qbt cs i,∀p∈L,p∈cs
 |0,L,h,p,hp=>by rw[Qx.mp h] at hp;cases hp
 |i+1,L,h,p,hp=>by
  rcases Q0.mp (show L∈Qbt cs i++(Qbt cs i).flatMap (Qe0 (Qdt cs i)) from h) with z | z
  ·exact QdP i L z p hp
  ·obtain⟨M,hM,hL⟩:=Yi.mp z;obtain⟨c,hc,_,rfl⟩:=Qau.mp hL;rcases Q0.mp hp with y | y
   ·exact QdP i M hM p y
   ·rw[Qx.mp y];exact(Qz.mp hc).1
theorem Qiu{L:List (Int×Int)}{c:Int×Int}(hL:∀p∈L,0<=p.2)(hc:0<=c.2):(c.2.toNat∈L.map λp=>p.2.toNat)↔c.2∈L.map (·.2):=by
 rw[Qt,Qt];constructor
 ·rintro⟨p,hp,e⟩;refine⟨p,hp,?_⟩;have:=hL p hp;have e:p.2.toNat=c.2.toNat:=e;show p.2=c.2;omega
 ·rintro⟨p,hp,e⟩;exact⟨p,hp,by show p.2.toNat=c.2.toNat;rw[show p.2=c.2 from e]⟩
def trm(cs:List (Int×Int))(h r k:Nat)(L:List (Int×Int)):Int:=if L.length<=k then Wc cs h (h - r) (mkL L) (k - L.length) else 0
theorem Qou{cs:List (Int×Int)}{h r k:Nat}(hr:r<h)(hb:∀p∈cs,0<=p.2){L:List (Int×Int)}(hL:∀p∈L,p∈cs) :
  trm cs h r k L=trm cs h (r+1) k L+sumZ (trm cs h (r+1) k) (Qe0 (Qdt cs r) L):=by
 have e1:h - r=(h - (r+1))+1:=by omega
 have e2:h - 1 - (h - (r+1))=r:=by omega
 unfold Qe0;rw[Qjc,Z7];unfold trm;rw[e1];by_cases z:L.length<=k
 ·rw[if_pos z,if_pos z];show Qec (Wc cs h (h - (r+1))) (QkI cs (h - 1 - (h - (r+1)))) (mkL L) (k - L.length)=_;rw[e2];unfold Qec
  congr 1
  by_cases z2:k - L.length=0
  ·rw[if_pos z2];refine(Eq.trans (JA (g:=λ_=>0) λc hc=>?_) (sumZ_zero _)).symm;rw[Qr,if_neg (show ¬(L.length+[c].length<=k) by show ¬(L.length+1<=k);omega)];split<;>rfl
  ·rw[if_neg z2];unfold QkI;rw[QcD];refine JA λc hc=>?_
   have hc':=hb c (Qz.mp hc).1;rw[Qgw,QdV,Qr,if_pos (show L.length+[c].length<=k by show L.length+1<=k;omega)];have em:=Qiu (c:=c) (λp hp=>hb p (hL p hp)) hc';by_cases y:c.2∈L.map (·.2)
   ·rw[if_pos (decide_eq_true (em.mpr y)),if_neg (by simpa using y)]
   ·rw[if_neg (by rw[decide_eq_true_eq];exact λq=>y (em.mp q)),if_pos (by simpa using y)];show _=Wc cs h (h - (r+1)) _ (k - (L.length+1));rw[show k - L.length - 1=k - (L.length+1) by omega]
 ·rw[if_neg z,if_neg z,Y4];refine(Eq.trans (JA (g:=λ_=>0) λc hc=>?_) (sumZ_zero _)).symm;rw[Qr,if_neg (show ¬(L.length+[c].length<=k) by show ¬(L.length+1<=k);omega)];split<;>rfl
theorem Qi5{cs:List (Int×Int)}{h k:Nat}(hb:∀p∈cs,0<=p.2):∀r,r<=h->sumZ (trm cs h r k) (Qbt cs r)=Wc cs h h 0 k
 |0,_=>by
  show(if 0<=k then Wc cs h (h - 0) (mkL []) (k - 0) else 0)+0=_;rw[if_pos (Jc _),Qaz];rfl
 |r+1,hr=>by
  rw[<- Qi5 hb r (by omega)];show sumZ _ (Qbt cs r++(Qbt cs r).flatMap (Qe0 (Qdt cs r)))=_;rw[QfI,QgX,<- QbS];exact(JA λL hL=>Qou (by omega) hb (QdP r L hL)).symm
def QAp(cs:List (Int×Int))(h k:Nat):Int:=(((Qbt cs h).countP λL=>L.length == k:Nat):Int)
theorem Qre{cs:List (Int×Int)}{h:Nat}(hb:∀p∈cs,0<=p.2)(k:Nat):QAp cs h k=Wc cs h h 0 k:=by
 rw[<- Qi5 (k:=k) hb h (Qh _)];unfold QAp;rw[<- Qe7];refine JA λL _=>?_
 unfold trm;rw[Qk9];show(if(L.length == k)=true then 1 else 0)=if L.length<=k then(if k - L.length=0 then 1 else 0) else 0
 by_cases z:L.length=k
 ·rw[if_pos (by simpa using z),if_pos (by omega),if_pos (by omega)]
 ·rw[if_neg (by simpa using z)];by_cases z2:L.length<=k
  ·rw[if_pos z2,if_neg (by omega)]
  ·rw[if_neg z2]
theorem Qf5:∀(w:Nat)(l:List Nat),l.Nodup->(∀x∈l,x<w)->l.length<=w
 |0,l,_,h=>by
  cases l with
  |nil=>exact Qh _
  |cons a l=>exact absurd (h a (.head _)) (QvF _)
 |w+1,l,nd,h=>by
  by_cases z:w∈l
  ·have h1:=Qf5 w (l.erase w) (nd.erase w) λx hx=>by
    have:=h x (List.mem_of_mem_erase hx);have hne:x≠w:=λe=>by subst e;exact(List.Nodup.not_mem_erase nd) hx
    omega
   have h2:=Qh1 z;omega
  ·have h1:=Qf5 w l nd λx hx=>by
    have:=h x hx;have hne:x≠w:=λe=>by subst e;exact z hx
    omega
   omega
theorem Qib{cs:List (Int×Int)}:∀i,∀L∈Qbt cs i,(L.map (·.2)).Nodup
 |0,L,h=>by rw[Qx.mp h];exact .nil
 |i+1,L,h=>by
  rcases Q0.mp (show L∈Qbt cs i++(Qbt cs i).flatMap (Qe0 (Qdt cs i)) from h) with z | z
  ·exact Qib i L z
  ·obtain⟨M,hM,hL⟩:=Yi.mp z;obtain⟨c,_,hn,rfl⟩:=Qau.mp hL;rw[Jj];refine Zv.mpr ⟨Qib i M hM,by simp,λa h1 b h2 e=>?_⟩;have h2:b=c.2:=by simpa using h2
   rw[e,h2] at h1;exact hn h1
theorem QlA{cs:List (Int×Int)}{w i:Nat}(hb:∀p∈cs,0<=p.2/\p.2<w){L:List (Int×Int)}(h:L∈Qbt cs i):L.length<=w:=by
 have nd:=Qib i L h;have hs:=QdP i L h;have h1:=Qf5 w (L.map λp=>p.2.toNat) ?_ λx hx=>?_
 ·rwa [Qc] at h1
 ·have e:(L.map λp=>p.2.toNat)=(L.map (·.2)).map Int.toNat:=by rw[QN];rfl
  rw[e];refine JR.mpr (Yz (λ{a b} ha hb' hne hz=>hne ?_) nd);obtain⟨p,hp,rfl⟩:=Qt.mp ha;obtain⟨q,hq,rfl⟩:=Qt.mp hb';have:=hb p (hs p hp);have:=hb q (hs q hq);show p.2=q.2;have hz:p.2.toNat=q.2.toNat:=hz;omega
 ·obtain⟨p,hp,rfl⟩:=Qt.mp hx;have:=hb p (hs p hp);omega
theorem Qrg{cs:List (Int×Int)}{h w:Nat}{d:PyData}(hd:d∈QjM cs h w):∃i,d=.int i:=by
 unfold QjM at hd;obtain⟨k,_,rfl⟩:=Qt.mp hd;exact⟨_,rfl⟩
theorem Qrf(cs:List (Int×Int))(h w:Nat):(QjM cs h w).length=min h w+1:=by unfold QjM;rw[Qc,QH]
end Rk
namespace L2
section
variable{X:Cx}
def Qwo(K:PySem.W.Frag):List V->Hp->VK->Prop:=λxs H Q=>∃(p:Addr)(ns:List Int),xs=[.ref p]/\SqL K H p (ns.map V.int)/\0<ns.length/\∀m,m∈ns->(∀y∈ns,y<=m)->Q (.int m) H
theorem QnC(hc:X.calm=true):CallR X (.builtin "max") (Qwo X.K):=by
 intro pins s σ H xs us Q I r h;obtain⟨p,ns,rfl,hp,hn,q⟩:=h;obtain⟨u,rfl,ru⟩:=vals1 r;cases ru;obtain⟨its,rv,pl,hz⟩:=I.list hp;have hi:Qbs its ns:=intsAre_of rv;obtain⟨ys,hx⟩:=hi.allInts.items;have hl':s.heap.IsList p (intItems ys):=hx ▸ pl.isList;have hsz:ys.size=ns.length:=by
  have h1:its.toArray.size=(intItems ys).size:=by rw[hx]
  rw[Ql,hi.length] at h1;simp[intItems] at h1;omega
 have num:∀j m,ns[j]? = some m->numAt ys j=m:=λj m e=>by
  obtain⟨w,hw,rw'⟩:=rv.get (i:=j) (x:=V.int m) (by rw[Qo,e];rfl);have h2:(intItems ys)[j]? = some w:=by rw[<- hx,QkV];exact hw
  unfold intItems at h2;rw[Array.getElem?_map] at h2;obtain⟨y,hy,ey⟩:=Zr.mp h2;unfold numAt;rw[hy];subst ey;obtain⟨t,et⟩:=rw';cases et;rfl
 refine max_intList (I.ok.hd hc) hl' (by omega) λv h' tk hv hk=>?_
 rw[<- hx] at hv;rw[QkV] at hv;have ab:=argBest_gt (numAt ys) (ys.size - 1);generalize argBest (λi j=>decide (numAt ys i > numAt ys j)) (ys.size - 1)=b at *;obtain⟨x,hx2,rx⟩:∃x,(ns.map V.int)[b]? = some x/\RelV x v:=by
  have hlen:=rv.length;have hlt:=(QU.mp hv).1;cases e:(ns.map V.int)[b]? with
  |none=>
   have:=List.getElem?_eq_none_iff.mp e
   omega
  |some x=>
   obtain⟨w,hw,rw'⟩:=rv.get e;rw[hw] at hv;cases hv;exact⟨x,rfl,rw'⟩
 rw[Qo] at hx2;obtain⟨m,hm,rfl⟩:=Zr.mp hx2;refine⟨.int m,H,I.kept hk,rx,q m (Q8 hm) λy hy=>?_⟩;obtain⟨j,hj⟩:=Jx.mp hy;have hjl:=(QU.mp hj).1;have:=ab.2 j (by omega);rw[num b m hm,num j y hj] at this;exact this
end
end L2
namespace Dl
open L2 _root_.Rd Rk
@[irreducible] def QpU:List PyData->(PyData->Prop)->Prop
 |[.list ds],Q=>∃ns,Qbm ds=some ns/\0<ns.length/\∀m,m∈ns->(∀y∈ns,y<=m)->Q (.int m)
 |_,_=>False
theorem Qu7{K:PySem.W.Frag}:Qbj (Qwo K) QpU:=λA P H vs ds R Q ln dm q h k=>by
 unfold QpU at h;split at h
 ·obtain⟨v,rfl,hv⟩:=pd1 q;obtain⟨bs,hb,h0,hR⟩:=h;rw[Qev hb] at hv;obtain⟨l,xs,rfl,e,qq⟩:=hv.list;rw[QaN qq] at e;exact⟨l,bs,rfl,SqL.of e,h0,λm h1 h2=>k _ (hR m h1 h2) _ H (Same.refl H) (.int _) YI⟩
 ·exact h.elim
theorem Quw{ns:List Int}{Q:PyData->Prop}(h:0<ns.length)(k:∀m,m∈ns->(∀y∈ns,y<=m)->Q (.int m)):QpU [.list (ns.map Qg)] Q:=by
 unfold QpU;exact⟨ns,ints_map ns,h,k⟩
end Dl
namespace Rk
open L2 _root_.Rd Dl Rt
def wo(cs:List (Int×Int))(c:Int×Int):List (Int×Int):=cs.filter λp => !decide (p=c)
theorem QvO(cs:List (Int×Int))(c:Int×Int)(r:Int):Qdt (wo cs c) r=wo (Qdt cs r) c:=by
 unfold Qdt wo;rw[Zd,Zd];refine J9 λp _=>?_
 rw[QdN]
theorem Qxz{cells L:List (Int×Int)}{c:Int×Int}(h:c∈L):(Qe0 cells L).filter (λM => !decide (c∈M))=[]:=ZU.mpr λM hM=>by
 obtain⟨d,_,_,rfl⟩:=Qau.mp hM;simp[h]
theorem QuM{L:List (Int×Int)}{c:Int×Int}(h:c∉L):∀cells:List (Int×Int),(Qe0 cells L).filter (λM => !decide (c∈M))=Qe0 (wo cells c) L:=λcells=>by
 unfold Qe0 wo;rw[Qvu,Zd,Zd]
 congr 1
 refine J9 λd _=>?_
 show(!decide (c∈L++[d]) && !decide (d.2∈L.map (·.2)))=(!decide (d.2∈L.map (·.2)) && !decide (d=c));have e:decide (c∈L++[d])=decide (d=c):=decide_eq_decide.mpr ⟨λz=>by
  rcases Q0.mp z with z | z
  ·exact absurd z h
  ·exact(Qx.mp z).symm,λz=>Qu _ (Qx.mpr z.symm)⟩
 rw[e,QdN]
theorem Qcm{α β:Type}(p:α->Bool)(f:α->List β):∀xs:List α,(xs.filter p).flatMap f=xs.flatMap λx=>if p x=true then f x else[]
 |[]=>rfl
 |x::xs=>by
  by_cases z:p x=true
  ·rw[Jy z,Jw,Jw,if_pos z,Qcm p f xs]
  ·rw[Jp z,Jw,if_neg z,Qcm p f xs];rfl
theorem QeC{α β:Type}(p:β->Bool)(f:α->List β):∀xs:List α,(xs.flatMap f).filter p=xs.flatMap λx=>(f x).filter p
 |[]=>rfl
 |x::xs=>by rw[Jw,Qab,QeC p f xs,Jw]
theorem Qdk{α β:Type}{f g:α->List β}:∀{xs:List α},(∀x∈xs,f x=g x)->xs.flatMap f=xs.flatMap g
 |[],_=>rfl
 |x::xs,h=>by rw[Jw,Jw,h x (.head _),Qdk λy hy=>h y (.tail _ hy)]
theorem QrF(cs:List (Int×Int))(c:Int×Int):∀i,Qbt (wo cs c) i=(Qbt cs i).filter λL => !decide (c∈L)
 |0=>rfl
 |i+1=>by
  show Qbt (wo cs c) i++(Qbt (wo cs c) i).flatMap (Qe0 (Qdt (wo cs c) i))=(Qbt cs i++(Qbt cs i).flatMap (Qe0 (Qdt cs i))).filter _;rw[Qab,QrF cs c i,QeC,Qcm,QvO]
  congr 1
  refine Qdk λL _=>?_
  by_cases z:c∈L
  ·rw[Qxz z,if_neg (by simpa using z)]
  ·rw[QuM z,if_pos (by simpa using z)]
def Great(cs:List (Int×Int))(h w m:Nat):Prop:=m<=min h w/\0<Wc cs h h 0 m/\∀k,k<=min h w->0<Wc cs h h 0 k->k<=m
def Bds(h w:Nat)(cs:List (Int×Int)):Prop:=h<=6/\w<=6/\∀p∈cs,0<=p.1/\p.1<h/\0<=p.2/\p.2<w
def QoT:DF:=λargs R _=>∃(h w:Nat)(cs:List (Int×Int))(p:Int×Int),args=[.v (bdD h w cs),.v (pairD p)]/\Bds h w cs/\p∈cs/\R .none
def QfE:DF:=λargs R _=>∃(h w:Nat)(cs:List (Int×Int))(p:Int×Int),args=[.v (bdD h w cs),.v (pairD p)]/\Bds h w cs/\p∈cs/\R (bdD h w (wo cs p))
def Qnb:DF:=λargs R _=>∃(h w:Nat)(cs:List (Int×Int)),args=[.v (bdD h w cs)]/\Bds h w cs/\∀m,Great cs h w m->R (.int (m:Int))
theorem Bds.wo{h w:Nat}{cs:List (Int×Int)}(b:Bds h w cs)(c:Int×Int):Bds h w (wo cs c):=⟨b.1,b.2.1,λp hp=>b.2.2 p (Qz.mp hp).1⟩
theorem Bds.col{h w:Nat}{cs:List (Int×Int)}(b:Bds h w cs):∀p∈cs,0<=p.2/\p.2<(w:Int):=λp hp=>(b.2.2 p hp).2.2
theorem Bds.nn{h w:Nat}{cs:List (Int×Int)}(b:Bds h w cs):∀p∈cs,0<=p.2:=λp hp=>(b.2.2 p hp).2.2.1
theorem Qss(cs:List (Int×Int))(h:Nat):∀i t,Wc cs h i t 0=1
 |0,_=>rfl
 |i+1,t=>by
  show Wc cs h i t 0+(if 0=0 then 0 else _)=1;rw[if_pos rfl,Qss cs h i t];rfl
def QkZ:List (Int×Int)->List (Int×Int)->Prop
 |[],[]=>False
 |[],_::_=>True
 |_::_,[]=>False
 |p::L,q::M=>plt p q∨(p=q/\QkZ L M)
theorem Qiy:∀L:List (Int×Int),¬QkZ L L
 |[],h=>h
 |p::L,h=>by
  rcases h with z | z
  ·rcases z with z | z<;>omega
  ·exact Qiy L z.2
theorem QmX:∀{S T:List (Int×Int)}(c d:Int×Int),S.length=T.length->QkZ S T->QkZ (S++[c]) (T++[d])
 |[],[],_,_,_,h=>h.elim
 |[],_::_,_,_,e,_=>by cases e
 |_::_,[],_,_,e,_=>by cases e
 |p::S,q::T,c,d,e,h=>by
  rcases h with z | z
  ·exact .inl z
  ·exact .inr ⟨z.1,QmX c d (by simpa using e) z.2⟩
theorem Qjw:∀(S:List (Int×Int)){c d:Int×Int},plt c d->QkZ (S++[c]) (S++[d])
 |[],c,d,h=>.inl h
 |p::S,c,d,h=>.inr ⟨rfl,Qjw S h⟩
def rbI(S:List (Int×Int)):Int:=match S.getLast? with
 |some c=>c.1+1
 |none=>0
def fol(cs S:List (Int×Int)):List (Int×Int):=cs.filter λc=>decide (rbI S<=c.1) && !decide (c.2∈S.map (·.2))
def evS(cs:List (Int×Int)):Nat->List (List (Int×Int))
 |0=>[[]]
 |k+1=>(evS cs k).flatMap λS=>(fol cs S).map λc=>S++[c]
structure Std (cs L:List (Int×Int)):Prop where
 sub:∀p∈L,p∈cs
 rows:L.Pairwise λp q=>p.1<q.1
 cols:(L.map (·.2)).Nodup
theorem Std.nil{cs:List (Int×Int)}:Std cs []:=⟨λp hp=>(nomatch hp),.nil,.nil⟩
theorem Std.init{cs S:List (Int×Int)}{c:Int×Int}(h:Std cs (S++[c])):Std cs S/\c∈cs/\(∀p∈S,p.1<c.1)/\c.2∉S.map (·.2):=by
 have r:=ZI.mp h.rows;have k:=h.cols;rw[Jj] at k;have k:=Zv.mp k;refine⟨⟨λp hp=>h.sub p (JT _ hp),r.1,k.1⟩,h.sub c (by simp),λp hp=>r.2.2 p hp c (by simp),λz=>?_⟩;exact k.2.2 c.2 z c.2 (by simp) rfl
theorem Std.snoc{cs S:List (Int×Int)}{c:Int×Int}(h:Std cs S)(h1:c∈cs)(h2:∀p∈S,p.1<c.1)(h3:c.2∉S.map (·.2)):Std cs (S++[c]):=by
 refine⟨λp hp=>?_,ZI.mpr ⟨h.rows,by simp,λp hp q hq=>?_⟩,?_⟩
 ·rcases Q0.mp hp with z | z
  ·exact h.sub p z
  ·rw[Qx.mp z];exact h1
 ·rw[Qx.mp hq];exact h2 p hp
 ·rw[Jj];refine Zv.mpr ⟨h.cols,by simp,λa ha b hb e=>?_⟩;have hb:b=c.2:=by simpa using hb
  rw[e,hb] at ha;exact h3 ha
theorem Qjz{S:List (Int×Int)}(h:S.Pairwise λp q=>p.1<q.1){c:Int×Int}:(∀p∈S,p.1<c.1)∨¬rbI S<=c.1∨(S=[] ):=by
 by_cases z:S=[]
 ·exact .inr (.inr z)
 ·by_cases y:rbI S<=c.1
  ·refine .inl λp hp=>?_
   obtain⟨T,d,rfl⟩:∃T d,S=T++[d]:=⟨S.dropLast,S.getLast z,(QaK z).symm⟩
   have y:d.1+1<=c.1:=by unfold rbI at y;rw[Qlc] at y;simpa using y
   rcases Q0.mp hp with q | q
   ·have:=(ZI.mp h).2.2 p q d (by simp);omega
   ·rw[Qx.mp q];omega
  ·exact .inr (.inl y)
theorem Qzo{S:List (Int×Int)}{c:Int×Int}(h:∀p∈S,p.1<c.1)(h0:0<=c.1):rbI S<=c.1:=by
 unfold rbI;cases e:S.getLast? with
 |none=>exact h0
 |some d=>
  have:=h d (Qlb e);show d.1+1<=c.1;omega
theorem Qdz{cs:List (Int×Int)}(h0:∀p∈cs,0<=p.1):∀(k:Nat)(L:List (Int×Int)),L∈evS cs k↔Std cs L/\L.length=k
 |0,L=>by
  constructor
  ·intro h;rw[Qx.mp h];exact⟨.nil,rfl⟩
  ·rintro⟨_,h⟩;cases L with
   |nil=>exact .head _
   |cons a b=>cases h
 |k+1,L=>by
  show L∈(evS cs k).flatMap (λS=>(fol cs S).map λc=>S++[c])↔_;rw[Yi];constructor
  ·rintro⟨S,hS,hL⟩;obtain⟨c,hc,rfl⟩:=Qt.mp hL;obtain⟨st,hl⟩:=(Qdz h0 k S).mp hS;have hc:=Qz.mp hc;have hc2:=JG.mp hc.2;refine⟨st.snoc hc.1 ?_ (by simpa using hc2.2),by rw[Qr,hl];rfl⟩;rcases Qjz st.rows (c:=c) with z | z | z
   ·exact z
   ·exact absurd (of_decide_eq_true hc2.1) z
   ·rw[z];exact λp hp=>(nomatch hp)
  ·rintro⟨st,hl⟩;have hne:L≠[]:=λe=>by rw[e] at hl;cases hl
   obtain⟨S,c,rfl⟩:∃T d,L=T++[d]:=⟨L.dropLast,L.getLast hne,(QaK hne).symm⟩
   obtain⟨s1,s2,s3,s4⟩:=st.init;refine⟨S,(Qdz h0 k S).mpr ⟨s1,by rw[Qr] at hl;exact QhO hl⟩,Qt.mpr ⟨c,Qz.mpr ⟨s2,?_⟩,rfl⟩⟩;rw[JH];exact⟨decide_eq_true (Qzo s3 (h0 c s2)),by simpa using s4⟩
theorem Qhr{cs:List (Int×Int)}(hp:cs.Pairwise plt)(h0:∀p∈cs,0<=p.1):∀k,(evS cs k).Pairwise QkZ
 |0=>QbR _ _
 |k+1=>by
  show((evS cs k).flatMap λS=>(fol cs S).map λc=>S++[c]).Pairwise QkZ;rw[QkU];refine⟨λS _=>?_,?_⟩
  ·exact JR.mpr ((JM _ hp).imp λh=>Qjw S h)
  ·refine Yz (λ{S T} hS hT h=>?_) (Qhr hp h0 k);intro x hx y hy;obtain⟨c,_,rfl⟩:=Qt.mp hx;obtain⟨d,_,rfl⟩:=Qt.mp hy;exact QmX c d (by rw[((Qdz h0 k S).mp hS).2,((Qdz h0 k T).mp hT).2]) h
theorem Qci{cs:List (Int×Int)}(h0:∀p∈cs,0<=p.1):∀(i:Nat)(L:List (Int×Int)),L∈Qbt cs i↔Std cs L/\∀p∈L,p.1<(i:Int)
 |0,L=>by
  constructor
  ·intro h;rw[Qx.mp h];exact⟨.nil,λp hp=>(nomatch hp)⟩
  ·rintro⟨s,h⟩;cases L with
   |nil=>exact .head _
   |cons a b=>
    have h1:=h a (.head _);have h2:=h0 a (s.sub a (.head _));exact absurd h1 (by show ¬a.1<0;omega)
 |i+1,L=>by
  show L∈Qbt cs i++(Qbt cs i).flatMap (Qe0 (Qdt cs i))↔_;rw[Q0,Yi];constructor
  ·rintro(h | ⟨S,hS,hL⟩)
   ·obtain⟨a,b⟩:=(Qci h0 i L).mp h;exact⟨a,λp hp=>by have:=b p hp;omega⟩
   ·obtain⟨c,hc,hn,rfl⟩:=Qau.mp hL;obtain⟨a,b⟩:=(Qci h0 i S).mp hS;have hc:=Qz.mp hc;have hr:c.1=(i:Int):=of_decide_eq_true hc.2;refine⟨a.snoc hc.1 (λp hp=>by rw[hr];exact b p hp) hn,λp hp=>?_⟩;rcases Q0.mp hp with z | z
    ·have:=b p z;omega
    ·rw[Qx.mp z,hr];omega
  ·rintro⟨s,h⟩;by_cases z:L=[]
   ·left
    rw[z];exact QlB cs i
   ·obtain⟨S,c,rfl⟩:∃T d,L=T++[d]:=⟨L.dropLast,L.getLast z,(QaK z).symm⟩
    obtain⟨s1,s2,s3,s4⟩:=s.init;have hc:=h c (by simp);by_cases y:c.1=(i:Int)
    ·right
     exact⟨S,(Qci h0 i S).mpr ⟨s1,λp hp=>by have:=s3 p hp;omega⟩,Qau.mpr ⟨c,Qz.mpr ⟨s2,decide_eq_true y⟩,s4,rfl⟩⟩
    ·left
     refine(Qci h0 i _).mpr ⟨s,λp hp=>?_⟩;rcases Q0.mp hp with q | q
     ·have:=s3 p q;omega
     ·rw[Qx.mp q];omega
theorem QrG{cs:List (Int×Int)}(nd:cs.Nodup)(h0:∀p∈cs,0<=p.1):∀i,(Qbt cs i).Nodup
 |0=>by show[([]:List (Int×Int))].Nodup;simp
 |i+1=>by
  have ih:=QrG nd h0 i;show(Qbt cs i++(Qbt cs i).flatMap (Qe0 (Qdt cs i))).Nodup;refine Zv.mpr ⟨ih,?_,λL hL M hM e=>?_⟩
  ·show List.Pairwise _ _;rw[QkU];refine⟨λS _=>?_,ih.imp λ{S T} hne x hx y hy e=>?_⟩
   ·unfold Qe0;refine JR.mpr ((JM _ (JM _ nd)).imp λ{c d} hne e=>hne ?_);have:=List.append_inj_right' e rfl
    simpa using this
   ·obtain⟨c,_,_,rfl⟩:=Qau.mp hx;obtain⟨d,_,_,rfl⟩:=Qau.mp hy;exact hne (List.append_inj_left' e rfl)
  ·obtain⟨S,hS,hM⟩:=Yi.mp hM;obtain⟨c,hc,_,rfl⟩:=Qau.mp hM;have hr:c.1=(i:Int):=of_decide_eq_true (Qz.mp hc).2;have:=((Qci h0 i L).mp hL).2 c (by rw[e];simp);omega
end Rk
namespace Dl
open L2 _root_.Rd Rk
section
variable{X:Cx}{E:XK}{st:ZY}{we:DE}
end
end Dl
namespace Rk
open L2 _root_.Rd Dl Rt
structure GB (h w:Nat) (cs:List (Int×Int)):Prop where
 bds:Bds h w cs
 srt:cs.Pairwise plt
 few:(Qbt cs h).length<=200000
theorem GB.r0{h w:Nat}{cs:List (Int×Int)}(g:GB h w cs):∀p∈cs,0<=p.1:=λp hp=>(g.bds.2.2 p hp).1
theorem GB.rh{h w:Nat}{cs:List (Int×Int)}(g:GB h w cs):∀p∈cs,p.1<(h:Int):=λp hp=>(g.bds.2.2 p hp).2.1
theorem Qnj{h w:Nat}{cs:List (Int×Int)}(g:GB h w cs)(k:Nat):(evS cs k).Perm ((Qbt cs h).filter λL=>L.length == k):=by
 have nd:=QrG (g.srt.imp plt_ne) g.r0 h;have s2:=Qhr g.srt g.r0 k;have n2:(evS cs k).Nodup:=QgO (R:=QkZ) (S:=λa b=>a≠b) (λ{S T} z (e:S=T)=>Qiy S (by rw[<- e] at z;exact z)) s2;refine(Je n2 (JM _ nd)).mpr λL=>?_
 rw[Qz,Qdz g.r0,Qci g.r0];constructor
 ·rintro⟨a,b⟩;exact⟨⟨a,λp hp=>g.rh p (a.sub p hp)⟩,by simpa using b⟩
 ·rintro⟨⟨a,_⟩,b⟩;exact⟨a,by simpa using b⟩
theorem QxA{h w:Nat}{cs:List (Int×Int)}(g:GB h w cs)(k:Nat):((evS cs k).length:Int)=Wc cs h h 0 k:=by
 rw[<- Qre g.bds.nn];unfold QAp;rw[(Qnj g k).length_eq,List.countP_eq_length_filter]
def QoM:DF:=λargs R _=>∃S:List (Int×Int),args=[.v (stT S)]/\R (.int (rbI S))
def QAd:DF:=λargs R _=>∃(h w:Nat)(cs S:List (Int×Int)),args=[.v (bdD h w cs),.v (stT S)]/\R (.list ((fol cs S).map pairD))
theorem QuD{S:List (Int×Int)}{c:Int×Int}(h:S.getLast? = some c):atI (S.map pairD) (-1)=some (pairD c):=by
 obtain⟨xs,rfl⟩:=List.getLast?_eq_some_iff.mp h
 rw[Jj];exact QjR _ _
end Rk
namespace L2
section
variable{X:Cx}
end
end L2
namespace Dl
open L2 _root_.Rd Rk Rt
end Dl
namespace Rk
open L2 _root_.Rd Dl Rt
end Rk
namespace L2
open _root_.Rd
section
variable{X:Cx}
end
end L2
namespace Dl
open L2 _root_.Rd Rk Rt
section
variable{X:Cx}{E:XK}
end
end Dl
namespace Rk
open L2 _root_.Rd Dl Rt
def xts(cs:List (Int×Int)):Nat->List (Int×Int)->List (List (Int×Int))
 |0,S=>[S]
 |m+1,S=>(fol cs S).flatMap λc=>xts cs m (S++[c])
theorem Qsa(cs:List (Int×Int)):∀(m j:Nat),(evS cs j).flatMap (xts cs m)=evS cs (j+m)
 |0,j=>by
  show(evS cs j).flatMap (λS=>[S])=evS cs j;rw[List.flatMap_singleton']
 |m+1,j=>by
  have h:=Qsa cs m (j+1);rw[show j+1+m=j+(m+1) by omega] at h;rw[<- h];show(evS cs j).flatMap (λS=>(fol cs S).flatMap λc=>xts cs m (S++[c]))=((evS cs j).flatMap λS=>(fol cs S).map λc=>S++[c]).flatMap (xts cs m);rw[List.flatMap_assoc];refine Qdk λS _=>?_
  rw[List.flatMap_map]
theorem QuN(cs:List (Int×Int))(k:Nat):xts cs k []=evS cs k:=by
 have h:=Qsa cs k 0;rw[Nat.zero_add] at h;rw[<- h];show _=[([]:List (Int×Int))].flatMap (xts cs k);simp
theorem QnW(cs:List (Int×Int))(h:Nat):∀(i t:Nat),Wc cs h i t 0=1
 |0,_=>rfl
 |i+1,t=>by
  show Wc cs h i t 0+0=1;rw[QnW cs h i t];rfl
theorem Qx6{h w:Nat}{cs:List (Int×Int)}(g:GB h w cs){T:List (Int×Int)}(hT:∀p∈T,p∈cs)(m:Nat):∀i,i<=h->Wc cs h i (mkL T) (m+1)=sumZ (λc=>Wc cs h (h - (c.1+1).toNat) (mkL (T++[c])) m) (cs.filter λc=>decide (((h - i:Nat):Int)<=c.1) && !decide (c.2∈T.map (·.2)))
 |0,_=>by
  have e:cs.filter (λc=>decide (((h - 0:Nat):Int)<=c.1) && !decide (c.2∈T.map (·.2)))=[]:=by
   rw[ZU];intro c hc;have:=g.rh c hc;rw[decide_eq_false (by omega)];exact Qi
  rw[e];rfl
 |i+1,hi=>by
  show Wc cs h i (mkL T) (m+1)+(if m+1=0 then 0 else Qn6 (Wc cs h i) (mkL T) (QkI cs (h - 1 - i)) (m+1 - 1))=_;rw[if_neg (by omega),Ze,Qx6 g hT m i (by omega),Z7,Z7];unfold QkI Qdt;rw[QcD,Z7,<- QbS];refine JA λc hc=>?_
  have h0:=g.r0 c hc;have hh:=g.rh c hc;have em:=Qiu (L:=T) (c:=c) (λp hp=>g.bds.nn p (hT p hp)) (g.bds.nn c hc);by_cases y:c.2∈T.map (·.2)
  ·have bt:(mkL T).testBit c.2.toNat=true:=by rw[Qgw];exact decide_eq_true (em.mpr y)
   rw[decide_eq_true y,bt];simp
  ·have bn:(mkL T).testBit c.2.toNat=false:=by rw[Qgw];exact decide_eq_false λq=>y (em.mp q)
   rw[decide_eq_false y,bn];simp only[Bool.not_false,Bool.and_true,decide_eq_true_eq,Qac,if_false];rw[QdV];by_cases z:c.1=((h - 1 - i:Nat):Int)
   ·rw[if_neg (by omega),if_pos z,if_pos (by omega),show h - (c.1+1).toNat=i by omega];omega
   ·rw[if_neg z,Qaz];by_cases z2:((h - i:Nat):Int)<=c.1
    ·rw[if_pos z2,if_pos (by omega)]
    ·rw[if_neg z2,if_neg (by omega)]
theorem Qjx{α β:Type}(g:α->List β):∀xs:List α,((xs.flatMap g).length:Int)=sumZ (λx=>((g x).length:Int)) xs
 |[]=>rfl
 |x::xs=>by
  rw[Jw,Qr];show _=((g x).length:Int)+sumZ _ xs;rw[<- Qjx g xs];omega
theorem Qtb(S:List (Int×Int))(c:Int×Int):rbI (S++[c])=c.1+1:=by
 unfold rbI;rw[Qlc];rfl
theorem Qwh{h w:Nat}{cs S:List (Int×Int)}(g:GB h w cs)(st:Std cs S):0<=rbI S/\rbI S<=h:=by
 unfold rbI;cases e:S.getLast? with
 |none=>exact⟨QgP _,by show(0:Int)<=h;omega⟩
 |some d=>
  have hd:=st.sub d (Qlb e);have a:=g.r0 d hd;have b:=g.rh d hd;exact⟨by show 0<=d.1+1;omega,by show d.1+1<=h;omega⟩
theorem Qgh{cs S:List (Int×Int)}{c:Int×Int}(st:Std cs S)(hc:c∈fol cs S):Std cs (S++[c]):=by
 have hc:=Qz.mp hc;have hc2:=JG.mp hc.2;refine st.snoc hc.1 ?_ (by simpa using hc2.2)
 rcases Qjz st.rows (c:=c) with z | z | z
 ·exact z
 ·exact absurd (of_decide_eq_true hc2.1) z
 ·rw[z];exact λp hp=>(nomatch hp)
theorem Qlf{h w:Nat}{cs:List (Int×Int)}(g:GB h w cs):∀(m:Nat)(S:List (Int×Int)),Std cs S->((xts cs m S).length:Int)=Wc cs h (h - (rbI S).toNat) (mkL S) m
 |0,S,_=>by rw[QnW];rfl
 |m+1,S,st=>by
  have rb:=Qwh g st;show(((fol cs S).flatMap λc=>xts cs m (S++[c])).length:Int)=_;rw[Qjx,Qx6 g st.sub m _ (Nat.sub_le _ _)];have e:(((h - (h - (rbI S).toNat):Nat):Nat):Int)=rbI S:=by omega
  rw[e];refine JA λc hc=>?_
  rw[Qlf g m (S++[c]) (Qgh st hc),Qtb]
theorem Qn7{h w:Nat}(f:Nat->Nat->Bool)(h6:h<=6)(w6:w<=6):GB h w (cellsF h w f):=by
 refine⟨⟨h6,w6,λp hp=>Zh hp⟩,pw_cellsF w f h,QX (Qje (λr=>Qih w h f r) h) ?_⟩;have c:(w+1)^h<=7^h:=Nat.pow_le_pow_left (by omega) _;have d:7^h<=7^6:=Ya (by decide) h6;have e:(7:Nat)^6=117649:=rfl;omega
theorem Qid{h w:Nat}{cs L:List (Int×Int)}(g:GB h w cs)(st:Std cs L):L.length<=min h w:=by
 have m:=(Qci g.r0 h L).mpr ⟨st,λp hp=>g.rh p (st.sub p hp)⟩;have a:=Qeb h L m;have b:=QlA g.bds.col m;omega
theorem Qi9(cs:List (Int×Int))(h w:Nat):∀(i j:Nat),j<=i->(Qja cs h w i)[j]? = some (.list (Qh8 h w (Wc cs h (i - j))))
 |0,0,_=>rfl
 |i+1,0,_=>rfl
 |i+1,j+1,hj=>by
  show(Qja cs h w i)[j]? = _;rw[Qi9 cs h w i j (by omega),show i+1 - (j+1)=i - j by omega]
theorem QwY:∀t:Fin 64,∀c:Fin 6,(t:Nat).testBit c=false->(t:Nat) ||| 2^(c:Nat)=t+2^(c:Nat):=by decide +kernel
theorem Qr6{w:Nat}(w6:w<=6):∀{T S:List (Int×Int)},(∀p∈T++S,0<=p.2/\p.2<w)->((T++S).map (·.2)).Nodup->mkL T<2^w->((mkL T:Nat):Int)+(S.map λp=>(1*2^p.2.toNat:Int)).sum=((mkL (T++S):Nat):Int)/\mkL (T++S)<2^w
 |T,[],_,_,h=>by rw[ZB];exact⟨by show _+0=_;omega,h⟩
 |T,c::S,hb,nd,h=>by
  have hc:=hb c (by simp);have p64:2^w<=2^6:=Ya (by decide) w6;have e64:(2:Nat)^6=64:=rfl;have nt:(mkL T).testBit c.2.toNat=false:=by
   rw[Qgw];refine decide_eq_false λq=>?_
   have:=(Qiu (L:=T) (c:=c) (λp hp=>(hb p (JT _ hp)).1) hc.1).mp q;rw[Jj,JF] at nd;exact(Zv.mp nd).2.2 _ this c.2 (.head _) rfl
  have eo:mkL T ||| 2^c.2.toNat=mkL T+2^c.2.toNat:=QwY ⟨mkL T,by omega⟩ ⟨c.2.toNat,by omega⟩ nt;have lt:mkL (T++[c])<2^w:=by rw[QdV];exact QwW h (by omega)
  have e1:T++c::S=(T++[c])++S:=by simp
  have ih:=Qr6 w6 (T:=T++[c]) (S:=S) (by rw[<- e1];exact hb) (by rw[<- e1];exact nd) lt;rw[e1];refine⟨?_,ih.2⟩;rw[<- ih.1,JF,QbQ,QdV,eo];have:((2^c.2.toNat:Nat):Int)=(2:Int)^c.2.toNat:=by simp
  rw[Int.one_mul,<- this];omega
def QsL:DF:=λargs R _=>∃(h w:Nat)(cs S:List (Int×Int))(k:Nat),args=[.v (.list (Qja cs h w h)),.v (stT S),.v (.int k)]/\GB h w cs/\Std cs S/\k<=h/\R (.int ((xts cs k S).length:Nat))
def QiN:DF:=λargs R _=>∃(h w:Nat)(cs S:List (Int×Int))(m n:Nat),args=[.v (bdD h w cs),.v (.list (Qja cs h w h)),.v (stT S),.v (.int m),.v (.int n)]/\GB h w cs/\Std cs S/\m<h/\n<(xts cs (m+1) S).length/\∀c (n':Nat),c∈fol cs S->n'<(xts cs m (S++[c])).length->(xts cs (m+1) S)[n]? = (xts cs m (S++[c]))[n']? -> R (.tuple [pairD c,.int n'])
theorem Qdl{h w:Nat}{cs:List (Int×Int)}(g:GB h w cs)(k:Nat):Wc cs h h 0 k=((evS cs k).length:Int):=(QxA g k).symm
def colK(cs:List (Int×Int))(rows:List Int):List Nat:=(Qp 6).filter λx=>cs.any λp => !decide (p.1∈rows)&&decide (p.2=(x:Int))
theorem QpT{cs:List (Int×Int)}{rows:List Int}(h6:∀p∈cs,0<=p.2/\p.2<6)(x:Nat):x∈colK cs rows↔∃p∈cs,p.1∉rows/\p.2=(x:Int):=by
 unfold colK;rw[Qz,QM,Yj];constructor
 ·rintro⟨_,p,hp,h⟩;have h:=JG.mp h;exact⟨p,hp,by simpa using h.1,of_decide_eq_true h.2⟩
 ·rintro⟨p,hp,h1,h2⟩;have:=h6 p hp;exact⟨by omega,p,hp,by simp[h1,h2]⟩
theorem Qnw(cs:List (Int×Int))(rows:List Int):(colK cs rows).Pairwise (· < ·):=JM _ (Qj0)
theorem Qrd{cs:List (Int×Int)}{rows:List Int}(h6:∀p∈cs,0<=p.2/\p.2<6){ms:List Nat}(pw:ms.Pairwise (· < ·))(h:∀x:Nat,x∈ms↔∃p∈cs,p.1∉rows/\p.2=(x:Int)):ms=colK cs rows:=by
 have nd1:ms.Nodup:=pw.imp λ{a b}(z:a<b)=>by omega
 have nd2:(colK cs rows).Nodup:=(Qnw cs rows).imp λ{a b}(z:a<b)=>by omega
 exact Zy (le:=λa b=>a<b) (λa b _ _ h1 h2=>by omega) pw (Qnw cs rows) ((Je nd1 nd2).mpr λx=>by rw[h x,QpT h6 x])
def lotsN:Nat->List (List Int)
 |0=>[[]]
 |i+1=>lotsN i++(lotsN i).map λr=>r++[(i:Int)]
theorem Qer:∀n,(lotsN n).length=2^n
 |0=>rfl
 |n+1=>by show(lotsN n++(lotsN n).map λr=>r++[(n:Int)]).length=_;rw[Qr,Qc,Qer n,Nat.pow_succ];omega
theorem Qf9:∀{n:Nat}{r:List Int},r∈lotsN n->r.Pairwise (· < ·)/\(∀x∈r,0<=x/\x<(n:Int))/\r.length<=n
 |0,r,h=>by rw[Qx.mp h];exact⟨.nil,λx hx=>(nomatch hx),Qh _⟩
 |n+1,r,h=>by
  rcases Q0.mp (show r∈lotsN n++(lotsN n).map λr=>r++[(n:Int)] from h) with h | h
  ·obtain⟨a,b,c⟩:=Qf9 h;exact⟨a,λx hx=>by have:=b x hx;omega,by omega⟩
  ·obtain⟨s,hs,rfl⟩:=Qt.mp h;obtain⟨a,b,c⟩:=Qf9 hs;refine⟨ZI.mpr ⟨a,QbR _ _,λx hx y hy=>?_⟩,λx hx=>?_,by rw[Qr];show _+1<=_;omega⟩
   ·rw[Qx.mp hy];have:=b x hx;omega
   ·rcases Q0.mp hx with z | z
    ·have:=b x z;omega
    ·rw[Qx.mp z];omega
def Qu1(cs:List (Int×Int))(r:List Int):Nat:=r.length+(colK cs r).length
theorem QBO{h w:Nat}{cs:List (Int×Int)}(g:GB h w cs):∀p∈cs,0<=p.2/\p.2<6:=λp hp=>by
 have:=g.bds.2.2 p hp;have:=g.bds.2.1;omega
def wo1(C:List Nat)(c:Nat):List Nat:=C.filter λd => !decide (d=c)
def Pf(f:Nat->Nat->Bool):List Nat->List Nat->Nat->Int
 |[],_,k=>if k=0 then 1 else 0
 |r::R,C,k=>Pf f R C k+(if k=0 then 0 else sumZ (λc=>Pf f R (wo1 C c) (k - 1)) (C.filter (f r)))
theorem QsK(C:List Nat)(c d:Nat):wo1 (wo1 C c) d=wo1 (wo1 C d) c:=by
 unfold wo1;rw[Zd,Zd];exact J9 λx _=>QdN _ _
theorem QbL{C:List Nat}{c d:Nat}:d∈wo1 C c↔d∈C/\d≠c:=by
 unfold wo1;rw[Qz,Qry,decide_eq_false_iff_not]
theorem QmP{C:List Nat}(h:C.Nodup)(c:Nat):(wo1 C c).Nodup:=JM _ h
theorem QvP{C:List Nat}{c:Nat}(h:c∉C):wo1 C c=C:=by
 unfold wo1;rw[Y1];intro d hd;rw[decide_eq_false (λe=>h (by rw[<- e];exact hd))];rfl
theorem Qga:∀{C:List Nat}{c:Nat},C.Nodup->c∈C->(wo1 C c).length+1=C.length
 |d::C,c,nd,hc=>by
  have nd:=Zn.mp nd;by_cases z:d=c
  ·subst z;have e:wo1 (d::C) d=wo1 C d:=by unfold wo1;rw[Jp (by simp)]
   rw[e,QvP nd.1];rfl
  ·have e:wo1 (d::C) c=d::wo1 C c:=by unfold wo1;rw[Jy (by simp[z])]
   have hc:c∈C:=by
    rcases Qy.mp hc with y | y
    ·exact absurd y.symm z
    ·exact y
   rw[e,QF,Qga nd.2 hc];rfl
theorem QgW{α β:Type}(g:α->β->Int):∀(C:List α)(D:List β),sumZ (λc=>sumZ (g c) D) C=sumZ (λd=>sumZ (λc=>g c d) C) D
 |[],D=>(sumZ_zero D).symm
 |c::C,D=>by
  show sumZ (g c) D+sumZ _ C=sumZ (λd=>g c d+sumZ (λc=>g c d) C) D;rw[QgW g C D,QbS]
theorem Qjb{α:Type}(f:α->Int)(x:Int):∀a:List α,sumZ (λy=>f y*x) a=sumZ f a*x
 |[]=>by show(0:Int)=0*x;rw[Int.zero_mul]
 |y::a=>by show f y*x+_=(f y+_)*x;rw[Qjb f x a,Int.add_mul]
theorem QgY{α:Type}(f:α->Int)(x:Int):∀a:List α,sumZ (λy=>x*f y) a=x*sumZ f a
 |[]=>by show(0:Int)=x*0;rw[Int.mul_zero]
 |y::a=>by show x*f y+_=x*(f y+_);rw[QgY f x a,Int.mul_add]
theorem QsX{α:Type}(F:α->Int)(p q:α->Bool)(a:List α):sumZ F ((a.filter p).filter q)=sumZ (λx=>if p x=true then(if q x=true then F x else 0) else 0) a:=by
 rw[Z7 F q,Z7 _ p]
theorem Yn(f:Nat->Nat->Bool):∀(R C:List Nat),Pf f R C 0=1
 |[],_=>rfl
 |r::R,C=>by
  show Pf f R C 0+0=1;rw[Yn f R C];rfl
theorem QiX(f:Nat->Nat->Bool):∀(R C:List Nat)(k:Nat),R.length<k->Pf f R C k=0
 |[],_,k,h=>by
  show(if k=0 then(1:Int) else 0)=0;rw[if_neg (by have:(0:Nat)<k:=h;omega)]
 |r::R,C,k,h=>by
  have h:R.length+1<k:=h;show Pf f R C k+(if k=0 then 0 else _)=0;rw[QiX f R C k (by omega),if_neg (by omega),JA (g:=λ_=>0) λc _=>QiX f R _ (k - 1) (by omega),sumZ_zero];rfl
theorem QgA(f:Nat->Nat->Bool):∀(R C:List Nat)(k:Nat),C.Nodup->C.length<k->Pf f R C k=0
 |[],_,k,_,h=>by
  show(if k=0 then(1:Int) else 0)=0;rw[if_neg (by omega)]
 |r::R,C,k,nd,h=>by
  show Pf f R C k+(if k=0 then 0 else _)=0;rw[QgA f R C k nd h,if_neg (by omega),JA (g:=λ_=>0) λc hc=>?_,sumZ_zero]
  ·rfl
  ·have:=Qga nd (Qz.mp hc).1;exact QgA f R _ (k - 1) (QmP nd c) (by omega)
theorem QcC(f g:Nat->Int):∀n,sumN n (λj=>f j+g j)=sumN n f+sumN n g
 |0=>rfl
 |n+1=>by show sumN n (λj=>f j+g j)+(f n+g n)=(sumN n f+f n)+(sumN n g+g n);rw[QcC f g n];omega
theorem QbT(f:Nat->Int):∀n,sumN (n+1) f=f 0+sumN n λj=>f (j+1)
 |0=>by show 0+f 0=f 0+0;omega
 |n+1=>by
  show sumN (n+1) f+f (n+1)=f 0+(sumN n (λj=>f (j+1))+f (n+1));rw[QbT f n];omega
theorem QdO:∀{n:Nat}{f:Nat->Int},(∀j,j<n->f j=0)->sumN n f=0
 |0,_,_=>rfl
 |n+1,f,h=>by
  show sumN n f+f n=0;rw[QdO λj hj=>h j (by omega),h n (by omega)];rfl
theorem Qd9{α:Type}(g:α->Nat->Int)(n:Nat):∀a:List α,sumZ (λc=>sumN n (g c)) a=sumN n λj=>sumZ (λc=>g c j) a
 |[]=>(QdO λ_ _=>rfl).symm
 |c::a=>by
  show sumN n (g c)+sumZ _ a=sumN n λj=>g c j+sumZ (λc=>g c j) a
  rw[Qd9 g n a,QcC]
def Qkm(h:Nat):Nat->List Nat
 |0=>[]
 |i+1=>(h - 1 - i)::Qkm h i
def Qgn(w t:Nat):List Nat:=(Qp w).filter λc => !t.testBit c
theorem Qrc(w t c:Nat):Qgn w (t ||| 2^c)=wo1 (Qgn w t) c:=by
 unfold Qgn wo1;rw[Zd];refine J9 λd _=>?_
 rw[Qyj,Qoj,Bool.not_or,QdN]
 congr 1
 rw[show decide (c=d)=decide (d=c) from decide_eq_decide.mpr ⟨λe=>e.symm,λe=>e.symm⟩]
theorem QkH(w:Nat):Qgn w 0=Qp w:=by
 unfold Qgn;rw[Y1];intro c _;simp
theorem QrL(w:Nat)(f:Nat->Nat->Bool){r:Nat}:∀h,r<h->Qdt (cellsF h w f) r=Qde r w f
 |h+1,hr=>by
  unfold Qdt;rw[YJ,Qab];have no:∀(q:Nat)(L:List (Int×Int)),(∀p∈L,p.1≠(r:Int))->L.filter (λp=>decide (p.1=(r:Int)))=[]:=λq L hL=>by
   rw[ZU];intro p hp;rw[decide_eq_false (hL p hp)];exact Qi
  by_cases z:r<h
  ·have ih:=QrL w f h z;unfold Qdt at ih;rw[ih,no 0 _ λp hp=>?_,ZB];obtain⟨c,_,_,rfl⟩:=Qbe.mp hp;show(h:Int)≠r;omega
  ·have e:r=h:=by omega
   subst e;rw[no 0 (cellsF r w f) λp hp=>?_,QgF,Y1.mpr λp hp=>?_]
   ·obtain⟨c,_,_,rfl⟩:=Qbe.mp hp;exact decide_eq_true rfl
   ·have:=(Zh hp).2.1;omega
theorem QxU{h w r:Nat}(f:Nat->Nat->Bool)(hr:r<h):QkI (cellsF h w f) r=(Qp w).filter (f r):=by
 unfold QkI;rw[QrL w f h hr];unfold Qde;rw[QN]
 conv=>rhs;rw[<- Qdo ((Qp w).filter (f r))]
 exact JD λc _=>by show((c:Int)).toNat=c;omega
theorem QAu{h w:Nat}(f:Nat->Nat->Bool):∀(i t k:Nat),i<=h->Wc (cellsF h w f) h i t k=Pf f (Qkm h i) (Qgn w t) k
 |0,t,k,_=>rfl
 |i+1,t,k,hi=>by
  show Wc (cellsF h w f) h i t k+(if k=0 then 0 else Qn6 (Wc (cellsF h w f) h i) t (QkI (cellsF h w f) (h - 1 - i)) (k - 1))=Pf f (Qkm h i) (Qgn w t) k+(if k=0 then 0 else sumZ (λc=>Pf f (Qkm h i) (wo1 (Qgn w t) c) (k - 1)) ((Qgn w t).filter (f (h - 1 - i))));rw[QAu f i t k (by omega)]
  congr 1
  by_cases z:k=0
  ·rw[if_pos z,if_pos z]
  ·rw[if_neg z,if_neg z,QxU f (by omega)];have e:=QcD (Wc (cellsF h w f) h i) t (k - 1) (λc:Nat=>c) ((Qp w).filter (f (h - 1 - i)));rw[List.map_id'] at e;rw[e,Z7];show _=sumZ _ (((Qp w).filter λc => !t.testBit c).filter (f (h - 1 - i)));rw[QsX];refine JA λc _=>?_
   cases hb:t.testBit c with
   |true=>simp
   |false=>
    rw[if_neg Qi,if_pos (show(!false)=true from rfl),QAu f i (t ||| 2^c) (k - 1) (by omega),Qrc]
theorem QaW{h w:Nat}(f:Nat->Nat->Bool)(k:Nat):Wc (cellsF h w f) h h 0 k=Pf f (Qkm h h) (Qp w) k:=by
 rw[QAu f h 0 k (Qh _),QkH]
def oth(n:Nat)(o:List Nat):List Nat:=(Qp n).filter λx => !decide (x∈o)
theorem Qmr(n:Nat)(o:List Nat):(oth n o).length<=n:=by
 unfold oth;exact QX (Zi _ _) (by rw[QH];exact Qh _)
theorem Qpt(n:Nat)(o:List Nat)(x:Nat):oth n (o++[x])=wo1 (oth n o) x:=by
 unfold oth wo1;rw[Zd];refine J9 λd _=>?_
 rw[J6];simp[and_comm]
theorem QtZ(n:Nat):oth n []=Qp n:=by
 unfold oth;rw[Y1];intro x _;simp
def tNn(o:List Nat):PyData:=.tuple (Qew o)
def QzK:DF:=λargs R _=>∃(n:Nat)(o:List Nat),args=[.v (.int n),.v (tNn o)]/\n<=6/\R (.list (Qew (oth n o)))
end Rk
namespace HT
section
open PySem.SeqAt
open PySem.AutoSeq1 (wpAny_loadPart')
open PySem.MeetsSeq PySem.MeetsSeq2 PySem.MeetsSeq3
end
section
variable{prog:QC}{w:Jf}{A:Ja}{E:Value->Shared->Prop}{s:Shared}
end
end HT
namespace L2
end L2
namespace Rk
open L2 _root_.Rd Dl Rt
theorem Qht{A:Addr->Prop}{H:Hp}(dm:∀a,A a->∃xs,H a=some (.lst xs)):∀{ys:List V}{M:List (Int×Int)},Dats H ys (M.map pairD)->DAs A H ys (M.map pairD)
 |[],[],_=>.nil
 |y::ys,p::M,.cons q qs=>by
  refine .cons ?_ (Qht dm qs)
  cases q with
  |tup e q2=>
   refine .tup (λz=>?_) e ?_
   ·obtain⟨xs,e2⟩:=dm _ z;rw[e] at e2;cases e2
   ·cases q2 with
    |cons a b=>
     cases b with
     |cons b c=>cases c;cases a;cases b;exact .cons (.int _) (.cons (.int _) .nil)
@[irreducible] def sortPD:List PyData->(PyData->Prop)->Prop:=λds Q=>∃L:List (Int×Int),ds=[.list (L.map pairD)]/\L.Nodup/\L.length<64/\(∀p∈L,0<=p.2/\p.2<64)/\∀M:List (Int×Int),M.Perm L->M.Pairwise plt->Q (.list (M.map pairD))
theorem sortP_of{L:List (Int×Int)}{Q:PyData->Prop}(h1:L.Nodup)(h2:L.length<64)(h3:∀p∈L,0<=p.2/\p.2<64)(k:∀M:List (Int×Int),M.Perm L->M.Pairwise plt->Q (.list (M.map pairD))):sortPD [.list (L.map pairD)] Q:=by
 unfold sortPD;exact⟨L,rfl,h1,h2,h3,k⟩
theorem cd_sortP:Qbj QlZ sortPD:=λA P H vs ds R Q ln dm q h k=>by
 unfold sortPD at h;obtain⟨L,rfl,h1,h2,h3,hR⟩:=h;obtain⟨v,rfl,hv⟩:=pd1 q;obtain⟨l,xs,rfl,e,qq⟩:=hv.list;refine⟨l,xs,L,rfl,e,QaO _ _ (Qa7 L) qq,h1,h2,h3,λt ys M H2 s n e2 dts pm pw=>?_⟩;have dm2:∀a,A a->∃xs,H2 a=some (.lst xs):=λa z=>by obtain⟨xs,e⟩:=dm a z;exact⟨xs,s _ _ e⟩
 have pl:M.Pairwise plt:=by
  have hb:∀p∈M,0<=p.2/\p.2<64:=λp hp=>h3 p (pm.mem_iff.mp hp)
  refine Yz (λ{a b} ha hb' hc=>?_) pw;have:=hb a ha;have:=hb b hb';have hc:64*a.1+a.2<64*b.1+b.2:=hc;show a.1<b.1∨(a.1=b.1/\a.2<b.2);omega
 refine k _ (hR M pm pl) _ H2 s (.lst (λz=>?_) e2 (Qht dm2 dts)) (QaD n);obtain⟨xs,e⟩:=dm t z;rw[n] at e;cases e
end Rk
namespace Dl
open L2 _root_.Rd Rk Rt
end Dl
namespace Rk
open L2 _root_.Rd Dl Rt
def tF(f:Nat->Nat->Bool):Nat->Nat->Bool:=λr c=>f c r
theorem Qh3{c:Nat}{C:List Nat}(h:c∉C):wo1 (c::C) c=C:=by
 have e:wo1 (c::C) c=wo1 C c:=by unfold wo1;rw[Jp (by simp)]
 rw[e,QvP h]
theorem Qh4{c d:Nat}{C:List Nat}(h:c≠d):wo1 (c::C) d=c::wo1 C d:=by
 unfold wo1;rw[Jy (by simp[h])]
theorem QvQ{c d:Nat}{C:List Nat}(h:c∉C):c∉wo1 C d:=λz=>h (QbL.mp z).1
theorem QnY(f:Nat->Nat->Bool):∀(R:List Nat)(c:Nat)(C:List Nat)(k:Nat),R.Nodup->c∉C->Pf f R (c::C) k=Pf f R C k+(if k=0 then 0 else sumZ (λr=>Pf f (wo1 R r) C (k - 1)) (R.filter λr=>f r c))
 |[],c,C,k,_,_=>by
  show(if k=0 then(1:Int) else 0)=(if k=0 then 1 else 0)+(if k=0 then 0 else 0);split<;>rfl
 |r::R,c,C,k,nd,hc=>by
  have nd:=Zn.mp nd;by_cases zk:k=0
  ·subst zk;rw[Yn,Yn];rfl
  ·obtain⟨k,rfl⟩:∃j,k=j+1:=⟨k - 1,by omega⟩
   show Pf f R (c::C) (k+1)+(if k+1=0 then 0 else sumZ (λd=>Pf f R (wo1 (c::C) d) (k+1 - 1)) ((c::C).filter (f r)))=Pf f R C (k+1)+(if k+1=0 then 0 else sumZ (λd=>Pf f R (wo1 C d) (k+1 - 1)) (C.filter (f r)))+(if k+1=0 then 0 else sumZ (λq=>Pf f (wo1 (r::R) q) C (k+1 - 1)) ((r::R).filter λq=>f q c));rw[if_neg zk,if_neg zk,if_neg zk,Ze,QnY f R c C (k+1) nd.2 hc,if_neg zk,Ze];have a1:sumZ (λd=>Pf f R (wo1 (c::C) d) k) ((c::C).filter (f r))=(if f r c=true then Pf f R C k else 0)+sumZ (λd=>Pf f R (wo1 C d) k+(if k=0 then 0 else sumZ (λq=>Pf f (wo1 R q) (wo1 C d) (k - 1)) (R.filter λq=>f q c))) (C.filter (f r)):=by
    have tl:sumZ (λd=>Pf f R (wo1 (c::C) d) k) (C.filter (f r))=sumZ (λd=>Pf f R (wo1 C d) k+(if k=0 then 0 else sumZ (λq=>Pf f (wo1 R q) (wo1 C d) (k - 1)) (R.filter λq=>f q c))) (C.filter (f r)):=JA λd hd=>by
     have hd:=(Qz.mp hd).1;rw[Qh4 (λe=>hc (by rw[e];exact hd)),QnY f R c (wo1 C d) k nd.2 (QvQ hc)]
    by_cases z:f r c=true
    ·rw[Jy z,if_pos z,<- tl];show Pf f R (wo1 (c::C) c) k+_=_;rw[Qh3 hc]
    ·rw[Jp z,if_neg z,Y4,tl]
   have a2:sumZ (λq=>Pf f (wo1 (r::R) q) C k) ((r::R).filter λq=>f q c)=(if f r c=true then Pf f R C k else 0)+sumZ (λq=>Pf f (wo1 R q) C k+(if k=0 then 0 else sumZ (λd=>Pf f (wo1 R q) (wo1 C d) (k - 1)) (C.filter (f r)))) (R.filter λq=>f q c):=by
    have tl:sumZ (λq=>Pf f (wo1 (r::R) q) C k) (R.filter λq=>f q c)=sumZ (λq=>Pf f (wo1 R q) C k+(if k=0 then 0 else sumZ (λd=>Pf f (wo1 R q) (wo1 C d) (k - 1)) (C.filter (f r)))) (R.filter λq=>f q c):=JA λq hq=>by
     have hq:=(Qz.mp hq).1;rw[Qh4 (λe=>nd.1 (by rw[e];exact hq))];rfl
    by_cases z:f r c=true
    ·rw[Jy (p:=λq=>f q c) z,if_pos z,<- tl];show Pf f (wo1 (r::R) r) C k+_=_;rw[Qh3 nd.1]
    ·rw[Jp (p:=λq=>f q c) z,if_neg z,Y4,tl]
   rw[a1,a2,QbS,QbS];have sw:sumZ (λd=>if k=0 then 0 else sumZ (λq=>Pf f (wo1 R q) (wo1 C d) (k - 1)) (R.filter λq=>f q c)) (C.filter (f r))=sumZ (λq=>if k=0 then 0 else sumZ (λd=>Pf f (wo1 R q) (wo1 C d) (k - 1)) (C.filter (f r))) (R.filter λq=>f q c):=by
    by_cases z:k=0
    ·rw[JA (g:=λ_=>0) λ_ _=>if_pos z,sumZ_zero,JA (g:=λ_=>0) λ_ _=>if_pos z,sumZ_zero]
    ·rw[JA λd _=>if_neg z,QgW];exact(JA λq _=>if_neg z).symm
   rw[sw];omega
theorem Qdn(f:Nat->Nat->Bool):∀(C R:List Nat)(k:Nat),C.Nodup->R.Nodup->Pf f R C k=Pf (tF f) C R k
 |[],R,k,_,_=>by
  show _=if k=0 then(1:Int) else 0
  by_cases z:k=0
  ·subst z;rw[Yn];rfl
  ·rw[if_neg z,QgA f R [] k .nil (by show 0<k;omega)]
 |c::C,R,k,nC,nR=>by
  have nC:=Zn.mp nC;rw[QnY f R c C k nR nC.1,Qdn f C R k nC.2 nR];show _=Pf (tF f) C R k+(if k=0 then 0 else sumZ (λd=>Pf (tF f) C (wo1 R d) (k - 1)) (R.filter (tF f c)))
  congr 1
  by_cases z:k=0
  ·rw[if_pos z,if_pos z]
  ·rw[if_neg z,if_neg z];exact JA λr _=>Qdn f C (wo1 R r) (k - 1) nC.2 (QmP nR r)
theorem QaM:∀n:Fin 7,Qkm n n=Qp n:=by decide +kernel
end Rk
namespace Rm
open AutoSeq1 (wpAny_loadPart')
open MeetsSeq
end Rm
namespace L2
open _root_.Rd
section
variable{X:Cx}
end
end L2
namespace Dl
open L2 _root_.Rd Rk Rt
section
variable{X:Cx}{E:XK}{st:ZY}{i:Nat}{we:DE}
end
end Dl
namespace Rk
open L2 _root_.Rd Dl Rt
theorem Qoy{α:Type}{F:α->Int}{l m:List α}(p:l.Perm m):(l.map F).sum=(m.map F).sum:=by
 induction p with
 |nil=>rfl
 |cons x _ ih=>rw[JF,JF,QbQ,QbQ,ih]
 |swap x y l=>simp only[JF,QbQ];omega
 |trans _ _ h1 h2=>exact h1.trans h2
theorem Qlv{α:Type}{F:α->Int}{l m:List α}(p:l.Perm m):sumZ F l=sumZ F m:=by
 induction p with
 |nil=>rfl
 |cons x _ ih=>show F x+sumZ F _=F x+sumZ F _;rw[ih]
 |swap x y l=>show F y+(F x+sumZ F l)=F x+(F y+sumZ F l);omega
 |trans _ _ h1 h2=>exact h1.trans h2
theorem QeL(f:Nat->Nat->Bool):∀(R C D:List Nat)(k:Nat),C.Perm D->Pf f R C k=Pf f R D k
 |[],_,_,_,_=>rfl
 |r::R,C,D,k,p=>by
  show Pf f R C k+(if k=0 then 0 else sumZ (λc=>Pf f R (wo1 C c) (k - 1)) (C.filter (f r)))=Pf f R D k+(if k=0 then 0 else sumZ (λc=>Pf f R (wo1 D c) (k - 1)) (D.filter (f r)));rw[QeL f R C D k p,Qlv (p.filter (f r)),JA λc _=>QeL f R (wo1 C c) (wo1 D c) (k - 1) (p.filter _)]
theorem Qd1(f:Nat->Nat->Bool){R S C:List Nat}(k:Nat)(p:R.Perm S)(nR:R.Nodup)(nC:C.Nodup):Pf f R C k=Pf f S C k:=by
 rw[Qdn f C R k nC nR,Qdn f C S k nC (p.nodup_iff.mp nR),QeL (tF f) C R S k p]
theorem Qrz{g:Nat->Nat}:∀{C:List Nat}{c:Nat},(∀x∈C,∀y∈c::C,g x=g y->x=y)->(wo1 C c).map g=wo1 (C.map g) (g c)
 |[],_,_=>rfl
 |x::C,c,h=>by
  have ih:=Qrz (g:=g) (C:=C) (c:=c) λa ha b hb e=>h a (.tail _ ha) b (by
   rcases Qy.mp hb with z | z
   ·rw[z];exact .head _
   ·exact .tail _ (.tail _ z)) e
  unfold wo1 at ih ⊢;by_cases z:x=c
  ·rw[Jp (by simp[z]),JF,Jp (by simp[z]),ih]
  ·have gz:g x≠g c:=λe=>z (h x (.head _) c (.head _) e)
   rw[Jy (by simp[z]),JF,JF,Jy (by simp[gz]),ih]
theorem QjS(f:Nat->Nat->Bool)(p q:Nat->Nat):∀(R C:List Nat)(k:Nat),(∀x∈C,∀y∈C,q x=q y->x=y)->Pf (λr c=>f (p r) (q c)) R C k=Pf f (R.map p) (C.map q) k
 |[],_,_,_=>rfl
 |r::R,C,k,h=>by
  show Pf (λr c=>f (p r) (q c)) R C k+(if k=0 then 0 else sumZ (λc=>Pf (λr c=>f (p r) (q c)) R (wo1 C c) (k - 1)) (C.filter λc=>f (p r) (q c)))=Pf f (R.map p) (C.map q) k+(if k=0 then 0 else sumZ (λc=>Pf f (R.map p) (wo1 (C.map q) c) (k - 1)) ((C.map q).filter (f (p r))));rw[QjS f p q R C k h]
  congr 1
  by_cases z:k=0
  ·rw[if_pos z,if_pos z]
  ·rw[if_neg z,if_neg z,Qvu];have e:∀l:List Nat,(∀c∈l,c∈C)->sumZ (λc=>Pf (λr c=>f (p r) (q c)) R (wo1 C c) (k - 1)) l=sumZ (λc=>Pf f (R.map p) (wo1 (C.map q) c) (k - 1)) (l.map q):=λl=>by
    induction l with
    |nil=>intro _;rfl
    |cons c l ih=>
     intro hl;have hc:=hl c (.head _);show Pf (λr c=>f (p r) (q c)) R (wo1 C c) (k - 1)+sumZ _ l=Pf f (R.map p) (wo1 (C.map q) (q c)) (k - 1)+sumZ _ (l.map q);rw[ih λd hd=>hl d (.tail _ hd),QjS f p q R (wo1 C c) (k - 1) λx hx y hy=>h x (QbL.mp hx).1 y (QbL.mp hy).1,Qrz λx hx y hy=>h x hx y (by
      rcases Qy.mp hy with z | z
      ·rw[z];exact hc
      ·exact z)]
   exact e _ λc hc=>(Qz.mp hc).1
theorem Qhp{o:List Nat}{n:Nat}(h:o.length=n):(Qp n).map (λr=>o.getD r 0)=o:=by
 subst h;refine Zw λk=>?_
 rw[Qo];by_cases z:k<o.length
 ·rw[Ji z,Qe z];show some (o.getD k 0)=_;rw[Qd,Qe z];rfl
 ·rw[QJ (by rw[QH];omega),QJ (by omega)];rfl
theorem QAa{h w:Nat}{cs:List (Int×Int)}(g:GB h w cs)(p:Int×Int):GB h w (wo cs p):=⟨g.bds.wo p,g.srt.filter _,by
 rw[QrF];exact QX (Zi _ _) g.few⟩
theorem Qdg{h w:Nat}{cs:List (Int×Int)}(g:GB h w cs){k:Nat}:0<Wc cs h h 0 k↔∃L,Std cs L/\L.length=k:=by
 rw[Qdl g];constructor
 ·intro hp;have hl:0<(evS cs k).length:=by omega
  exact⟨_,(Qdz g.r0 k _).mp (ZF hl)⟩
 ·rintro⟨L,st,lk⟩;have:=Qb7 ((Qdz g.r0 k L).mpr ⟨st,lk⟩);omega
theorem Qj5{h w:Nat}{cs:List (Int×Int)}(g:GB h w cs)(k:Nat):0<=Wc cs h h 0 k:=by rw[Qdl g];omega
theorem Qhq{h w m:Nat}{cs L:List (Int×Int)}(g:GB h w cs)(gm:Great cs h w m)(st:Std cs L):L.length<=m:=gm.2.2 _ (Qid g st) ((Qdg g).mpr ⟨L,st,rfl⟩)
def Qcc(p q:Int×Int):Bool:=decide (p.1=q.1)||decide (p.2=q.2)
theorem Qd0{p q:Int×Int}(h:Qcc p q=true):Qcc q p=true:=by
 unfold Qcc at h ⊢;rw[Qcv,decide_eq_true_eq,decide_eq_true_eq] at h ⊢;exact h.elim (λe=>.inl e.symm) λe=>.inr e.symm
inductive Rch (cs:List (Int×Int)):(Int×Int)->(Int×Int)->Prop
 |refl {a:Int×Int}:a∈cs->Rch cs a a
 |step {a b c:Int×Int}:Rch cs a b->c∈cs->Qcc b c=true->Rch cs a c
theorem Rch.left{cs:List (Int×Int)}{a b:Int×Int}(h:Rch cs a b):a∈cs:=by
 induction h with
 |refl h=>exact h
 |step _ _ _ ih=>exact ih
theorem Rch.right{cs:List (Int×Int)}{a b:Int×Int}(h:Rch cs a b):b∈cs:=by
 cases h with
 |refl h=>exact h
 |step _ h _=>exact h
theorem Rch.trans{cs:List (Int×Int)}{a b c:Int×Int}(h:Rch cs a b)(k:Rch cs b c):Rch cs a c:=by
 induction k with
 |refl _=>exact h
 |step _ h1 h2 ih=>exact .step ih h1 h2
theorem Rch.symm{cs:List (Int×Int)}{a b:Int×Int}(h:Rch cs a b):Rch cs b a:=by
 induction h with
 |refl h=>exact .refl h
 |step h1 h2 h3 ih=>exact Rch.trans (.step (.refl h2) h1.right (Qd0 h3)) ih
theorem Rch.mono{cs ds:List (Int×Int)}(s:∀p∈cs,p∈ds){a b:Int×Int}(h:Rch cs a b):Rch ds a b:=by
 induction h with
 |refl h=>exact .refl (s _ h)
 |step _ h2 h3 ih=>exact .step ih (s _ h2) h3
theorem QrW{p q:Int×Int}(h:plt p q)(k:plt q p):False:=by
 obtain⟨a,b⟩:=p;obtain⟨c,d⟩:=q;have h:a<c∨(a=c/\b<d):=h;have k:c<a∨(c=a/\d<b):=k;omega
theorem Qf0{S T:List (Int×Int)}(hs:S.Pairwise plt)(ht:T.Pairwise plt)(h:∀y,y∈S↔y∈T):S=T:=by
 have p:S.Perm T:=(Je (hs.imp plt_ne) (ht.imp plt_ne)).mpr h;exact Zy (le:=plt) (λa b _ _ h1 h2=>(QrW h1 h2).elim) hs ht p
structure Pce (cs S:List (Int×Int)):Prop where
 srt:S.Pairwise plt
 has:∃x,x∈cs/\∀y,y∈S↔Rch cs x y
theorem Pce.same{cs S T:List (Int×Int)}(hs:Pce cs S)(ht:Pce cs T){y:Int×Int}(h1:y∈S)(h2:y∈T):S=T:=by
 obtain⟨a,_,ha⟩:=hs.has;obtain⟨b,_,hb⟩:=ht.has;have ab:=((ha y).mp h1).trans ((hb y).mp h2).symm;exact Qf0 hs.srt ht.srt λz=>by
  rw[ha,hb];exact⟨λq=>ab.symm.trans q,λq=>ab.trans q⟩
theorem Pce.ne{cs S:List (Int×Int)}(h:Pce cs S):S≠[]:=λe=>by
 obtain⟨a,ha,hh⟩:=h.has;have:=(hh a).mpr (.refl ha);rw[e] at this;cases this
end Rk
namespace Dl
open L2 _root_.Rd Rk
@[irreducible] def QyC(t:DT)(wb:DS)(D:QeN)(δ:Sts):Prop:=∃Iv:Nat->Sts->Prop,(∃m,Iv m δ)/\∀m δ,Iv m δ->t δ (λb=>if b=true then wb { D with nx:=λδ'=>∃m',m'<m/\Iv m' δ',ct:=λδ'=>∃m',m'<m/\Iv m' δ',bk:=D.nx } δ else D.nx δ) D.ex
def Qnt(t:DT)(wb:DS):DS:=λD δ=>QyC t wb D δ
section
variable{X:Cx}{E:XK}
theorem Qmi{c:Q1}{body:List ZY}{pos:Pos}{t:DT}{wb:DS}(hp:QfA (model X.prog X.w) X.A X.env X.xe)(hc:PT X c (tT X.K E t))(hb:PSs X body (tS X.K E wb)):PS X (.While c body [] pos) (tS X.K E (Qnt t wb)):=by
 refine PS.imp (QoX hp hc hb) λD σ H ⟨F,δ,DD,rel,hw,en⟩=>?_
 unfold Qnt QyC at hw;obtain⟨Iv,⟨m0,i0⟩,step⟩:=hw;refine⟨λm σ' H'=>∃δ',Iv m δ'/\Rel X.K F σ' H' δ'/\Stp F σ H δ σ' H' δ',⟨m0,δ,i0,rel,Stp.refl⟩,?_⟩;rintro m σ' H' ⟨δ',iv,r',st'⟩;refine⟨F,δ',_,DD.ex,r',step m δ' iv,λb hb H1 rel1 kp1=>?_,en.ex⟩;have st1:Stp F σ H δ σ' H1 δ':=st'.trans (Stp.kp kp1);cases b with
 |true=>
  rw[if_pos rfl] at hb;show if true=true then _ else _
  rw[if_pos rfl];refine⟨λσ2 H2=>∃δ2,(∃m',m'<m/\Iv m' δ2)/\Rel X.K F σ2 H2 δ2/\Stp F σ H δ σ2 H2 δ2,λσ2 H2 ⟨δ2,⟨m',hm,h2⟩,r2,s2⟩=>⟨m',hm,δ2,h2,r2,s2⟩,F,δ',_,rel1,hb,?_⟩;exact⟨⟨λδ6 h6 σ6 H6 r6 s6=>⟨δ6,h6,r6,st1.trans s6⟩⟩,en.rt,en.rtF,(en.step st1).nx,⟨λδ6 h6 σ6 H6 r6 s6=>⟨δ6,h6,r6,st1.trans s6⟩⟩,en.ex⟩
 |false=>
  rw[if_neg Qi] at hb;show if false=true then _ else _
  rw[if_neg Qi];exact(en.step st1).nx.go δ' hb σ' H1 rel1 Stp.refl
theorem QdU{c:Q1}{body:List ZY}{pos:Pos}{t:DT}{wb:DS}(hp:QfA (model X.prog X.w) X.A X.env X.xe)(hc:QT X E c t)(hb:QSs X E body wb):QS X E (.While c body [] pos) (Qnt t wb):=⟨Qmi hp hc.h hb.h⟩
end
theorem Qi4{t:DT}{wb:DS}{D:QeN}{δ:Sts}(Iv:Nat->Sts->Prop)(m0:Nat)(h0:Iv m0 δ)
  (hs:∀m δ,Iv m δ->t δ (λb=>if b=true then wb { D with nx:=λδ'=>∃m',m'<m/\Iv m' δ',ct:=λδ'=>∃m',m'<m/\Iv m' δ',bk:=D.nx } δ else D.nx δ) D.ex):QyC t wb D δ:=by
 unfold QyC;exact⟨Iv,⟨m0,h0⟩,hs⟩
end Dl
namespace Rk
open L2 _root_.Rd Dl Rt
theorem Qly{P cells:List (Int×Int)}(nd:P.Nodup)(nc:cells.Nodup)(h:∀p∈P,p∈cells):P.length<=cells.length:=by
 have p:(cells.filter λc=>decide (c∈P)).Perm P:=(Je (JM _ nc) nd).mpr λy=>by
  rw[Qz,decide_eq_true_eq];exact⟨λq=>q.2,λq=>⟨h y q,q⟩⟩
 rw[<- p.length_eq];exact Zi _ _
structure Srch (cells:List (Int×Int)) (x:Int×Int) (P N:List (Int×Int)):Prop where
 nd:P.Nodup
 reach:∀p∈P,Rch cells x p
 has:x∈P
 sub:∀n∈N,n∈P
 fr:∀y∈P,y∉N->∀o∈cells,Qcc o y=true->o∈P
def Qr3(cells P N:List (Int×Int)):List (Int×Int):=cells.filter λo => !decide (o∈P)&&N.any λq=>Qcc o q
theorem Srch.start{cells:List (Int×Int)}{x:Int×Int}(h:x∈cells):Srch cells x [x] [x]:=⟨by simp,λp hp=>by rw[Qx.mp hp];exact .refl h,by simp,λn hn=>hn,λy hy hn=>absurd hy hn⟩
theorem Srch.step{cells:List (Int×Int)}{x:Int×Int}{P N:List (Int×Int)}(h:Srch cells x P N)(nc:cells.Nodup):Srch cells x (P++Qr3 cells P N) (Qr3 cells P N):=by
 have hin:∀{o:Int×Int},o∈Qr3 cells P N↔o∈cells/\o∉P/\∃n∈N,Qcc o n=true:=λ{o}=>by
  unfold Qr3;rw[Qz,JH,Yj];constructor
  ·rintro⟨a,b,c⟩;exact⟨a,by simpa using b,c⟩
  ·rintro⟨a,b,c⟩;exact⟨a,by simpa using b,c⟩
 refine⟨Zv.mpr ⟨h.nd,JM _ nc,λa ha b hb e=>?_⟩,λp hp=>?_,JT _ h.has,λn hn=>Qu _ hn,λy hy hn o ho ha=>?_⟩
 ·rw[e] at ha;exact(hin.mp hb).2.1 ha
 ·rcases Q0.mp hp with q | q
  ·exact h.reach p q
  ·obtain⟨a,_,n,hn,hadj⟩:=hin.mp q;exact .step (h.reach n (h.sub n hn)) a (Qd0 hadj)
 ·rcases Q0.mp hy with q | q
  ·by_cases z:y∈N
   ·by_cases w:o∈P
    ·exact JT _ w
    ·exact Qu _ (hin.mpr ⟨ho,w,y,z,ha⟩)
   ·exact JT _ (h.fr y q z o ho ha)
  ·exact absurd q hn
theorem Srch.done{cells:List (Int×Int)}{x:Int×Int}{P:List (Int×Int)}(h:Srch cells x P [])(y:Int×Int):y∈P↔Rch cells x y:=by
 constructor
 ·exact h.reach y
 ·intro r;induction r with
  |refl _=>exact h.has
  |step r1 h2 h3 ih=>exact h.fr _ ih (by simp) _ h2 (Qd0 h3)
structure Wlk (cs:List (Int×Int)) (T:List (List (Int×Int))) (left:List (Int×Int)):Prop where
 srt:left.Pairwise plt
 sub:∀p∈left,p∈cs
 cl:∀x∈left,∀y,Rch cs x y->y∈left
 pc:∀L∈T,Pce cs L
 cov:∀y∈cs,y∈left∨∃L∈T,y∈L
 ord:T.Pairwise QkZ
 hd:∀L∈T,∃p r,L=p::r/\∀y∈left,plt p y
theorem Wlk.start{cs:List (Int×Int)}(h:cs.Pairwise plt):Wlk cs [] cs:=⟨h,λp hp=>hp,λx _ y r=>r.right,λL hL=>(nomatch hL),λy hy=>.inl hy,.nil,λL hL=>(nomatch hL)⟩
theorem Wlk.rch{cs:List (Int×Int)}{T:List (List (Int×Int))}{left:List (Int×Int)}(h:Wlk cs T left){x y:Int×Int}(hx:x∈left)(r:Rch cs x y):Rch left x y:=by
 induction r with
 |refl _=>exact .refl hx
 |step r1 h2 h3 ih=>exact .step ih (h.cl x hx _ (.step r1 h2 h3)) h3
theorem Wlk.step{cs:List (Int×Int)}{T:List (List (Int×Int))}{x:Int×Int}{left M:List (Int×Int)}(h:Wlk cs T (x::left))(ms:M.Pairwise plt)(mm:∀y,y∈M↔Rch (x::left) x y):Wlk cs (T++[M]) ((x::left).filter λc => !decide (c∈M)):=by
 have mc:∀y,y∈M↔Rch cs x y:=λy=>by
  rw[mm];exact⟨λr=>r.mono h.sub,λr=>h.rch (.head _) r⟩
 have xl:∀y∈left,plt x y:=(QdL.mp h.srt).1
 have fin:∀{y:Int×Int},y∈(x::left).filter (λc => !decide (c∈M))↔y∈x::left/\y∉M:=λ{y}=>by
  rw[Qz];constructor
  ·rintro⟨a,b⟩;exact⟨a,by simpa using b⟩
  ·rintro⟨a,b⟩;exact⟨a,by simpa using b⟩
 have xM:x∈M:=(mm x).mpr (.refl (.head _));obtain⟨r,eM⟩:∃r,M=x::r:=by
  cases e:M with
  |nil=>rw[e] at xM;cases xM
  |cons p r=>
   rw[e] at ms xM;rcases Qy.mp xM with z | z
   ·exact⟨r,by rw[z]⟩
   ·have p1:plt p x:=(QdL.mp ms).1 x z;have pl:p∈x::left:=((mm p).mp (by rw[e];exact .head _)).right;rcases Qy.mp pl with w | w
    ·rw[w] at p1;exact absurd rfl (plt_ne p1)
    ·exact(QrW p1 (xl p w)).elim
 refine⟨JM _ h.srt,λp hp=>h.sub p (fin.mp hp).1,λa ha y ry=>?_,λL hL=>?_,λy hy=>?_,?_,λL hL=>?_⟩
 ·obtain⟨a1,a2⟩:=fin.mp ha;exact fin.mpr ⟨h.cl a a1 y ry,λz=>a2 ((mc a).mpr (((mc y).mp z).trans ry.symm))⟩
 ·rcases Q0.mp hL with z | z
  ·exact h.pc L z
  ·rw[Qx.mp z];exact⟨ms,x,h.sub x (.head _),mc⟩
 ·rcases h.cov y hy with z | ⟨L,hL,z⟩
  ·by_cases w:y∈M
   ·exact .inr ⟨M,by simp,w⟩
   ·exact .inl (fin.mpr ⟨z,w⟩)
  ·exact .inr ⟨L,JT _ hL,z⟩
 ·refine ZI.mpr ⟨h.ord,QbR _ _,λL hL S hS=>?_⟩;rw[Qx.mp hS,eM];obtain⟨p,q,rfl,hp⟩:=h.hd L hL;exact .inl (hp x (.head _))
 ·rcases Q0.mp hL with z | z
  ·obtain⟨p,q,e,hp⟩:=h.hd L z;exact⟨p,q,e,λy hy=>hp y (fin.mp hy).1⟩
  ·rw[Qx.mp z];refine⟨x,r,eM,λy hy=>?_⟩;obtain⟨y1,y2⟩:=fin.mp hy;rcases Qy.mp y1 with w | w
   ·rw[w] at y2;exact absurd xM y2
   ·exact xl y w
theorem Wlk.done{cs:List (Int×Int)}{T:List (List (Int×Int))}(h:Wlk cs T []):∀y∈cs,∃L∈T,y∈L:=λy hy=>(h.cov y hy).elim (λz=>nomatch z) id
def SB2(cs:List (Int×Int)):Prop:=cs.Pairwise plt/\cs.length<=36/\∀p∈cs,0<=p.2/\p.2<64
def QmU:DF:=λargs R _=>∃(c:Int×Int)(L:List (Int×Int)),args=[.v (pairD c),.v (.list (L.map pairD))]/\R (.bool (L.any λq=>Qcc c q))
def Qio:DF:=λargs R _=>∃(x:Int×Int)(cells:List (Int×Int)),args=[.v (pairD x),.v (.list (cells.map pairD))]/\x∈cells/\SB2 cells/\∀M,M.Pairwise plt->(∀y,y∈M↔Rch cells x y)->R (stT M)
def Qf1:DF:=λargs R _=>∃(h w:Int)(cs:List (Int×Int)),args=[.v (bdD h w cs)]/\SB2 cs/\∀T:List (List (Int×Int)),(∀L∈T,Pce cs L)->(∀y∈cs,∃L∈T,y∈L)->T.Pairwise QkZ->R (.list (T.map stT))
theorem QaX(f:Nat->Nat->Bool)(r:Nat)(R C:List Nat)(k:Nat):Pf f (r::R) C k=Pf f R C k+(if k=0 then 0 else sumZ (λc=>Pf f R (wo1 C c) (k - 1)) (C.filter (f r))):=rfl
theorem Qbi{f g:Nat->Nat->Bool}:∀{R C:List Nat}{k:Nat},(∀r∈R,∀c∈C,f r c=g r c)->Pf f R C k=Pf g R C k
 |[],_,_,_=>rfl
 |r::R,C,k,h=>by
  rw[QaX,QaX,Qbi λr' hr'=>h r' (.tail _ hr'),J9 λc hc=>h r (.head _) c hc,JA λc _=>Qbi λr' hr' d hd=>h r' (.tail _ hr') d (QbL.mp hd).1]
theorem Qgy{f:Nat->Nat->Bool}{r:Nat}{R C:List Nat}{k:Nat}(h:∀c∈C,f r c=false):Pf f (r::R) C k=Pf f R C k:=by
 rw[QaX,ZU.mpr λc hc=>by rw[h c hc];exact Qi];show _+(if k=0 then 0 else 0)=_;split<;>omega
theorem Qgz{f:Nat->Nat->Bool}:∀{R C:List Nat}{c k:Nat},(∀r∈R,f r c=false)->Pf f R (wo1 C c) k=Pf f R C k
 |[],_,_,_,_=>rfl
 |r::R,C,c,k,h=>by
  have ih:=λC' k'=>Qgz (C:=C') (k:=k') λr' hr'=>h r' (.tail _ hr')
  have e:(wo1 C c).filter (f r)=C.filter (f r):=by
   unfold wo1;rw[Zd];refine J9 λd _=>?_
   by_cases z:d=c
   ·subst z;rw[h r (.head _)];rfl
   ·simp[z]
  rw[QaX,QaX,ih,e,JA λd _=>by rw[QsK,ih]]
theorem Qlw(k:Nat):(sumN (k+1) λj=>(if j=0 then(1:Int) else 0)*(if k - j=0 then 1 else 0))=if k=0 then 1 else 0:=by
 rw[QbT,QdO λj _=>by rw[if_neg (by omega:¬j+1=0)];omega];rw[if_pos rfl,Qk8];split<;>rfl
theorem Qgx{fA fB:Nat->Nat->Bool}:∀{R C:List Nat}{k:Nat},(∀r∈R,(∀c∈C,fB r c=false)∨∀c∈C,fA r c=false)->(∀c∈C,(∀r∈R,fB r c=false)∨∀r∈R,fA r c=false)->Pf (λr c=>fA r c||fB r c) R C k=sumN (k+1) λj=>Pf fA R C j*Pf fB R C (k - j)
 |[],C,k,_,_=>by
  show(if k=0 then(1:Int) else 0)=sumN (k+1) λj=>(if j=0 then(1:Int) else 0)*(if k - j=0 then 1 else 0)
  rw[Qlw]
 |r::R,C,k,hr,hc=>by
  have ih:=λC' k' (s:∀c∈C',c∈C)=>Qgx (fA:=fA) (fB:=fB) (R:=R) (C:=C') (k:=k') (λr' hr'=>(hr r' (.tail _ hr')).imp (λz c h=>z c (s c h)) λz c h=>z c (s c h)) (λc h=>(hc c (s c h)).imp (λz r' hr'=>z r' (.tail _ hr')) λz r' hr'=>z r' (.tail _ hr'))
  have ih0:=ih C k λc h=>h
  have ih1:=λc k'=>ih (wo1 C c) k' λd hd=>(QbL.mp hd).1
  rw[QaX,ih0];rcases hr r (.head _) with z | z
  ·have eB:∀i,Pf fB (r::R) C i=Pf fB R C i:=λi=>Qgy z
   have ef:C.filter (λc=>fA r c||fB r c)=C.filter (fA r):=J9 λc hc=>by rw[z c hc,Qi1]
   rw[ef];by_cases k0:k=0
   ·subst k0;show _+0=sumN 1 _;show(0+Pf fA R C 0*Pf fB R C 0)+0=0+Pf fA (r::R) C 0*Pf fB (r::R) C 0;rw[Yn,Yn,Yn,Yn];rfl
   ·obtain⟨k,rfl⟩:∃j,k=j+1:=⟨k - 1,by omega⟩
    rw[if_neg k0,Ze];have e1:sumZ (λc=>Pf (λr c=>fA r c||fB r c) R (wo1 C c) k) (C.filter (fA r))=sumN (k+1) λj=>sumZ (λc=>Pf fA R (wo1 C c) j) (C.filter (fA r))*Pf fB R C (k - j):=by
     rw[JA (g:=λc=>sumN (k+1) λj=>Pf fA R (wo1 C c) j*Pf fB R C (k - j)) λc hcf=>?_,Qd9]
     ·exact Z0 λj _=>Qjb _ _ _
     ·have hcf:=Qz.mp hcf;rw[ih1];refine Z0 λj _=>?_
      rw[Qgz (f:=fB) (C:=C) (c:=c) λr' hr'=>((hc c hcf.1).resolve_right λy=>by rw[y r (.head _)] at hcf;exact absurd hcf.2 Qi) r' (.tail _ hr')]
    rw[e1,QbT (λj=>Pf fA (r::R) C j*Pf fB (r::R) C (k+1 - j)) (k+1),QbT (λj=>Pf fA R C j*Pf fB R C (k+1 - j)) (k+1),Yn,Yn,eB];have e2:(sumN (k+1) λj=>Pf fA (r::R) C (j+1)*Pf fB (r::R) C (k+1 - (j+1)))=(sumN (k+1) λj=>Pf fA R C (j+1)*Pf fB R C (k+1 - (j+1)))+sumN (k+1) λj=>sumZ (λc=>Pf fA R (wo1 C c) j) (C.filter (fA r))*Pf fB R C (k - j):=by
     rw[<- QcC];refine Z0 λj _=>?_
     rw[eB,QaX,if_neg (by omega),Ze,Int.add_mul,Nat.add_sub_add_right]
    rw[e2];omega
  ·have eA:∀i,Pf fA (r::R) C i=Pf fA R C i:=λi=>Qgy z
   have ef:C.filter (λc=>fA r c||fB r c)=C.filter (fB r):=J9 λc hc=>by rw[z c hc,Qi2]
   rw[ef];by_cases k0:k=0
   ·subst k0;show(0+Pf fA R C 0*Pf fB R C 0)+0=0+Pf fA (r::R) C 0*Pf fB (r::R) C 0;rw[Yn,Yn,Yn,Yn];rfl
   ·obtain⟨k,rfl⟩:∃j,k=j+1:=⟨k - 1,by omega⟩
    rw[if_neg k0,Ze];have e1:sumZ (λc=>Pf (λr c=>fA r c||fB r c) R (wo1 C c) k) (C.filter (fB r))=sumN (k+1) λj=>Pf fA R C j*sumZ (λc=>Pf fB R (wo1 C c) (k - j)) (C.filter (fB r)):=by
     rw[JA (g:=λc=>sumN (k+1) λj=>Pf fA R C j*Pf fB R (wo1 C c) (k - j)) λc hcf=>?_,Qd9]
     ·exact Z0 λj _=>QgY _ _ _
     ·have hcf:=Qz.mp hcf;rw[ih1];refine Z0 λj _=>?_
      rw[Qgz (f:=fA) (C:=C) (c:=c) λr' hr'=>((hc c hcf.1).resolve_left λy=>by rw[y r (.head _)] at hcf;exact absurd hcf.2 Qi) r' (.tail _ hr')]
    rw[e1];show _=sumN (k+1) (λj=>Pf fA (r::R) C j*Pf fB (r::R) C (k+1 - j))+Pf fA (r::R) C (k+1)*Pf fB (r::R) C (k+1 - (k+1));show(sumN (k+1) (λj=>Pf fA R C j*Pf fB R C (k+1 - j))+Pf fA R C (k+1)*Pf fB R C (k+1 - (k+1)))+_=_;rw[Qk9,Yn,Yn,eA];have e2:(sumN (k+1) λj=>Pf fA (r::R) C j*Pf fB (r::R) C (k+1 - j))=(sumN (k+1) λj=>Pf fA R C j*Pf fB R C (k+1 - j))+sumN (k+1) λj=>Pf fA R C j*sumZ (λc=>Pf fB R (wo1 C c) (k - j)) (C.filter (fB r)):=by
     rw[<- QcC];refine Z0 λj hj=>?_
     rw[eA,QaX,if_neg (by omega),Int.mul_add,show k+1 - j - 1=k - j by omega]
    rw[e2];omega
theorem Qlu{F:Nat->Int}{c:Nat}:∀{C:List Nat},C.Nodup->c∈C->sumZ F C=sumZ F (wo1 C c)+F c
 |d::C,nd,hc=>by
  have nd:=Zn.mp nd;by_cases z:d=c
  ·subst z;rw[Qh3 nd.1];show F d+sumZ F C=_;omega
  ·rw[Qh4 z];show F d+sumZ F C=F d+sumZ F (wo1 C c)+F c;rw[Qlu nd.2 ((Qy.mp hc).resolve_left λe=>z e.symm)];omega
theorem QAx{f:Nat->Nat->Bool}{R C:List Nat}{r0 c0:Nat}(nR:R.Nodup)(nC:C.Nodup)(hr:r0∈R)(hc:c0∈C)(hf:f r0 c0=true)(k:Nat):Pf f R C k=Pf (λr c=>f r c && !decide (r=r0/\c=c0)) R C k+(if k=0 then 0 else Pf f (wo1 R r0) (wo1 C c0) (k - 1)):=by
 have pR:R.Perm (r0::wo1 R r0):=(Je nR (Zn.mpr ⟨λz=>(QbL.mp z).2 rfl,QmP nR r0⟩)).mpr λx=>by
  rw[Qy,QbL];constructor
  ·intro hx;by_cases z:x=r0
   ·exact .inl z
   ·exact .inr ⟨hx,z⟩
  ·rintro(z | z)
   ·rw[z];exact hr
   ·exact z.1
 rw[Qd1 f k pR nR nC,Qd1 _ k pR nR nC,QaX,QaX];have e1:∀(D:List Nat)(j:Nat),Pf (λr c=>f r c && !decide (r=r0/\c=c0)) (wo1 R r0) D j=Pf f (wo1 R r0) D j:=λD j=>Qbi λr hr c _=>by
  have:¬(r=r0/\c=c0):=λz=>(QbL.mp hr).2 z.1
  rw[decide_eq_false this];simp
 rw[e1];by_cases k0:k=0
 ·rw[if_pos k0,if_pos k0,if_pos k0];omega
 ·rw[if_neg k0,if_neg k0,if_neg k0];have e2:C.filter (λc=>f r0 c && !decide (r0=r0/\c=c0))=wo1 (C.filter (f r0)) c0:=by
   unfold wo1;rw[Zd];refine J9 λc _=>?_
   by_cases z:c=c0
   ·simp[z]
   ·simp[z]
  rw[e2,Qlu (nC.filter _) (Qz.mpr ⟨hc,hf⟩),JA (a:=wo1 (C.filter (f r0)) c0) λc _=>e1 (wo1 C c) (k - 1)];omega
end Rk
namespace Dl
open L2 _root_.Rd Rk
section
variable{X:Cx}{E:XK}{st:ZY}{i j:Nat}{we:DE}
end
section
variable{X:Cx}{E:XK}{st:ZY}{i:Nat}
def QuV(i:Nat):DS:=λD δ=>match δ[i]? with
 |some (.own ds)=>ds≠[]/\D.nx (δ.set i (.own ds.dropLast))
 |_=>False
theorem Qpd(h:PS X st (Qls (QAE X.K "list" QAL (Qh9 i)))):PS X st (tS X.K E (QuV i)):=by
 refine PS.imp h λD σ H ⟨F,δ,DD,rel,hw,en⟩=>?_
 unfold QuV at hw;split at hw
 ·rename_i ds hd
  obtain⟨ne,hn⟩:=hw;obtain⟨x,hx⟩:=rel.lt hd;obtain⟨l,xs,rfl,e,q,f⟩:=rel.sl i _ _ hx hd;have ql:=q.length;have n0:0<xs.length:=by rw[ql];exact Qn5.mpr ne
  have dd:DAs (Av F σ δ) H xs.dropLast ds.dropLast:=by
   rw[QkX,QkX,ql];exact q.take _
  obtain⟨r2,st2⟩:=rel.mut hd hx dd;exact⟨.ref l,hx,.inl ⟨rfl,_,SqL.of e⟩,l,xs,_,rfl,rfl,e,Qe (by omega),en.nx.go _ hn _ _ r2 st2⟩
 ·exact hw.elim
theorem Qte{y:Str}{apos cpos pos npos:Pos}(i:Nat)(hN:X.N[i]? = some y:=by rfl)(hv:Vis X.env.scope y:=by first | exact Q2 rfl | exact QZ (Q2 rfl) | exact QZ (QZ rfl))(hd:(y == ("__debug__" : Str))=false:=by decide)(hcd:(y == ("__classdict__" : Str))=false:=by decide)(hbase:attributeBase (.Name y npos) "pop" X.env (eval (.Name y npos) X.env)=eval (.Name y npos) X.env:=by rfl)(hline:(apos.endLine == cpos.line)=true:=by rfl)(hsw:swapsWith (.Call (.Attribute (.Name y npos) "pop" apos) [] [] cpos) none pos.line X.env=pure false:=by rfl):QS X E (.Expr (.Call (.Attribute (.Name y npos) "pop" apos) [] [] cpos) pos) (QuV i):=⟨Qpd (QfY (QwF PySem.F.plainAttrs_list PySem.F.slot_list_pop PySem.F.type_list_pop Qxh (pv i hN hv hd hcd) hbase hline) hsw)⟩
end
end Dl
namespace Zt
def f5(M x:Nat):Nat:=(x*5+1) % M
def it5(M:Nat):Nat->Nat->Nat
 |0,x=>x
 |n+1,x=>it5 M n (f5 M x)
def QBf(M:Nat):Nat->Nat->Nat->Nat
 |0,_,acc=>acc
 |n+1,x,acc=>QBf M n (f5 M x) (acc ||| 2^x)
def Qz9(M:Nat):Bool:=decide (QBf M M 0 0=2^M - 1)&&decide (it5 M M 0=0)
def stps(t:SetTable):Nat->QaY->QaY
 |0,p=>p
 |n+1,p=>stps t n (t.advance p)
theorem Qjd:∀{P Q:List Nat},P.Nodup->(∀p∈P,p∈Q)->P.length<=Q.length
 |[],_,_,_=>Jc _
 |p::P,Q,nd,h=>by
  have nd:=Zn.mp nd;have hp:=h p (.head _);have:=Qjd (P:=P) (Q:=Q.erase p) nd.2 λx hx=>(List.mem_erase_of_ne (show x≠p from λe=>nd.1 (e ▸ hx))).mpr (h x (.tail _ hx))
  rw[Qh1 hp] at this;have:=Qb7 hp;rw[QF];omega
structure Tab (t:SetTable):Prop where
 pw:t.place.toList.Pairwise (· < ·)
 le:∀x∈t.place.toList,x<=t.mask
 dm:t.dummies=#[]
 gd:Qz9 (t.mask+1)=true
 pl:t.plain=true
 od:t.mask % 2=1
theorem Tab.room{t:SetTable}(x:Tab t)(hs:t.place.size<=t.mask):∃j,j<t.mask+1/\j∉t.place.toList:=by
 apply YB
 intro hn;have:∀p∈Qp (t.mask+1),p∈t.place.toList:=λp hp=>by
  apply YB
  intro h;exact hn ⟨p,QM.mp hp,h⟩
 have:=Qjd JQ this;rw[QH,Q4] at this;omega
structure PIn (t:SetTable) (p:QaY):Prop where
 a:p.j+p.more<=t.mask
 b:p.i<=t.mask
theorem Qg4{mask i:Nat}(h:i<=mask):i+(Qn1 mask i - i)<=mask:=by unfold Qn1;split<;>omega
theorem PIn.adv{t:SetTable}{p:QaY}(x:PIn t p):PIn t (t.advance p):=by
 unfold SetTable.advance;split
 ·exact⟨by show p.j+1+(p.more - 1)<=_;have:=x.a;omega,x.b⟩
 ·have:(SetTable.leap t.mask p.i p.perturb).1<=t.mask:=QsA (Qsz _ (Nat.succ_pos _));exact⟨Qg4 this,this⟩
theorem PIn.stps{t:SetTable}:∀(n:Nat){p:QaY},PIn t p->PIn t (stps t n p)
 |0,_,x=>x
 |n+1,_,x=>PIn.stps n x.adv
theorem PIn.start(t:SetTable)(h:Int):PIn t (t.probeStart h):=by
 have:SetTable.bits h % (t.mask+1)<=t.mask:=QsA (Qsz _ (Nat.succ_pos _));exact⟨Qg4 this,this⟩
def Rch(t:SetTable)(j:Nat)(h:Int):Prop:=∃n,(stps t n (t.probeStart h)).j=j/\∀m,m<n->(stps t m (t.probeStart h)).j∈t.place.toList
theorem Qc1:Slot "set_iterator" "__next__" "set_iterator.__next__" :=
 .of (owner := "set_iterator") (n := "__next__") (by rw[QjU,QdF];kernel_rfl) (by decide +kernel) (by decide +kernel) (by decide +kernel) (by first | exact .inl (by decide +kernel) | exact .inr (by decide +kernel)) (by rw[Qb4];kernel_rfl)
theorem Qnl:entryFor table "set_iterator.__next__" = some Y2.«set_iterator.__next__» := entryFor_of_fast (by kernel_rfl)
theorem QwV:Manifest.owners.lookup (String.ofList ['r', 'o', 't', 'a', 'r', 'e', 't', 'i', '_', 't', 'e', 's'].reverse)=some Manifest.sig_set_iterator:=by kernel_rfl
theorem QnO(a:Value):argsOk "set_iterator.__next__" ⟨[a],[]⟩:=by
 unfold argsOk;rw[signature?_of (id := "set_iterator.__next__") (n:=['_', '_', 't', 'x', 'e', 'n', '_', '_']) (o:=['r', 'o', 't', 'a', 'r', 'e', 't', 'i', '_', 't', 'e', 's']) (by kernel_rfl) QwV];kernel_rfl
theorem QuP:entryFor table "set.__iter__" = some Y2.«frozenset.__iter__» := entryFor_alias (id' := "frozenset.__iter__") (by kernel_rfl) (by first | rfl | decide +kernel | (unfold Qsw;simp +decide [Qn0])) (by decide +kernel) (by kernel_rfl)
def IsSI(h:Heap)(I:Addr)(first:Value)(i a n ep:Nat):Prop:=∃o,h.get? I=some o/\o.cls=.type "set_iterator" /\ o.data=.fields #[first,.int i 0,.ref a,.int n 0,.int ep 0]
theorem IsSI.typeIs{s:Shared}{I:Addr}{first:Value}{i a n ep:Nat}(x:IsSI s.heap I first i a n ep):s.TypeIs (.ref I) "set_iterator" := let ⟨o,h,c,_⟩:=x;⟨o,h,c⟩
structure SetAt (h:Heap) (a:Addr) (es:Array (Int×Value)) (ep:Nat) (t:SetTable):Prop where
 at_:∃o,h.get? a=some o/\o.ExactSet/\o.data=.set es ep t
 ft:t.fits es.size=true
section
variable{prog:QC}{w:Jf}{A:Ja}{E:Value->Shared->Prop}{s:Shared}
theorem Qum{I a:Addr}{i ep slot nx:Nat}{es:Array (Int×Value)}{t:SetTable}{x:Value}{Q:Option Value->Shared->Prop}(hit:IsSI s.heap I (.int slot 0) i a es.size ep)(ha:SetAt s.heap a es ep t)
  (hN:∀(A:Ja)(E:Value->Shared->Prop)(Q':Option (Value×Nat)->Shared->Prop),Q' (some (x,nx)) s->wpAny (model prog w) A (setNext a slot i ep) Q' E s)
  (hQ:∀h',IsSI h' I (.int nx 0) (i+1) a es.size ep->Qax I s.heap h'->Q (some x) { s with heap:=h' }):wpAny (model prog w) A (pyNext (.ref I)) Q E s:=by
 obtain⟨o,ho,hc,hd⟩:=id hit;obtain⟨os,hos,hex,hds⟩:=ha.at_;unfold pyNext;refine wpAny_bind (Qfx (Zc (name:=Y3 "__next__") hit.typeIs Qc1 (JL Qc1 hit.typeIs Qnl ?_ (QnO _))));unfold Y2.«set_iterator.__next__»
 wp_walk
 rw[hd];refine wpAny_pure ?_
 dsimp only
 refine wpAny_bind (Qvz hos hds ha.ft ?_);rw[if_neg (by simp)];refine wpAny_bind ?_
 refine hN _ _ _ ?_
 dsimp only
 refine wpAny_bind (Qb3 ho hd (by simp) ?_);have g1:(s.heap.update I (QjY λx=>x.setIfInBounds 0 (rawInt ↑nx))).get? I=some (QjY (λx=>x.setIfInBounds 0 (rawInt ↑nx)) o):=J5 _ ho (Qcy (Yt hd _));have d1:(QjY (λx=>x.setIfInBounds 0 (rawInt ↑nx)) o).data=.fields #[.int nx 0,.int i 0,.ref a,.int es.size 0,.int ep 0]:=by rw[Yt hd];simp[rawInt]
 refine wpAny_bind (Qb3 g1 d1 (by simp) (wpAny_pure ⟨x,rfl,wpAny_pure (hQ _ ?_ ((ZG ..).trans (ZG ..)))⟩));exact⟨_,J5 _ g1 (Qcy (Yt d1 _)),(QeS ..).trans ((QeS ..).trans hc),by rw[Yt d1];simp[rawInt]⟩
theorem Qxg{I a:Addr}{i ep slot:Nat}{es:Array (Int×Value)}{t:SetTable}{Q:Option Value->Shared->Prop}(hh:A.handled=none)(hit:IsSI s.heap I (.int slot 0) i a es.size ep)(ha:SetAt s.heap a es ep t)
  (hN:∀(A:Ja)(E:Value->Shared->Prop)(Q':Option (Value×Nat)->Shared->Prop),Q' none s->wpAny (model prog w) A (setNext a slot i ep) Q' E s)
  (hQ:∀h',Heap.ExtBut I s.heap h'->Q none { s with heap:=h' }):wpAny (model prog w) A (pyNext (.ref I)) Q E s:=by
 obtain⟨o,ho,hc,hd⟩:=id hit;obtain⟨os,hos,hex,hds⟩:=ha.at_;unfold pyNext;refine wpAny_bind (Qfx (Zc (name:=Y3 "__next__") hit.typeIs Qc1 (JL Qc1 hit.typeIs Qnl ?_ (QnO _))));unfold Y2.«set_iterator.__next__»
 wp_walk
 rw[hd];refine wpAny_pure ?_
 dsimp only
 refine wpAny_bind (Qvz hos hds ha.ft ?_);rw[if_neg (by simp)];refine wpAny_bind ?_
 refine hN _ _ _ ?_
 dsimp only
 refine wpAny_bind (Qb3 ho hd (by simp) ?_);refine wpAny_bind ?_
 simp only[newExc,newTuple];refine wpAny_bind (Jr ?_ (by size_fits));refine wpAny_bind (m:=firstArgMember _ _) (ZN (a:=Js) (by first | rfl | (simp only[firstArgMember];rfl)) ?_);refine Jr ?_ (by size_fits)
 simp only[raiseNew];refine wpAny_bind (wpAny_handled ?_)
 first | rw[show A.in1.handled=none from hh] | rw[hh]
 refine wpAny_bind (wpAny_pure (wpAny_throw ?_));refine wpAny_bind (QhU (T := "StopIteration") (b:=true) ⟨_,Qq _ rfl,rfl⟩ (by rw[Qb4];kernel_rfl) ?_);exact wpAny_pure (hQ _ (((ZG ..).extBut.push _).push _))
theorem QrI{a:Addr}{ep slot given:Nat}{es:Array (Int×Value)}{t:SetTable}{Q:Option (Value×Nat)->Shared->Prop}(hb:w.params.followText "set-order" = false)(ha:SetAt s.heap a es ep t)(hp:t.plain=true)(hl:t.led=true)
  (h:Q (match es[Qce t.place slot]?,t.place[Qce t.place slot]? with | some (_,x),some j=>some (x,j+1) | _,_=>none) s):wpAny (model prog w) A (setNext a slot given ep) Q E s:=by
 obtain⟨os,hos,hex,hds⟩:=ha.at_;unfold setNext;refine wpAny_bind (QaG hos hds ha.ft ?_)
 dsimp only
 unfold setsByText;refine wpAny_bind (wpAny_bind (Z6 (wpAny_pure ?_)));rw[show(model prog w).w.params.followText "set-order" = false from hb,if_neg Qi];split
 ·rename_i hdr
  exact absurd (show(!t.plain&&decide (es.size > 1))=true from hdr) (by rw[hp];simp)
 ·refine wpAny_bind ?_
  show wpAny (model prog w) A (if(!t.led && !es.isEmpty)=true then unsupported "set:maker-not-led" else pure ()) _ E s;rw[if_neg (by rw[hl];simp)];exact wpAny_pure (wpAny_pure h)
theorem QlI{a:Addr}{ep slot given:Nat}{es:Array (Int×Value)}{t:SetTable}{Q:Option (Value×Nat)->Shared->Prop}(hb:w.params.followText "set-order" = true)(ha:SetAt s.heap a es ep t)
  (h:Q (((pickOrder (w.params.setOrder a ep) es)[given]?).map λe=>(e.2,slot)) s):wpAny (model prog w) A (setNext a slot given ep) Q E s:=by
 obtain⟨os,hos,hex,hds⟩:=ha.at_;unfold setNext;refine wpAny_bind (QaG hos hds ha.ft ?_)
 dsimp only
 unfold setsByText;refine wpAny_bind (wpAny_bind (Z6 (wpAny_pure ?_)));rw[show(model prog w).w.params.followText "set-order" = true from hb,if_pos rfl,if_neg (by simp)];refine wpAny_bind ?_
 unfold setWalk;refine wpAny_bind (QaG hos hds ha.ft ?_)
 dsimp only
 unfold setsByText;refine wpAny_bind (wpAny_bind (Z6 (wpAny_pure ?_)));rw[show(model prog w).w.params.followText "set-order" = true from hb,if_pos rfl];refine wpAny_bind (Z6 (wpAny_pure ?_));exact wpAny_pure h
theorem Qg9{α:Type}(next:Nat->Nat)(xs:Array α):(pickOrder next xs).toList.Perm xs.toList:=by
 unfold pickOrder;have go:∀(n k:Nat)(left:List α)(out:Array α),left.length=n->(Qrr next n k left out).toList.Perm (out.toList++left):=λn=>by
  induction n with
  |zero=>
   intro k left out hl;rw[List.length_eq_zero_iff.mp hl,ZB];exact Qb9 _
  |succ n ih=>
   intro k left out hl;have hi:next k % left.length<left.length:=Qsz _ (by omega)
   unfold Qrr;rw[Qe hi]
   dsimp only
   refine(ih (k+1) _ _ (by rw[List.length_eraseIdx,if_pos hi];omega)).trans ?_
   rw[Array.toList_push,QeP];refine List.Perm.append_left _ ?_
   have sp:left=left.take (next k % left.length)++left[next k % left.length]::left.drop (next k % left.length+1):=by rw[<- QhP hi,QkT]
   have pm:=(List.perm_middle (a:=left[next k % left.length]) (l₁:=left.take (next k % left.length)) (l₂:=left.drop (next k % left.length+1))).symm;rw[<- sp,<- List.eraseIdx_eq_take_drop_succ] at pm;exact pm
 have:=go xs.size 0 xs.toList #[] (by simp)
 simpa using this
theorem Qxv{a:Addr}{ep:Nat}{es:Array (Int×Value)}{t:SetTable}{Q:Value->Shared->Prop}(ha:SetAt s.heap a es ep t)(hp:t.plain=true)
  (hQ:Q (.ref s.heap.objs.size) { s with heap:=s.heap.push { cls:=.type "set_iterator",data:=.fields #[.int 0 0,.int 0 0,.ref a,.int es.size 0,.int ep 0] } }):wpAny (model prog w) A (pyIter (.ref a)) Q E s:=by
 obtain⟨os,hos,hex,hds⟩:=ha.at_;have hT:s.TypeIs (.ref a) "set" := ⟨os,hos,hex.1⟩;refine QyF hT PySem.F.slot_set_iter (JL PySem.F.slot_set_iter hT QuP ?_ (PySem.F.args_set_iter_1 _));unfold Y2.«frozenset.__iter__»
 wp_walk
 have nf:¬(t.place.size != es.size||decide (t.fill > t.mask))=true:=by
  have hf:=ha.ft;simp only[SetTable.fits,JH,beq_iff_eq,decide_eq_true_eq] at hf;simp[hf.1,Nat.not_lt.mpr hf.2]
 rw[hds]
 dsimp only
 rw[if_neg nf];refine wpAny_pure (wpAny_pure (wpAny_pure ?_));refine wpAny_bind ?_
 unfold setDrawn;refine wpAny_bind (QaG hos hds ha.ft ?_)
 dsimp only
 unfold setsByText;refine wpAny_bind (wpAny_bind (Z6 (wpAny_pure ?_)));refine wpAny_pure ?_
 split
 ·rename_i hdr
  have hdr:(!(w.params.followText "set-order")&&(!t.plain&&decide (es.size > 1)))=true:=hdr;rw[hp] at hdr;simp at hdr
 ·refine wpAny_bind (wpAny_pure ?_);refine wpAny_bind (wpAny_setEpoch_of hos hds ha.ft ?_);exact wpAny_bind (Jr (wpAny_pure ⟨_,rfl, "set_iterator",_,⟨_,Qq _ rfl,rfl⟩,Qc1.lookup,hQ⟩))
theorem SetAt.at'{h h':Heap}{a:Addr}{es:Array (Int×Value)}{ep:Nat}{t:SetTable}(x:SetAt h a es ep t)(k:∀o,h.get? a=some o->h'.get? a=some o):SetAt h' a es ep t:=let ⟨o,h1,h2⟩:=x.at_;⟨⟨o,k o h1,h2⟩,x.ft⟩
theorem IsSI.at'{h h':Heap}{I:Addr}{first:Value}{i a n ep:Nat}(x:IsSI h I first i a n ep)(k:∀o,h.get? I=some o->h'.get? I=some o):IsSI h' I first i a n ep:=let ⟨o,h1,h2⟩:=x;⟨o,k o h1,h2⟩
end
structure Way (prog:QC) (w:Jf) (a:Addr) (es:Array (Int×Value)) (ep:Nat) (t:SetTable) (so:Nat->Nat) (vs:Array (Int×Value)):Prop where
 pm:vs.toList.Perm es.toList
 s0:so 0=0
 item:∀(s:Shared)(A:Ja)(E:Value->Shared->Prop)(Q:Option (Value×Nat)->Shared->Prop)(i:Nat)(e:Int×Value),SetAt s.heap a es ep t->vs[i]? = some e->Q (some (e.2,so (i+1))) s->wpAny (model prog w) A (setNext a (so i) i ep) Q E s
 fin:∀(s:Shared)(A:Ja)(E:Value->Shared->Prop)(Q:Option (Value×Nat)->Shared->Prop),SetAt s.heap a es ep t->Q none s->wpAny (model prog w) A (setNext a (so es.size) es.size ep) Q E s
theorem Way.walks{prog:QC}{w:Jf}{A:Ja}(hh:A.handled=none){a:Addr}{es:Array (Int×Value)}{ep:Nat}{t:SetTable}{so:Nat->Nat}{vs:Array (Int×Value)}(W:Way prog w a es ep t so vs)(I:Addr)(hne:a≠I)(self:∀(s:Shared)(Q:Value->Shared->Prop)(E:Value->Shared->Prop)(i:Nat),IsSI s.heap I (.int (so i) 0) i a es.size ep->Q (.ref I) s->wpAny (model prog w) A (pyIter (.ref I)) Q E s) :
  Walks prog w A I [I,a] [I] es.size (λi v=>(vs[i]?).map (·.2)=some v) (λi h=>IsSI h I (.int (so i) 0) i a es.size ep/\SetAt h a es ep t) where
 sub:=λb hb=>by simp at hb;simp[hb]
 frame:=λ_ _ _ st hk=>⟨st.1.at' λo e=>hk I (by simp) o e,st.2.at' λo e=>hk a (by simp) o e⟩
 item:=λi s Q E hi st hQ=>by
  have hl:vs.size=es.size:=by rw[<- Q4,W.pm.length_eq,Q4]
  have hv:vs[i]? = some vs[i]:=by simp[hl,hi]
  refine Qum st.1 st.2 (x:=vs[i].2) (nx:=so (i+1)) (λA E Q' q=>W.item s A E Q' i _ st.2 hv q) λh' hit' hs'=>?_
  refine hQ _ h' s.toks (by rw[hv];rfl) ⟨hit',st.2.at' λo e=>hs'.extBut a o (λz=>hne z) e⟩ λb o hb e=>hs'.extBut b o (λz=>hb (by simp[z])) e
 done:=λs Q E st hQ=>Qxg hh st.1 st.2 (λA E Q' q=>W.fin s A E Q' st.2 q) λh' he'=>hQ h' s.toks λb o hb e=>he' b o (λz=>hb (by simp[z])) e
 self:=λi s Q E st hQ=>self s Q E i st.1 hQ
theorem Qor{prog:QC}{w:Jf}(hb:w.params.followText "set-order" = true)(a:Addr)(es:Array (Int×Value))(ep:Nat)(t:SetTable):Way prog w a es ep t (λ_=>0) (pickOrder (w.params.setOrder a ep) es) where
 pm:=Qg9 _ _
 s0:=rfl
 item:=λs A E Q i e ha hv q=>QlI hb ha (by rw[hv];exact q)
 fin:=λs A E Q ha q=>QlI hb ha (by
  have hl:(pickOrder (w.params.setOrder a ep) es).size=es.size:=by rw[<- Q4,(Qg9 _ _).length_eq,Q4]
  rw[ZT (by omega)];exact q)
theorem QsM{prog:QC}{w:Jf}(hb:w.params.followText "set-order" = false)(a:Addr)(es:Array (Int×Value))(ep:Nat)(t:SetTable)(hp:t.plain=true)(hl:t.led=true)(hz:t.place.size=es.size)(so:Nat->Nat)(s0:so 0=0)(hs:∀i,i<t.place.size->so (i+1)=t.place.getD i 0+1)(hbel:∀i,i<=t.place.size->Qce t.place (so i)=i):Way prog w a es ep t so es where
 pm:=Qb9 _
 s0:=s0
 item:=λs A E Q i e ha hv q=>QrI hb ha hp hl (by
  have hi:i<es.size:=by
   by_cases z:i<es.size
   ·exact z
   ·rw[ZT (by omega)] at hv;cases hv
  rw[hbel i (by omega),hv,show t.place[i]? = some (t.place.getD i 0) by simp[Array.getD,show i<t.place.size by omega]]
  dsimp only
  rw[<- hs i (by omega)];exact q)
 fin:=λs A E Q ha q=>QrI hb ha hp hl (by
  rw[hbel es.size (by omega),ZT (Qh _)];exact q)
section
variable{prog:QC}{w:Jf}{A:Ja}{E:Value->Shared->Prop}{s:Shared}
end
section
variable{prog:QC}{w:Jf}{A:Ja}{E:Value->Shared->Prop}{s:Shared}
structure TS (prog:QC) (w:Jf) (h:Heap) (a:Addr) (es:Array (Int×Value)) (ep:Nat) (t:SetTable) (ps:List (List Int×Addr)):Prop where
 at_:SetAt h a es ep t
 tab:Tab t
 ent:es.toList=ps.map λp=>(tupleKeyHash (intKind prog w) p.1,Zm p.2)
 key:∀p∈ps,IsTupleKey (intKind prog w) h p.1 p.2
 nd:(ps.map (·.1)).Nodup
 rch:∀(i j:Nat)(e:Int×Value),t.place[i]? = some j->es[i]? = some e->Rch t j e.1
 mks:t.mask=7∨t.mask=31∨t.mask=127∨t.mask=511∨t.mask=2047
 few:t.place.size*5<t.mask*3
variable{a:Addr}{es:Array (Int×Value)}{ep:Nat}{t:SetTable}{ps:List (List Int×Addr)}
theorem TS.size(x:TS prog w s.heap a es ep t ps):es.size=ps.length:=by rw[<- Q4,x.ent,Qc]
end
def Sm(m:Nat):List Nat:=(Qp 6).filter m.testBit
def tb(m:Nat)(led:Bool):SetTable:={ mask:=if 5<=(Sm m).length then 31 else 7,place:=(Sm m).toArray,dummies:=#[],finger:=0,led:=led,moves:=if 5<=(Sm m).length then 1 else 0,plain:=true }
def tp(m v:Nat)(led:Bool):SetTable:={ tb m led with place:=(Sm (m ||| 2^v)).toArray }
def pz(m v:Nat):Nat:=((Sm m).filter (· < v)).length
theorem QsR:∀led:Bool,tb 0 led=SetTable.fresh 0 0 led:=by decide +kernel
theorem QvY:∀m:Fin 64,∀v:Fin 6,∀led:Bool,m.val.testBit v.val=false->(tb m led).freeSlot (v.val:Int)=some (v.val,false):=by decide +kernel
theorem Qza:∀m:Fin 64,∀v:Fin 6,∀led:Bool,m.val.testBit v.val=false->(tb m led).put v.val=(tp m v led,pz m v):=by decide +kernel
theorem Qlr:∀m:Fin 64,∀led:Bool,(tb m led).fits (Sm m).length=true:=by decide +kernel
theorem Qr0:∀m:Fin 64,∀v:Fin 6,∀led:Bool,m.val.testBit v.val=false->(tp m v led).fits ((Sm m).length+1)=true:=by decide +kernel
theorem Qow:∀m:Fin 64,∀v:Fin 6,m.val.testBit v.val=false->Sm (m ||| 2^v.val)=(Sm m).take (pz m v)++v.val::(Sm m).drop (pz m v):=by decide +kernel
theorem QvX:∀m:Fin 64,∀v:Fin 6,∀led:Bool,m.val.testBit v.val=false->(tp m v led).tooFull=decide ((Sm m).length=4):=by decide +kernel
theorem QvW:∀m:Fin 64,∀v:Fin 6,∀led:Bool,m.val.testBit v.val=false->(Sm m).length≠4->tp m v led=tb (m ||| 2^v.val) led:=by decide +kernel
theorem QsQ:∀m:Fin 64,∀v:Fin 6,∀led:Bool,m.val.testBit v.val=false->(Sm m).length=4->(tp m v led).relaid ((Sm (m ||| 2^v.val)).map (λ(x:Nat)=>(x:Int))).toArray (Qe2 5)=some (tb (m ||| 2^v.val) led,#[0,1,2,3,4]):=by decide +kernel
theorem Qzd:coversAll #[0,1,2,3,4] 5=true:=by decide +kernel
def so(m i:Nat):Nat:=match i with
 |0=>0
 |i+1=>(Sm m).toArray.getD i 0+1
theorem QsS:∀m:Fin 64,∀i:Fin 7,i.val<=(Sm m).length->Qce (Sm m).toArray (so m i)=i:=by decide +kernel
theorem Qzb:∀m:Fin 64,∀v:Fin 6,decide (v.val∈Sm m)=m.val.testBit v.val:=by decide +kernel
theorem QAD:∀m:Fin 64,∀v:Fin 6,m.val ||| 2^v.val<64:=by decide +kernel
theorem Qzc:∀m:Fin 64,∀v:Fin 6,m.val.testBit v.val=true->m.val ||| 2^v.val=m:=by decide +kernel
theorem Qj9:∀m:Fin 64,(Sm m).length<=6:=by decide +kernel
theorem Qyb{m x:Nat}(h:x∈Sm m):x<6:=QM.mp (Qz.mp h).1
theorem Qfq:∀v:Fin 6,hashInt (v.val:Int)=(v.val:Int):=by decide +kernel
def EsOk(es:Array (Int×Value))(S:List Nat):Prop:=∃tks:List Tok,tks.length=S.length/\es.toList=Qcq (λ(v:Nat)(tk:Tok)=>((v:Int),Y7 (v:Int) tk)) S tks
theorem EsOk.size{es:Array (Int×Value)}{S:List Nat}(h:EsOk es S):es.size=S.length:=by
 obtain⟨tks,hl,e⟩:=h;rw[<- Q4,e,Qn4,hl,Nat.min_self]
theorem EsOk.ins{es:Array (Int×Value)}{S:List Nat}(h:EsOk es S)(p v:Nat)(tk:Tok):EsOk (JE es p ((v:Int),.int v tk)) (S.take p++v::S.drop p):=by
 obtain⟨tks,hl,e⟩:=h;refine⟨tks.take p++tk::tks.drop p,by simp[hl],?_⟩;rw[SetTable.toList_insertAt,e,List.zipWith_append (by simp[hl]),List.take_zipWith,List.drop_zipWith];rfl
theorem QsH{S:List Nat}{e:Int×Value}:∀{tks:List Tok},e∈Qcq (λ(v:Nat)(tk:Tok)=>((v:Int),Y7 (v:Int) tk)) S tks->∃v∈S,∃tk,e=((v:Int),.int v tk):=by
 induction S with
 |nil=>intro tks h;cases tks<;>cases h
 |cons x S ih=>
  intro tks h;cases tks with
  |nil=>cases h
  |cons t tks=>
   rcases Qy.mp h with z | z
   ·exact⟨x,.head _,t,z⟩
   ·obtain⟨v,hv,r⟩:=ih z;exact⟨v,.tail _ hv,r⟩
theorem EsOk.mem{es:Array (Int×Value)}{S:List Nat}(h:EsOk es S){e:Int×Value}(he:e∈es.toList):∃v∈S,∃tk,e=((v:Int),.int v tk):=by
 obtain⟨tks,hl,e'⟩:=h;rw[e'] at he;exact QsH he
theorem QsI{S:List Nat}{v:Nat}(hv:v∈S):∀{tks:List Tok},tks.length=S.length->∃tk,((v:Int),Y7 (v:Int) tk)∈Qcq (λ(v:Nat)(tk:Tok)=>((v:Int),Y7 (v:Int) tk)) S tks:=by
 induction S with
 |nil=>cases hv
 |cons x S ih=>
  intro tks hl;cases tks with
  |nil=>cases hl
  |cons t tks=>
   rcases Qy.mp hv with z | z
   ·subst z;exact⟨t,.head _⟩
   ·obtain⟨tk,h⟩:=ih z (QhO hl);exact⟨tk,.tail _ h⟩
theorem EsOk.has{es:Array (Int×Value)}{S:List Nat}(h:EsOk es S){v:Nat}(hv:v∈S):∃tk,((v:Int),Y7 (v:Int) tk)∈es.toList:=by
 obtain⟨tks,hl,e⟩:=h;rw[e];exact QsI hv hl
theorem EsOk.hashes{es:Array (Int×Value)}{S:List Nat}(h:EsOk es S):es.map (·.1)=(S.map λ(x:Nat)=>(x:Int)).toArray:=by
 obtain⟨tks,hl,e⟩:=h;apply QeW.mp
 rw[QeV,e,QaZ];have:∀(S:List Nat)(tks:List Tok),tks.length=S.length->(Qcq (λ(v:Nat)(tk:Tok)=>((v:Int),Y7 (v:Int) tk)) S tks).map (·.1)=S.map λ(x:Nat)=>(x:Int):=λS=>by
  induction S with
  |nil=>intro tks _;cases tks<;>rfl
  |cons x S ih=>
   intro tks hl;cases tks with
   |nil=>cases hl
   |cons t tks=>
    show(x:Int)::_=(x:Int)::_;rw[ih tks (QhO hl)]
 exact this S tks hl
theorem EsOk.elems{prog:QC}{w:Jf}{es:Array (Int×Value)}{m:Nat}(h:EsOk es (Sm m)):ElemsOf (intKind prog w) es.toList:=λe he=>by
 obtain⟨v,hv,tk,rfl⟩:=h.mem he;exact⟨⟨(v:Int),QnZ _ _ _ _,(Qfq ⟨v,Qyb hv⟩).symm⟩,rfl⟩
structure Sml (h:Heap) (a:Addr) (m:Nat) (led:Bool):Prop where
 ex:∃es ep,SetAt h a es ep (tb m led)/\EsOk es (Sm m)
theorem Sml.at'{h h':Heap}{a:Addr}{m:Nat}{led:Bool}(x:Sml h a m led)(k:∀o,h.get? a=some o->h'.get? a=some o):Sml h' a m led:=by
 obtain⟨es,ep,sa,eo⟩:=x.ex;exact⟨es,ep,sa.at' k,eo⟩
theorem SetAt.store{h:Heap}{a:Addr}{es es':Array (Int×Value)}{ep:Nat}{t t':SetTable}(x:SetAt h a es ep t)(hf:t'.fits es'.size=true):SetAt (h.update a (Qsy es' t')) a es' (ep+1) t':=by
 obtain⟨o,ho,hex,hd⟩:=x.at_;have hg:=J5 (Qsy es' t') ho (by rw[putSet_of es' t' hd];rfl);rw[putSet_of es' t' hd] at hg;exact⟨⟨_,hg,hex,rfl⟩,hf⟩
section
variable{prog:QC}{w:Jf}{A:Ja}{E:Value->Shared->Prop}{s:Shared}
theorem QnQ{a:Addr}{m v:Nat}{led:Bool}{tk:Tok}{Q:Bool->Shared->Prop}(hm:m<64)(hv:v<6)(x:Sml s.heap a m led)
  (h:∀h' b,Qax a s.heap h'->Sml h' a (m ||| 2^v) led->Q b { s with heap:=h' }):wpAny (model prog w) A (setAddHashed a (.int (v:Int) tk) (hashInt (v:Int))) Q E s:=by
 obtain⟨es,ep,sa,eo⟩:=x.ex;obtain⟨o,ho,hex,hd⟩:=sa.at_;have sz:=eo.size;have l6:=Qj9 ⟨m,hm⟩;have hel:ElemsOf (intKind prog w) es.toList:=eo.elems;have hb:es.size<scanBound:=by unfold scanBound;have:(Sm m).length<=6:=l6;omega
 unfold setAddHashed setAddHashedIn;refine J1 (wpAny_bind (QaG ho hd sa.ft ?_))
 dsimp only
 rw[byScan_of (knd:=intKind prog w) (x:=.int (v:Int) tk) rfl hb hel,if_pos rfl];unfold setAddByScan;refine wpAny_bind (wpAny_bind (wpAny_rule (wpAny_bind (wpAny_setScan_of (knd:=intKind prog w) (k:=(v:Int)) (QnZ _ _ _ _) ho hd sa.ft hel ?_))));have tm:decide (v∈Sm m)=m.testBit v:=Qzb ⟨m,hm⟩ ⟨v,hv⟩;cases hr:List.findIdx? (λe=>(intKind prog w).is (v:Int) e.2) es.toList with
 |some j=>
  obtain⟨hj,hpj,_⟩:=List.findIdx?_eq_some_iff_getElem.mp hr
  obtain⟨u,hu,tk2,eu⟩:=eo.mem (ZF hj);rw[eu] at hpj;have e2:u=v:=by
   have:=(intKind prog w).inj (.int (u:Int) tk2) (v:Int) (u:Int) hpj (QnZ _ _ _ _);omega
  subst e2;have tb1:m.testBit u=true:=by rw[<- tm];exact decide_eq_true hu
  have e3:m ||| 2^u=m:=Qzc ⟨m,hm⟩ ⟨u,hv⟩ tb1
  dsimp only
  refine wpAny_pure (wpAny_pure ?_);have e:s={ s with heap:=s.heap }:=by cases s;rfl
  rw[e];exact h s.heap false (QhR a s.heap) (by rw[e3];exact⟨es,ep,sa,eo⟩)
 |none=>
  have nb:m.testBit v=false:=by
   rw[<- tm];refine decide_eq_false λhu=>?_
   obtain⟨tk2,ht⟩:=eo.has hu;have:=List.findIdx?_eq_none_iff.mp hr _ ht
   rw[QnZ] at this;cases this
  have lay:layNew (tb m led) es (hashInt (v:Int)) (.int (v:Int) tk)=(JE es (pz m v) ((v:Int),.int (v:Int) tk),tp m v led,false,false):=by
   have f1:(tb m led).freeSlot (v:Int)=some (v,false):=QvY ⟨m,hm⟩ ⟨v,hv⟩ led nb;have f2:(tb m led).put v=(tp m v led,pz m v):=Qza ⟨m,hm⟩ ⟨v,hv⟩ led nb;have f3:(tp m v led).fits ((Sm m).length+1)=true:=Qr0 ⟨m,hm⟩ ⟨v,hv⟩ led nb;have ei:=(eo.ins (pz m v) v tk).size;have ei:(JE es (pz m v) ((v:Int),.int (v:Int) tk)).size=(Sm m).length+1:=by rw[ei,<- Qow ⟨m,hm⟩ ⟨v,hv⟩ nb,Qow ⟨m,hm⟩ ⟨v,hv⟩ nb];simp;omega
   unfold layNew;rw[Qfq ⟨v,hv⟩];rw[show((⟨v,hv⟩:Fin 6).val:Int)=(v:Int) from rfl,f1]
   dsimp only
   rw[f2]
   dsimp only
   unfold SetTable.orStandIn;rw[ei,f3];rfl
  have eo1:=eo.ins (pz m v) v tk;rw[<- Qow ⟨m,hm⟩ ⟨v,hv⟩ nb] at eo1;have eo1:EsOk (JE es (pz m v) ((v:Int),.int (v:Int) tk)) (Sm (m ||| 2^v)):=eo1;have s1:(JE es (pz m v) ((v:Int),.int (v:Int) tk)).size=(Sm m).length+1:=by
   rw[eo1.size,show Sm (m ||| 2^v)=_ from Qow ⟨m,hm⟩ ⟨v,hv⟩ nb];simp;omega
  dsimp only
  rw[lay]
  dsimp only
  refine wpAny_bind (ZN (a:=()) rfl ?_);rw[if_pos (show(tp m v led).plain=true from rfl),hashByValue_scannable 8 (x:=.int (v:Int) tk) rfl];refine wpAny_bind (wpAny_pure ?_);have pk:plainKind (.int (v:Int) tk)=true:=rfl;simp only[pk,if_true];have m64:m ||| 2^v<64:=QAD ⟨m,hm⟩ ⟨v,hv⟩;have f3:(tp m v led).fits (JE es (pz m v) ((v:Int),.int (v:Int) tk)).size=true:=by rw[s1];exact Qr0 ⟨m,hm⟩ ⟨v,hv⟩ led nb
  have sa1:=sa.store (es':=JE es (pz m v) ((v:Int),.int (v:Int) tk)) (t':=tp m v led) f3;have sb1:=ZG s.heap a (Qsy (JE es (pz m v) ((v:Int),.int (v:Int) tk)) (tp m v led));refine wpAny_bind (QyD ho hd ?_ (by rw[s1];show _<=2^24;have:(Sm m).length<=6:=l6;omega));have tf:(tp m v led).tooFull=decide ((Sm m).length=4):=QvX ⟨m,hm⟩ ⟨v,hv⟩ led nb;rw[tf];by_cases z:(Sm m).length=4
  ·rw[decide_eq_true z,if_pos (show(!false&&true)=true from rfl)];have rl:relayAll (tp m v led) (JE es (pz m v) ((v:Int),.int (v:Int) tk)) (Qe2 (JE es (pz m v) ((v:Int),.int (v:Int) tk)).size)=(JE es (pz m v) ((v:Int),.int (v:Int) tk),tb (m ||| 2^v) led,false):=by
    rw[s1,z];have s5:(JE es (pz m v) ((v:Int),.int (v:Int) tk)).size=5:=by rw[s1,z]
    have f4:(tp m v led).relaid ((Sm (m ||| 2^v)).map (λ(x:Nat)=>(x:Int))).toArray (Qe2 5)=some (tb (m ||| 2^v) led,#[0,1,2,3,4]):=QsQ ⟨m,hm⟩ ⟨v,hv⟩ led nb z;have f5:(tb (m ||| 2^v) led).fits 5=true:=by
     have:=Qlr ⟨m ||| 2^v,m64⟩ led;rw[show(Sm (⟨m ||| 2^v,m64⟩:Fin 64).val).length=5 by show(Sm (m ||| 2^v)).length=5;rw[<- eo1.size,s5]] at this;exact this
    unfold relayAll;rw[eo1.hashes,show(4:Nat)+1=5 from rfl,f4]
    dsimp only
    generalize JE es (pz m v) ((v:Int),.int (v:Int) tk)=X at s5;have ex:(#[0,1,2,3,4]:Array Nat).filterMap (X[·]?)=X:=by
     have q:=filterMap_getElem?_range X
     rw[s5] at q;apply QeW.mp
     rw[Array.toList_filterMap];exact q
    rw[ex,s5,Qzd,f5];rfl
   rw[rl]
   dsimp only
   refine wpAny_bind (ZN (a:=()) rfl ?_);obtain⟨o1,ho1,hex1,hd1⟩:=sa1.at_;refine wpAny_bind (QyD ho1 hd1 ?_ (by rw[s1];show _<=2^24;omega));refine wpAny_pure ?_
   dsimp only
   refine wpAny_pure (h _ _ (sb1.trans (ZG _ a _)) ⟨_,_,sa1.store (by rw[eo1.size];exact Qlr ⟨m ||| 2^v,m64⟩ led),eo1⟩)
  ·rw[decide_eq_false z,if_neg (show ¬(!false&&false)=true by decide)];refine wpAny_pure ?_
   dsimp only
   have tn:tp m v led=tb (m ||| 2^v) led:=QvW ⟨m,hm⟩ ⟨v,hv⟩ led nb z;have sa2:=sa1;rw[tn] at sa2;rw[tn] at sb1 ⊢;exact wpAny_pure (h _ _ sb1 ⟨_,_,sa2,eo1⟩)
end
section
variable{prog:QC}{w:Jf}{A:Ja}{R:QjX->Shared->Prop}{I:Addr}{fp wr:List Addr}{n:Nat}{P:Nat->Value->Prop}{St:Nat->Heap->Prop}
end
section
variable{prog:QC}{w:Jf}{A:Ja}{E:Value->Shared->Prop}{s:Shared}{a:Addr}{es:Array (Int×Value)}{ep:Nat}{t:SetTable}{ps:List (List Int×Addr)}
theorem TS.other(x:TS prog w s.heap a es ep t ps){ks:List Int}{b:Addr}(hk:IsTupleKey (intKind prog w) s.heap ks b):b≠a:=λe=>by
 subst e;obtain⟨o,ho,hex,hd⟩:=x.at_.at_;obtain⟨o',it,n,ho',hc,_⟩:=hk;rw[ho] at ho';cases ho';rw[hex.1] at hc;exact absurd hc (by decide)
end
section
variable{prog:QC}{w:Jf}{A:Ja}{E:Value->Shared->Prop}{s:Shared}{a:Addr}{es:Array (Int×Value)}{ep:Nat}{t:SetTable}{ps:List (List Int×Addr)}
end
section
variable{prog:QC}{w:Jf}{A:Ja}{E:Value->Shared->Prop}{s:Shared}
def ledOf(w:Jf):Bool := !w.params.followText "set-order"
end
section
variable{prog:QC}{w:Jf}{s:Shared}{a:Addr}{es:Array (Int×Value)}{ep:Nat}{t:SetTable}{ps:List (List Int×Addr)}
variable{A:Ja}{R:QjX->Shared->Prop}{I:Addr}{fp wr:List Addr}{n:Nat}{P:Nat->Value->Prop}{St:Nat->Heap->Prop}
end
section
variable{prog:QC}{w:Jf}{A:Ja}{E:Value->Shared->Prop}{s:Shared}
end
theorem QlJ:Slot "set_iterator" "__iter__" "set_iterator.__iter__" :=
 .of (owner := "set_iterator") (n := "__iter__") (by rw[QjU,QdF];kernel_rfl) (by decide +kernel) (by decide +kernel) (by decide +kernel) (by first | exact .inl (by decide +kernel) | exact .inr (by decide +kernel)) (by rw[Qb4];kernel_rfl)
theorem QAi:entryFor table "set_iterator.__iter__" = some Y2.«dict_keyiterator.__iter__» := entryFor_alias (id' := "dict_keyiterator.__iter__") (by kernel_rfl) (by first | rfl | decide +kernel | (unfold Qsw;simp +decide [Qn0])) (by decide +kernel) (by kernel_rfl)
theorem QAt(a:Value):argsOk "set_iterator.__iter__" ⟨[a],[]⟩:=by
 unfold argsOk;rw[signature?_of (id := "set_iterator.__iter__") (n:=['_', '_', 'r', 'e', 't', 'i', '_', '_']) (o:=['r', 'o', 't', 'a', 'r', 'e', 't', 'i', '_', 't', 'e', 's']) (by kernel_rfl) QwV];kernel_rfl
theorem QuB:typeLookup (.type "set") "__len__" = pure (some (.builtin "set.__len__")):=by rw[QjU,QdF];kernel_rfl
section
variable{prog:QC}{w:Jf}{A:Ja}{E:Value->Shared->Prop}{s:Shared}
theorem Qs1{I a:Addr}{first:Value}{i n ep:Nat}{Q:Value->Shared->Prop}(hit:IsSI s.heap I first i a n ep)(h:Q (.ref I) s):wpAny (model prog w) A (pyIter (.ref I)) Q E s:=by
 refine QyF hit.typeIs QlJ (JL QlJ hit.typeIs QAi ?_ (QAt _));show wpAny _ _ (ret (.ref I)) _ _ s;exact wpAny_pure ⟨_,rfl, "set_iterator",_,hit.typeIs,Qc1.lookup,h⟩
theorem QiI{a:Addr}{es vs:Array (Int×Value)}{ep:Nat}{t:SetTable}{so:Nat->Nat}{Q:List Value->Shared->Prop}(hh:A.handled=none)(W:Way prog w a es ep t so vs)(ha:SetAt s.heap a es ep t)(hp:t.plain=true)(hn:es.size<=sizeLine)
  (hQ:∀(h':Heap)(tk:Nat),(∀b o,s.heap.get? b=some o->h'.get? b=some o)->Q (vs.toList.map (·.2)) { s with heap:=h',toks:=tk }):wpAny (model prog w) A (collect (.ref a)) Q E s:=by
 have hlt:a<s.heap.objs.size:=let ⟨o,ho,_⟩:=ha.at_;Qj ho
 unfold collect;refine wpAny_bind (wpAny_runValue (YR F.entry_proto_collect ?_));rw[ZH F.plain_proto_collect _];show wpAny _ A.in1 (newList [] >>= λl=>again (.builtin "list.__iadd__" ⟨[l,.ref a],[]⟩)) _ _ s;refine wpAny_bind (Jr (wpAny_pure ⟨Qas QvL _,YR F.entry_list_iadd ?_⟩));rw[ZH QvL _];generalize hH:s.heap.push { cls:=.type "list",data:=.seq ([]:List Value).toArray }=H;have hHs:H.objs.size=s.heap.objs.size+1:=by rw[<- hH,ZP]
 have keep:∀b o,s.heap.get? b=some o->H.get? b=some o:=λb o e=>hH ▸ Qf _ e
 have hS:H.get? s.heap.objs.size=some { cls:=.type "list",data:=.seq ([]:List Value).toArray }:=hH ▸ Qq _ rfl;have ha1:SetAt H a es ep t:=ha.at' λo e=>keep a o e
 have hT:Qvm { s with heap:=H } (.ref a) "set" := let ⟨o,ho,hx,_⟩:=ha1.at_;⟨o,ho,hx.1⟩
 show wpAny _ A.in1 (Qdr (.ref s.heap.objs.size) (.ref a) (.ref s.heap.objs.size)) _ _ { s with heap:=H };unfold Qdr;refine wpAny_bind (QdA hT ?_);have h1:Qd4 (.ref s.heap.objs.size) (.ref a)=false:=by simp[Qd4,Qay hlt]
 have h2:(QaI "set" == QaI "list")=false:=by decide
 have h3:(QaI "set" == QaI "tuple")=false:=by decide
 simp only[h1,h2,h3,Qi1,Qac,if_false];refine wpAny_bind (Qxv ha1 hp ?_);generalize hH2:Heap.push H { cls:=.type "set_iterator",data:=.fields #[.int 0 0,.int 0 0,.ref a,.int es.size 0,.int ep 0] }=H2;have keep2:∀b o,H.get? b=some o->H2.get? b=some o:=λb o e=>hH2 ▸ Qf _ e
 have hT2:Qvm { s with heap:=H2 } (.ref a) "set" := let ⟨o,ho,hc⟩:=hT;⟨o,keep2 a o ho,hc⟩
 have hI:IsSI H2 H.objs.size (.int (so 0) 0) 0 a es.size ep:=⟨_,hH2 ▸ Qq _ rfl,rfl,by rw[W.s0];rfl⟩;refine wpAny_bind (J1 ?_);show wpAny _ A.in1 _ _ _ { s with heap:=H2 };unfold Builtin.List.listLengthHint;refine wpAny_bind (wpAny_specialOf hT2 QuB ?_)
 wp_delta
 refine wpAny_bind (QhU (b:=true) hT2 (by rw[Qb4];kernel_rfl) ?_);show wpAny _ A.in1 (typeOf (Zm a) >>= _) _ _ _;refine wpAny_bind (QdA hT2 (wpAny_pure ?_));show wpAny _ A.in1 (rule "list.extend.makes-room" >>= λ_=>Builtin.List.listTouch (.ref s.heap.objs.size) >>= λ_=>again (.builtin "list.extend.loop" ⟨[.ref s.heap.objs.size,.ref H.objs.size,.ref s.heap.objs.size],[]⟩)) _ _ _;refine wpAny_bind (wpAny_rule (wpAny_bind ?_));show wpAny _ A.in1 (updateSeq s.heap.objs.size (·.push .none) >>= λ_=>updateSeq s.heap.objs.size (·.pop)) _ _ _;have hS1:=keep2 _ _ hS;refine wpAny_bind (Qbn hS1 rfl ?_);have hS2:=J5 (ZE (·.push Js)) hS1 rfl;refine Qbn hS2 rfl ?_
 have hS3:=J5 (ZE (·.pop)) hS2 rfl;generalize hH3:(H2.update s.heap.objs.size (ZE (·.push Js))).update s.heap.objs.size (ZE (·.pop))=H3 at hS3 ⊢;have oth:∀b o,b≠s.heap.objs.size->H2.get? b=some o->H3.get? b=some o:=λb o hb e=>hH3 ▸ (Zu _ _ (Qbv hb)).trans ((Zu _ _ (Qbv hb)).trans e)
 have hIS:H.objs.size≠s.heap.objs.size:=by omega
 have hne:a≠H.objs.size:=by rw[hHs];exact QD (YG hlt)
 have hSf:s.heap.objs.size∉[H.objs.size,a]:=by simp only[Qy,Jm,or_false,not_or];exact⟨by omega,Qay hlt⟩
 have WW:=(Way.walks (A:=A.in1) hh W H.objs.size hne λs Q E i st q=>Qs1 st q).toS;refine wpAny_pure ⟨Qas F.plain_extend_loop _,codeAny_extend_loopS WW hn _ hSf _ es.size 0 { s with heap:=H3 } _ _ rfl (Jc _) ⟨hI.at' λo e=>oth _ o hIS e,ha1.at' λo e=>oth a o (QD hlt) (keep2 a o e)⟩ hS3 (ItemsOf.nil _) λs' acc' c' hm hS' hacc=>?_⟩;show wpAny _ A (load s.heap.objs.size >>= _) _ _ s';refine wpAny_bind (wpAny_load hS' (wpAny_pure ?_));have hl:vs.size=es.size:=by rw[<- Q4,W.pm.length_eq,Q4]
 have he:acc'.toList=vs.toList.map (·.2):=by
  apply Zw
  intro j;rw[Qo,Qcf,Qcf];by_cases z:j<acc'.size
  ·have:=hacc.2 j acc'[j] (by simp[z]);rw[this];simp[z]
  ·rw[ZT (by omega),ZT (by have:=hacc.1;omega)];rfl
 show Q acc'.toList s';rw[he];have es':s'={ s with heap:=s'.heap,toks:=s'.toks }:=by
  obtain⟨hp',g',d',tk',os'⟩:=s';have e1:=hm.gens;have e2:=hm.drawn;have e3:=hm.os;simp only at e1 e2 e3;rw[e1,e2,e3]
 rw[es'];refine hQ _ _ λb o e=>?_
 have hb:=Qj e;refine hm.heap b o ?_ (oth b o (QD hb) (keep2 b o (keep b o e)))
 simp only[Qy,Jm,or_false,not_or];exact⟨QD hb,by rw[hHs];exact QD (YG hb)⟩
end
end Zt
namespace Zt
open PySem.W PySem.Calls Rs
theorem Qya:∀m:Fin 64,(Sm m).Pairwise (· < ·):=by decide +kernel
section
variable{prog:QC}{w:Jf}{A:Ja}{E:Value->Shared->Prop}{s:Shared}
theorem Qlh{a:Addr}{m:Nat}(hm:m<64)(x:Sml s.heap a m (ledOf w)):∃es ep so vs,Way prog w a es ep (tb m (ledOf w)) so vs/\SetAt s.heap a es ep (tb m (ledOf w))/\EsOk es (Sm m):=by
 obtain⟨es,ep,sa,eo⟩:=x.ex;cases hb:w.params.followText "set-order" with
 |true=>exact⟨es,ep,_,_,Qor hb a es ep _,sa,eo⟩
 |false=>
  have hl:ledOf w=true:=by unfold ledOf;rw[hb];rfl
  have hz:(Sm m).toArray.size=(Sm m).length:=by simp
  refine⟨es,ep,so m,es,QsM hb a es ep _ rfl hl (by rw[eo.size];exact hz) (so m) rfl (λi hi=>rfl) (λi hi=>?_),sa,eo⟩;have hi:i<=(Sm m).length:=by rw[<- hz];exact hi
  have:=Qj9 ⟨m,hm⟩;exact QsS ⟨m,hm⟩ ⟨i,by simp only at this;omega⟩ hi
theorem QjA:∀(l:List (Int×Value)),(∀e∈l,∃(v:Nat)(tk:Tok),e=((v:Int),Y7 (v:Int) tk))->Qbs (l.map (·.2)) (l.map (·.1))
 |[],_=>.nil
 |e::l,h=>by
  obtain⟨v,tk,rfl⟩:=h e (.head _);exact .cons _ tk (QjA l λe he=>h e (.tail _ he))
theorem Qgo{a:Addr}{m:Nat}{Q:List Value->Shared->Prop}(hh:A.handled=none)(hm:m<64)(x:Sml s.heap a m (ledOf w))
  (hQ:∀(h':Heap)(tk:Nat)(us:List Value)(ns:List Int),(∀b o,s.heap.get? b=some o->h'.get? b=some o)->Qbs us ns->ns.Perm ((Sm m).map λ(x:Nat)=>(x:Int))->Q us { s with heap:=h',toks:=tk }):wpAny (model prog w) A (collect (.ref a)) Q E s:=by
 obtain⟨es,ep,so,vs,W,sa,eo⟩:=Qlh (prog:=prog) hm x;refine QiI hh W sa rfl (by have:=Qj9 ⟨m,hm⟩;simp only at this;rw[eo.size,YQ];omega) λh' tk kp=>?_
 refine hQ h' tk _ (vs.toList.map (·.1)) kp (QjA _ λe he=>?_) ?_
 ·obtain⟨v,_,tk,e'⟩:=eo.mem (W.pm.mem_iff.mp he);exact⟨v,tk,e'⟩
 ·have h1:=W.pm.map (·.1);have h2:=congrArg Qj3 eo.hashes;rw[QeV] at h2;rw[h2] at h1
  simpa using h1
theorem Qg1{Q:Value->Shared->Prop}{a:Addr}{m:Nat}(hh:A.handled=none)(hm:m<64)(x:Sml s.heap a m (ledOf w))
  (h:∀(h':Heap)(tk:Nat)(us:List Value)(ns:List Int),(∀b x,s.heap.get? b=some x->h'.get? b=some x)->Qbs us ns->ns.Perm ((Sm m).map λ(x:Nat)=>(x:Int))->∀(P:PySem.Fin->Shared->Prop)(E':Value->Shared->Prop),(∀s2,Q (.ref h'.objs.size) s2->P (.done (.ret .none)) s2) ->
   wpAny (model prog w) A.in1.in1 (Y2.«list.sort» ⟨[.ref h'.objs.size],[]⟩) P E' { s with heap:=h'.push (seqObj "list" us.toArray 0),toks:=tk }) :
  wpAny (model prog w) A (call (.builtin "sorted") [.ref a]) Q E s:=by
 refine QgQ kind_sorted plain_sorted entry_sorted (args_sorted1 _) ?_
 unfold Y2.«sorted»;refine wpAny_bind (m:=checkCount "sorted" 1 1 _) (wpAny_pure ?_);refine wpAny_bind (Qgo (A:=A.in1) hh hm x λh' tk us ns kp ia pm=>?_);have hlen:us.length<=6:=by
  have h1:=ia.length;have h2:=pm.length_eq;have:=Qj9 ⟨m,hm⟩;simp only at this;rw[Qc] at h2;omega
 refine wpAny_bind (Qoa ?_ (by rw[YQ];omega));have hoL:(h'.push (seqObj "list" us.toArray 0)).get? h'.objs.size=some (seqObj "list" us.toArray 0):=Qq _ rfl;show wpAny _ _ _ _ _ { s with heap:=h'.push (seqObj "list" us.toArray 0),toks:=tk };refine wpAny_bind (J1 (JL slot_list_sort ⟨_,hoL,rfl⟩ entry_list_sort ?body (args_list_sort _)));exact h h' tk us ns kp ia pm _ _ λs2 hq=>⟨_,rfl,wpAny_pure ⟨_,rfl,hq⟩⟩
end
end Zt
namespace L2
open Zt
section
variable{X:Cx}
def Qwj(led:Bool):List V->Hp->VK->Prop:=λxs H Q=>∃(a:Addr)(m:Nat),xs=[.ref a]/\m<64/\H a=some (.ext λh=>Sml h a m led) /\
 ∀(t:Addr)(H2:Hp),Same H H2->H t=none->H2 t=some (.lst ((Sm m).map λ(n:Nat)=>V.int (n:Int)))->Q (.ref t) H2
theorem QkL(hc:X.calm=true):CallR X (.builtin "sorted") (Qwj (ledOf X.w)):=by
 intro pins s σ H xs us Q I r h;obtain⟨a,m,rfl,hm,ha,q⟩:=h;obtain⟨u,rfl,ru⟩:=vals1 r;cases ru;obtain⟨hS,_⟩:=I.hok a _ ha;refine Qg1 (I.ok.hd hc) hm hS λh' tk its ns kp ia pm P E' hP=>?_
 have hn:(h'.push (seqObj "list" its.toArray 0)).get? h'.objs.size=some (seqObj "list" its.toArray 0):=Qq _ rfl;have h6:ns.length<=6:=by
  have h2:=pm.length_eq;have:=Qj9 ⟨m,hm⟩;simp only at this;rw[Qc] at h2;omega
 have h6':=ia.length;refine Qk2 (s:={ s with heap:=h'.push (seqObj "list" its.toArray 0),toks:=tk }) hn ia (by omega) λout ns' ia' pm' pw=>hP _ ?_
 have I1:Inv X pins σ H { s with heap:=h',toks:=tk }:=I.kept (t':=tk) kp;have hf:H h'.objs.size=none:=I1.hok.fresh (Qh _);obtain⟨e,he⟩:∃e,(sortedHeap (h'.push (seqObj "list" its.toArray 0)) h'.objs.size its out).get? h'.objs.size=some (seqObj "list" out e):=Qob hn
 have rv':=QdZ ia';have en:ns'=(Sm m).map λ(n:Nat)=>(n:Int):=by
  refine Zy (le:=(·<=·)) (λa b _ _ h1 h2=>QvK h1 h2) pw ?_ (pm'.trans pm)
  rw[JR];exact(Qya ⟨m,hm⟩).imp λh=>by omega
 have rv2:Vals ((Sm m).map λ(n:Nat)=>V.int (n:Int)) out.toList:=by
  rw[en,QN] at rv';exact rv'
 have lp:=pm'.length_eq;have I2:Inv X pins σ (upd H h'.objs.size (.lst ((Sm m).map λ(n:Nat)=>V.int (n:Int)))) { s with heap:=sortedHeap (h'.push (seqObj "list" its.toArray 0)) h'.objs.size its out,toks:=tk }:=
  I1.laid (t':=tk) (λb x e'=>(Qk1 (QD (Qj e')) (QQ (Qj e') (by rw[QyM];exact QgN _))).trans (Qf _ e')) (Qh _) (show ObjOk X.prog X.w _ _ _ (.lst _) from⟨by
   have:=Qj9 ⟨m,hm⟩;simp only at this;rw[Qc];exact ZQ (Rk.Qbf (by omega)),out.toList,e,rv2,by rw[he]⟩)
 exact⟨.ref h'.objs.size,_,I2,rfl,q _ _ (JW hf) hf Jz⟩
end
end L2
namespace Dl
open L2 _root_.Rd Rk Zt
section
variable{X:Cx}{E:XK}
theorem Qp9{A:Addr->Prop}{H:Hp}{xs:List V}{ns:List Nat}(q:DAs A H xs (ns.map λ(n:Nat)=>Qg n)):xs=ns.map λ(n:Nat)=>V.int (n:Int):=by
 have e:(ns.map λ(n:Nat)=>Qg n)=(ns.map λ(n:Nat)=>(n:Int)).map .int:=by rw[QN];rfl
 rw[e] at q;rw[QaN q,QN];rfl
theorem QmQ{A:Addr->Prop}{H:Hp}(ns:List Nat):DAs A H (ns.map λ(n:Nat)=>V.int (n:Int)) (ns.map λ(n:Nat)=>Qg n):=by
 have:=QbZ (A:=A) (H:=H) (ns.map λ(n:Nat)=>(n:Int));rw[QN,QN] at this;exact this
end
end Dl
namespace L2
open PySem.Calls _root_.Rd _root_.Rk _root_.Rs Rt Dl
section
variable{X:Cx}
end
end L2
namespace Zt
section
variable{prog:QC}{w:Jf}{A:Ja}{E:Value->Shared->Prop}{s:Shared}
end
end Zt
namespace Rk
open L2 _root_.Rd Dl Rt
def tN(ns:List Int):PyData:=.tuple (ns.map Qg)
end Rk
namespace L2
open Zt _root_.Rd _root_.Rk Dl Rt
section
variable{X:Cx}
end
end L2
namespace Dl
open L2 _root_.Rd Rk Zt Rt
section
variable{X:Cx}{E:XK}
end
end Dl
namespace Zt
section
variable{prog:QC}{w:Jf}{A:Ja}{E:Value->Shared->Prop}{s:Shared}
theorem Qun{Q:Value->Shared->Prop}(h:Q (.ref s.heap.objs.size) { s with heap:=s.heap.push { cls:=.type "set",dict:=none,data:=.set #[] 0 (.fresh 0 0 (ledOf w)) } }):wpAny (model prog w) A (newSet (.type "set")) Q E s:=by
 unfold newSet
 wp_walk
 refine Z6 (wpAny_pure ?_);dsimp only;simp only[newObj];refine wpAny_bind (wpAny_alloc (wpAny_pure ?_));exact h
end
end Zt
namespace L2
open Zt
theorem Qhu(elt target iter:Q1)(ifs:List Q1)(scope:YV)(pos:Pos)(it acc:Value)(env:Env) :
  compTurn (.SetComp elt [⟨target,iter,ifs,0⟩] scope pos) 0 it acc env=(do
   standAt iter.pos
   let r <- pyNext it
   match r with
   |none=>pure (.done .next)
   |some v=>
    letOwnedTupleGo target it v
    assign target env v
    let ok <- Qh6 ifs env
    if ok then
     (do let x <- eval elt env;standAt elt.pos;let _ <- call (.builtin "set.add") [acc,x])
    again (.compLoop (.SetComp elt [⟨target,iter,ifs,0⟩] scope pos) 0 it acc env)):=by rfl
section
variable{prog:QC}{w:Jf}{A:Ja}{R:QjX->Shared->Prop}{s:Shared}
theorem QbM{elt target iter ifs rest scope pos it acc env}
  (h0:codeAny (model prog w) A (.compLoop (.SetComp elt (⟨target,iter,ifs,0⟩::rest) scope pos) 0 it acc env) R s)
  (h:wpAny (model prog w) A (pyIter it) (λit' s'=>codeAny (model prog w) A (.compLoop (.SetComp elt (⟨target,iter,ifs,0⟩::rest) scope pos) 0 it' acc env) R s') (notedBy (model prog w) A env λx s'=>R (.error x) s') s) :
  codeAny (model prog w) A (.compStart (.SetComp elt (⟨target,iter,ifs,0⟩::rest) scope pos) 0 it acc env) R s:=by
 refine QjW ?_
 show wpAny _ _ ((compStart (.SetComp elt (⟨target,iter,ifs,0⟩::rest) scope pos) 0 it acc env).onRaise (λx=>do noteFrame x env;standAt theWindowsPlace)) _ _ s;refine wpAny_notedAt ?_
 unfold compStart;show wpAny _ _ (ask >>= _) _ _ s;refine wpAny_bind (Z6 (wpAny_ite ?_));split
 ·first | exact wpAny_bind (wpAny_pure (wpAny_pure (QvN rfl h0))) | exact wpAny_pure (QvN rfl h0)
 ·refine wpAny_bind (wpAny_rule ?_);show wpAny _ _ (standAt iter.pos >>= _) _ _ s;refine wpAny_bind (wpAny_standAt (wpAny_bind (wpAny_mono h (λit2 s2 q=>wpAny_pure (QvN rfl q)) λ_ _ e=>e)))
end
def QnT(Y:Cx)(elt:Q1)(D:Addr):Act:=λQ s=>wpAny (model Y.prog Y.w) Y.A (eval elt Y.env) (λv s6=>wpAny (model Y.prog Y.w) Y.A (call (.builtin "set.add") [.ref D,v]) (λ_ s7=>Q s7) (λ_ _=>False) s6) (λ_ _=>False) s
theorem Qka{Y:Cx}{σ:St}{tg:Q1}{elt:Q1}{gens:List QcA}{scope:YV}{cpos:Pos}{d:Nat}{it D:Addr}{fp:List Addr}{tn:Nat->Heap->Prop}{J:It}{pins:List (Addr×Obj)}{s:Shared}{H:Hp}{body:V->Hp->(Hp->Prop)->Prop}{Qn:Hp->Prop}{R:QjX->Shared->Prop}{act:Value->Act}
  (hc:Y.calm=true)(T:Turn Y.prog Y.w Y.K tg J fp it tn)(st:tn 0 s.heap)(hf:∀b∈fp,FpOk Y pins H b)
  (hturn:∀(Q:PySem.Fin->Shared->Prop)(E:Value->Shared->Prop)(s:Shared),wpAny (model Y.prog Y.w) Y.A (pyNext (.ref it)) (λr s1=>match r with
   |none=>Q (.done .next) s1
   |some v=>wpAny (model Y.prog Y.w) Y.A (letOwnedTupleGo tg (.ref it) v) (λ_ s2=>act v (λs3=>Q (.again (.compLoop (.SetComp elt gens scope cpos) d (.ref it) (.ref D) Y.env)) s3) s2) E s1) E s ->
   wpAny (model Y.prog Y.w) Y.A (compTurn (.SetComp elt gens scope cpos) d (.ref it) (.ref D) Y.env) Q E s)
  (hact:∀(x:V)(u:Value),RelV x u->BodyOk Y σ (act u) (body x))
  (I:Inv Y pins σ H s)(h:Qia J body Qn H)(hR:∀s' H',Inv Y pins σ H' s'->Qn H'->R (.ok .next) s') :
  codeAny (model Y.prog Y.w) Y.A (.compLoop (.SetComp elt gens scope cpos) d (.ref it) (.ref D) Y.env) R s:=by
 obtain⟨W,⟨m0,w0⟩,turn⟩:=h;have stat:∀{H':Hp},(∀b∈fp,H' b=none)->∀b∈fp,FpOk Y pins H' b:=λhn b hb=>⟨hn b hb,(hf b hb).2⟩
 refine codeAny_loop rfl (λn s'=>∃i H',Inv Y pins σ H' s'/\tn i s'.heap/\(∀b∈fp,H' b=none)/\W i n H') (λn s3 hI=>?_) m0 ⟨0,H,I,st,λb hb=>(hf b hb).1,w0⟩;show wpAny _ Y.A ((compTurn (.SetComp elt gens scope cpos) d (.ref it) (.ref D) Y.env).onRaise (λx=>do noteFrame x Y.env;theTreesLotGoes x)) _ _ s3;refine wpAny_noted (hturn _ _ _ ?_);obtain⟨i,H3,I3,st3,fr3,w3⟩:=hI;rcases turn i n H3 w3 with⟨stop,qn⟩ | ⟨go,step⟩
 ·refine thn (T.done Y rfl rfl rfl hc i pins s3 σ H3 _ I3 (stat fr3) st3 stop) λr s4 ⟨hr,I4⟩=>?_
  subst hr;exact hR s4 H3 I4 qn
 ·refine thn (T.item Y rfl rfl rfl hc i pins s3 σ H3 _ I3 (stat fr3) st3 go) λr s4 ⟨u,hr,h4⟩=>?_
  subst hr;refine thn h4 λ_ s5 ⟨x,H5,I5,r5,y5,st5,fr5⟩=>?_
  have I5':=I5.pinned (stat fr5) (T.obj _ _ st5);refine hact x u r5 _ s5 H5 _ _ I5' (step x H5 y5) λs7 H7 I7 ⟨m',hm,w7⟩=>?_
  refine⟨rfl,m',hm,i+1,H7,I7.unpinned,T.keep _ _ _ st5 λb hb o e=>(I7.pin (b,o) (Qu _ (Qu _ (Yc hb e)))).1,λb hb=>?_,w7⟩;obtain⟨o,e,dd⟩:=T.obj _ _ st5 b hb;exact(I7.pin (b,o) (Qu _ (Qu _ (Yc hb e)))).2.1
theorem Qlz{Y:Cx}{elt tg iter:Q1}{ifs:List Q1}{scope:YV}{cpos:Pos}{it D:Addr}(Q:PySem.Fin->Shared->Prop)(E:Value->Shared->Prop)(s:Shared)
  (h:wpAny (model Y.prog Y.w) Y.A (pyNext (.ref it)) (λr s1=>match r with
   |none=>Q (.done .next) s1
   |some v=>wpAny (model Y.prog Y.w) Y.A (letOwnedTupleGo tg (.ref it) v) (λ_ s2=>QnR Y tg ifs (QnT Y elt D) v (λs3=>Q (.again (.compLoop (.SetComp elt [⟨tg,iter,ifs,0⟩] scope cpos) 0 (.ref it) (.ref D) Y.env)) s3) s2) E s1) E s) :
  wpAny (model Y.prog Y.w) Y.A (compTurn (.SetComp elt [⟨tg,iter,ifs,0⟩] scope cpos) 0 (.ref it) (.ref D) Y.env) Q E s:=by
 rw[Qhu];refine wpAny_bind (wpAny_standAt (wpAny_bind (thn h λr s1 h1=>?_)));cases r with
 |none=>exact wpAny_pure h1
 |some v=>
  refine wpAny_bind (thn h1 λ_ s2 h2=>?_);refine wpAny_bind (wpAny_mono h2 (λ_ s4 h4=>wpAny_bind (wpAny_mono h4 (λok s5 h5=>?_) λ_ _ f=>f.elim)) λ_ _ f=>f.elim);cases ok with
  |false=>exact wpAny_pure h5
  |true=>exact wpAny_bind (wpAny_bind (wpAny_mono h5 (λx s6 h6=>wpAny_bind (wpAny_standAt (wpAny_bind (wpAny_mono h6 (λ_ s7 h7=>wpAny_pure (wpAny_pure h7)) λ_ _ f=>f.elim)))) λ_ _ f=>f.elim))
theorem call_addI{prog:QC}{w:Jf}{A:Ja}{E:Value->Shared->Prop}{s:Shared}{a:Addr}{u:Value}{Q:Value->Shared->Prop}(ty:s.TypeIs (.ref a) "set")(h:wpAny (model prog w) A.in1 (setAdd a u) (λ_ s'=>Q .none s') E s):wpAny (model prog w) A (call (.builtin "set.add") [.ref a,u]) Q E s:=by
 refine JL F.slot_set_add ty F.entry_set_add ?_ (F.args_set_add_2 _ _)
 unfold Y2.«set.add»;refine wpAny_bind ?_
 obtain⟨hp,g,d,tk,os⟩:=s;unfold QsG;generalize setAdd=SA at h ⊢
 wp_walk
 refine wpAny_mono h (λ_ s' q=>?_) λ_ _ e=>e
 exact wpAny_pure ⟨_,rfl,q⟩
def smX(p:Addr)(m:Nat)(led:Bool):Heap->Prop:=λh=>Sml h p m led
def QxZ(W:Jf)(p:Addr)(te:TE):St->Hp->(Hp->Prop)->Prop:=λσ H k=>te σ H λv H6=>∃(c m:Nat),v=.int (c:Int)/\c<6/\m<64/\H6 p=some (.ext (smX p m (ledOf W)))/\k (upd H6 p (.ext (smX p (m ||| 2^c) (ledOf W))))
theorem QrJ{P:QC}{W:Jf}{H:Hp}{h:Heap}{a:Addr}{m:Nat}{led:Bool}(x:Sml h a m led):ObjOk P W H h a (.ext (smX a m led)):=by
 refine⟨x,?_,λh1 h2 x k=>?_⟩
 ·obtain⟨es,ep,sa,_⟩:=x.ex;obtain⟨o,ho,_⟩:=sa.at_;exact⟨o,ho⟩
 ·exact Sml.at' (show Sml h1 a m led from x) k
theorem QsZ{X:Cx}{pins:List (Addr×Obj)}{σ:St}{H:Hp}{s:Shared}(I:Inv X pins σ H s):Inv X pins σ (upd H s.heap.objs.size (.ext (smX s.heap.objs.size 0 (ledOf X.w)))) { s with heap:=s.heap.push { cls:=.type "set",dict:=none,data:=.set #[] 0 (.fresh 0 0 (ledOf X.w)) } }:=by
 refine I.laid (t':=s.toks) (λb x e=>Qf _ e) (Qh _) (QrJ ⟨#[],0,⟨⟨_,Qq _ rfl,⟨rfl,rfl,rfl⟩,?_⟩,Qlr ⟨0,by decide⟩ _⟩,⟨[],by decide,by decide⟩⟩);rw[QsR]
theorem QnK{Y:Cx}{σ:St}{elt:Q1}{te:TE}{D:Addr}(hx:Y.xe=λ_ _=>False)(he:PE Y elt te):BodyOk Y σ (QnT Y elt D) (QxZ Y.w D te σ):=by
 intro pins s H k Q I h hQ;have hx':∀(v:Value)(s':Shared),Y.xe v s'->False:=λv s' z=>by rw[hx] at z;exact z
 refine wpAny_mono (he pins s σ H _ I h) (λv s6 ⟨y,H6,I6,r6,c,m,ey,hc,hm,eD,k1⟩=>?_) hx';subst ey;obtain⟨tk,rfl⟩:∃tk,v=.int (c:Int) tk:=by
  first
  |exact r6
  |(cases r6;exact⟨_,rfl⟩)
 obtain⟨sq,_,_⟩:=(show ObjOk Y.prog Y.w H6 s6.heap D (.ext _) from I6.hok D _ eD);have x:Sml s6.heap D m (ledOf Y.w):=sq;obtain⟨es,ep,sa,eo⟩:=x.ex;obtain⟨o,ho,hex,hd⟩:=sa.at_;have mu:Mut (H6 D):=by rw[eD];exact Qbu
 refine call_addI ⟨o,ho,hex.1⟩ ?_
 unfold setAdd;refine J1 (wpAny_bind (wpAny_pyHash_int ?_));refine QnQ hm hc x λh' b sb x'=>?_
 refine hQ _ _ ?_ k1
 obtain⟨es',ep',sa',_⟩:=x'.ex;obtain⟨o',ho',_⟩:=sa'.at_;exact I6.write (t':=s6.toks+1) (x:=D) (e:=D) mu (.inl rfl) (λb u hb z=>(sb.2 b hb).trans z) ⟨o',ho'⟩ (QrJ x')
def Qv3(W:Jf)(cap:List (Option Nat))(wi:TI)(g:TG)(tc:TT)(te:TE):TE:=λσ H Q=>wi σ H λJ H1=>∀p,H1 p=none->Qia J (bOf (QcS cap σ) g tc (QxZ W p te)) (Q (.ref p)) (upd H1 p (.ext (smX p 0 (ledOf W))))
theorem Qma{X:Cx}{M:List Str}{cap:List (Option Nat)}{elt tg iter:Q1}{ifs:List Q1}{scope:YV}{pos:Pos}{wi:TI}{g:TG}{tc:TT}{te:TE}{i:Nat}{y:Str}{py spos:Pos}(hN:X.N.Nodup)(hiy:X.N[i]? = some y)(hly:X.env.scope.names.lookup y=some .local)(hc:X.calm=true)(ok:Qe1 X.N X.env.scope M scope cap=true)
  (hi:PI X tg iter wi)(hb:∀cl ex s3 H3 C,PG (blk X M scope cl ex s3 H3 C) tg g/\PTs (blk X M scope cl ex s3 H3 C) ifs tc/\PE (blk X M scope cl ex s3 H3 C) elt te)
  (hs:∀x,foldedSetIterable iter X.env x=pure x:=by intro _;rfl)(hsw:swapsWith (.SetComp elt [⟨tg,iter,ifs,0⟩] scope pos) (some (.Name y py)) spos.line X.env=pure true:=by rfl):PS X (.Assign [.Name y py] (.SetComp elt [⟨tg,iter,ifs,0⟩] scope pos) spos) (Qox (Qv3 X.w cap wi g tc te) (QdH i)):=by
 intro pins s σ H D I h;have c:=CapOk.of ok;rw[QdD _ _ _ _ hsw];refine wpAny_bind (wpAny_standAt (wpAny_bind ?_));show wpAny _ X.A (do let _ <- comprehension (.SetComp elt [⟨tg,iter,ifs,0⟩] scope pos) scope X.env _ (newSet (.type "set")) false (eval iter X.env) (some (assign (.Name y py) X.env))) _ _ s;refine wpAny_bind (wpAny_mono (Qal (use:=some (assign (.Name y py) X.env)) (Q:=λ_ s'=>SP X pins D .next s') rfl hs (Qgp (I.ok.cells c)) c.kind c.loc ?_) (λ_ s' hq=>wpAny_pure (wpAny_pure hq)) λ_ _ e=>e);refine thn (hi pins s σ H _ I h) λv s1 h1=>thn h1 λitv s2 h2=>?_
 obtain⟨it,fp,tn,J,H2,e,I2,T,st2,f2,hW⟩:=h2;subst e;refine Qun (Qa8 c.cell (by intro y hy;simp at hy) (λh₁ hns₁ hsb₁=>?_) c.kind);have I3:Inv X pins σ (upd H2 s2.heap.objs.size (.ext (smX s2.heap.objs.size 0 (ledOf X.w)))) { s2 with heap:=s2.heap.push { cls:=.type "set",dict:=none,data:=.set #[] 0 (.fresh 0 0 (ledOf X.w)) } }:=QsZ I2;have lt2:∀b∈fp,b<s2.heap.objs.size:=λb hb=>by obtain⟨o,e,_⟩:=T.obj _ _ st2 b hb;exact Qj e
 have f3:∀b∈fp,FpOk X pins (upd H2 s2.heap.objs.size (.ext (smX s2.heap.objs.size 0 (ledOf X.w)))) b:=λb hb=>(f2 b hb).upd (QD (lt2 b hb))
 generalize hs3:({ s2 with heap:=s2.heap.push { cls:=.type "set",dict:=none,data:=.set #[] 0 (.fresh 0 0 (ledOf X.w)) } }:Shared)=s3 at I3;have e3:s3.heap=s2.heap.push { cls:=.type "set",dict:=none,data:=.set #[] 0 (.fresh 0 0 (ledOf X.w)) }:=by rw[<- hs3]
 have z3:s3.heap.objs.size=s2.heap.objs.size+1:=by rw[e3,ZP]
 have hk:∀b o,s3.heap.get? b=some o->h₁.get? b=some o:=λb o e=>hsb₁.extBut b o (by
  have:=Qj e;rw[e3] at this;exact QD this) (Qf _ (e3 ▸ e))
 have hn₁:h₁.Ns s3.heap.objs.size λ_=>none:=by rw[e3];exact hns₁
 have B:=QcO (t4:=s3.toks+([]:List (Str×Value)).length) (fp:=fp) I3 c f3 (λb hb=>by rw[z3];exact YG (lt2 b hb)) hn₁ hk;have st4:tn 0 h₁:=T.keep _ _ _ st2 λb hb o e=>hk b o (by rw[e3];exact Qf _ e)
 have fp4:∀b∈fp,FpOk (blk X M scope (Qbl X.env scope.names []) fp s3 (upd H2 s2.heap.objs.size (.ext (smX s2.heap.objs.size 0 (ledOf X.w)))) s3.heap.objs.size) [] (upd H2 s2.heap.objs.size (.ext (smX s2.heap.objs.size 0 (ledOf X.w)))) b:=λb hb=>by
  refine⟨(f3 b hb).1,(B.ok.exf b hb).1,B.ok.exfs b hb,.inl hb,(B.ok.exf b hb).2,λp hp=>(nomatch hp)⟩
 obtain⟨hg,ht,he⟩:=hb (Qbl X.env scope.names []) fp s3 (upd H2 s2.heap.objs.size (.ext (smX s2.heap.objs.size 0 (ledOf X.w)))) s3.heap.objs.size;have loop:codeAny (model X.prog X.w) X.A (.compLoop (.SetComp elt [⟨tg,iter,ifs,0⟩] scope pos) 0 (.ref it) (.ref s2.heap.objs.size) (compEnvC scope (Qbl X.env scope.names []) s3.heap.objs.size X.env))
   (compPost (model X.prog X.w) X.A X.xe (some (assign (.Name y py) X.env)) (λ_ s'=>SP X pins D .next s') (.ref s2.heap.objs.size) s3.heap.objs.size) { s3 with heap:=h₁,toks:=s3.toks+([]:List (Str×Value)).length }:=by
  refine Qka (Y:=blk X M scope (Qbl X.env scope.names []) fp s3 (upd H2 s2.heap.objs.size (.ext (smX s2.heap.objs.size 0 (ledOf X.w)))) s3.heap.objs.size) (gens:=[⟨tg,iter,ifs,0⟩]) (d:=0) hc T st4 fp4
   (λQ E s h=>Qlz Q E s h) (λx u r=>QeI rfl hg ht (λσ4=>QnK rfl he) x u r) B (hW _ (I2.hok.fresh (Qh _))) λs' H' I' q=>?_
  exact QaR (Q:=λ_ s'=>SP X pins D .next s') I3 f3 I' hN hiy hly λs2' J2=>⟨_,H',J2,q⟩
 exact QbM loop (T.self _ 0 _ _ _ st4 loop)
end L2
namespace L2
section
variable{κ:Type}[DecidableEq κ]
end
section
variable{P:QC}{w:Jf}{H:Hp}{h:Heap}{a:Addr}
end
section
variable{X:Cx}{pins:List (Addr×Obj)}{σ:St}{H:Hp}{s:Shared}{a:Addr}{y v:V}{u r:Value}{o:Option V}{A:Ja}{E:Value->Shared->Prop}
end
section
variable{X:Cx}{pins:List (Addr×Obj)}{σ:St}{H:Hp}{s:Shared}{a:Addr}{kvs:List (Key×V)}{k:Key}{u:Value}{A:Ja}{E:Value->Shared->Prop}
end
section
variable{X:Cx}{o i e value:Q1}{pos pos' tpos:Pos}{td ty tv:TE}
end
section
variable{X:Cx}{pos:Pos}
end
section
variable{X:Cx}{pins:List (Addr×Obj)}{σ:St}{H:Hp}{s:Shared}{a:Addr}{y d:V}{u r:Value}{o:Option V}{A:Ja}{E:Value->Shared->Prop}
end
section
variable{X:Cx}{o e f:Q1}{apos cpos:Pos}{td ty tx:TE}
end
section
variable{X:Cx}{pins:List (Addr×Obj)}{σ:St}{H:Hp}{s:Shared}{a:Addr}{kvs:List (Key×V)}{A:Ja}{E:Value->Shared->Prop}
end
section
variable{X:Cx}{pins:List (Addr×Obj)}{σ:St}{H:Hp}{s:Shared}{a:Addr}{y:V}{u:Value}{A:Ja}{E:Value->Shared->Prop}
end
section
variable{X:Cx}{pins:List (Addr×Obj)}{σ:St}{l it S fa:Addr}{xs:List V}{kw:List (Str×Value)}{val:Nat->Int}{H0:Hp}{R:QjX->Shared->Prop}
def bstI(val:Nat->Int)(j:Nat):Nat:=argBest (λa b=>decide (val a<val b)) j
def Qan(S:Addr)(H0 H:Hp):Prop:=∀b o,b≠S->H0 b=some o->H b=some o
def QgB(X:Cx)(σ:St)(S fa:Addr)(xs:List V)(val:Nat->Int)(H0:Hp):Prop:=
 ∀(i:Nat)(x:V)(u:Value)(pins':List (Addr×Obj))(s:Shared)(H:Hp)(E:Value->Shared->Prop),xs[i]? = some x->RelV x u->Inv X pins' σ H s->Qan S H0 H ->
  wpAny (model X.prog X.w) X.A.in1 (call (.ref fa) [u]) (λr s'=>∃t H',r=.int (val i) t/\Inv X pins' σ H' s'/\Same H H') E s
theorem Qim{s:Shared}{H:Hp}{ys zs:List V}{vs:List Value}(I:Inv X pins σ H s)(e:H S=some (.lst ys))(r:Vals zs vs)(hz:zs.length<=sizeLine):Inv X pins σ (upd H S (.lst zs)) { s with heap:=s.heap.update S (ZE λ_=>vs.toArray) }:=by
 obtain⟨_,its,n,rv,ln,ho⟩:=I.lstM e;refine I.write (t':=s.toks) (x:=S) (e:=S) (by rw[e];exact Qbu) (.inl rfl) (λb u hb z=>(Zu _ _ (Qbv hb)).trans z) ⟨_,J5 _ ho rfl⟩ ⟨hz,vs,_,r,J5 _ ho rfl⟩
theorem Qho(hl:H0 l=some (.lst xs))(hlS:l≠S)(hkey:QgB X σ S fa xs val H0)(hc:X.calm=true)
  (hR:∀u s' H' x,xs[bstI val (xs.length - 1)]? = some x->RelV x u->Inv X pins σ H' s'->Qan S H0 H'->R (.ok (.ret u)) s') :
  ∀(k j:Nat)(s:Shared)(H:Hp)(x:V),xs.length - (j+1)=k->j+1<=xs.length->Inv X pins σ H s->FpOk X pins H it->s.heap.IsListIter it l (j+1)->Qan S H0 H->H S=some (.lst [x,.int (val (bstI val j))])->xs[bstI val j]? = some x ->
  codeAny (model X.prog X.w) X.A (.builtin "min.loop" ⟨[.ref it,.ref fa,.ref S],kw⟩) R s:=by
 have hname:(toString "min" ++ toString ".loop" : String) = "min.loop" := by decide
 intro k;induction k with
 |zero=>
  intro j s H x hk hj I hf st kp eS hx;have hin:j+1=xs.length:=by omega
  obtain⟨_,its,n,rv,ln,ho⟩:=I.lstM eS;obtain⟨u,w',e2,r1,r2⟩:∃u w',its=[u,w']/\RelV x u/\RelV (.int (val (bstI val j))) w':=by
   match its,rv with
   |[u,w'],.cons a (.cons b .nil)=>exact⟨u,w',rfl,a,b⟩
  subst e2;obtain⟨hz,its,n2,rl,ll,hol⟩:=I.lstM (kp _ _ hlS hl);obtain⟨f0,f1,f2,f3,f4,f5⟩:=hf;refine YR Qcs ?_
  rw[ZH Z5 _];show wpAny _ X.A.in1 (seqItems? (.ref S) >>= _) _ _ s;refine wpAny_bind (Zq ho rfl ?_);show wpAny _ X.A.in1 (tryCatch (pyNext (.ref it)) _ >>= _) _ _ s;refine wpAny_bind (Y6 (QdB (I.ok.hd hc) st ⟨_,hol,rfl,_,rfl⟩ (by simp;omega) λh' eb=>?_));have I1:Inv X pins σ H { s with heap:=h' }:=I.turned (t':=s.toks) (λb o hb e=>eb b o hb e) f0 f1 f3 f4 f5;have ho1:h'.get? S=_:=eb S _ (λz=>by rw[z,f0] at eS;cases eS) ho;show wpAny _ X.A.in1 (updateSeq S (λ_=>#[]) >>= _) _ _ _;refine wpAny_bind ?_
  refine Qbn ho1 rfl (wpAny_bind (Qbo (wpAny_pure ?_)));refine hR u _ _ x (by rw[<- hin];exact hx) r1 (Qim (vs:=[]) (zs:=[]) I1 eS .nil (Jc _)) λb o hb e=>?_
  rw[JX hb];exact kp b o hb e
 |succ k ih=>
  intro j s H x hk hj I hf st kp eS hx;have hlt:j+1<xs.length:=by omega
  obtain⟨_,its,n,rv,ln,ho⟩:=I.lstM eS;obtain⟨u,w',e2,r1,r2⟩:∃u w',its=[u,w']/\RelV x u/\RelV (.int (val (bstI val j))) w':=by
   match its,rv with
   |[u,w'],.cons a (.cons b .nil)=>exact⟨u,w',rfl,a,b⟩
  subst e2;obtain⟨tw,rfl⟩:=r2;obtain⟨hz,its,n2,rl,ll,hol⟩:=I.lstM (kp _ _ hlS hl);obtain⟨v,hv,rv2⟩:=rl.get (i:=j+1) (x:=xs[j+1]) (Qe hlt);obtain⟨f0,f1,f2,f3,f4,f5⟩:=id hf;have nS:S≠it:=λz=>by rw[z,f0] at eS;cases eS
  refine YR Qcs ?_
  rw[ZH Z5 _];show wpAny _ X.A.in1 (seqItems? (.ref S) >>= _) _ _ s;refine wpAny_bind (Zq ho rfl ?_);show wpAny _ X.A.in1 (tryCatch (pyNext (.ref it)) _ >>= _) _ _ s;refine wpAny_bind (Y6 (QcT st ⟨_,hol,rfl,_,rfl⟩ (x:=v) (by simpa using hv) λh' st' sb=>?_));have I1:Inv X pins σ H { s with heap:=h' }:=I.turned (t':=s.toks) (λb o hb e=>(sb.2 b hb).trans e) f0 f1 f3 f4 f5;have pn:∀b∈[it],∃o,h'.get? b=some o/\∀v,o.data≠.cell v:=λb hb=>by
   have e:b=it:=by simpa using hb
   subst e;obtain⟨o,e,c,d⟩:=st';exact⟨o,e,λv z=>by rw[d] at z;cases z⟩
  have hfA:∀b∈[it],FpOk X pins H b:=λb hb=>by
   have e:b=it:=by simpa using hb
   rw[e];exact hf
  have I1p:=I1.pinned (fp:=[it]) hfA pn;show wpAny _ X.A.in1 (tryCatch (holding [v] (call (.ref fa) [v])) _ >>= _) _ _ _;refine wpAny_bind (Y6 (J1 (wpAny_mono (hkey (j+1) _ v _ _ H _ (Qe hlt) rv2 I1p kp) (λr s2 ⟨t,H2,er,I2p,s12⟩=>?_) λ_ _ e=>e)));subst er;have I2:=I2p.unpinned;have it2:s2.heap.IsListIter it l (j+1+1):=st'.at λo e=>(I2p.pin (it,o) (Qu _ (Qu _ (Yc (Qx.mpr rfl) e)))).1
  have f02:H2 it=none:=by
   obtain⟨o,e,_⟩:=id st';exact(I2p.pin (it,o) (Qu _ (Qu _ (Yc (Qx.mpr rfl) e)))).2.1
  have hf2:FpOk X pins H2 it:=⟨f02,f1,f2,f3,f4,f5⟩;have kp2:Qan S H0 H2:=λb o hb e=>s12 _ _ (kp b o hb e)
  have eS2:=s12 _ _ eS;obtain⟨_,its2,n3,rv3,ln3,ho2⟩:=I2.lstM eS2;show wpAny _ X.A.in1 (tryCatch (holding [v,.int (val (j+1)) t] (richCompare .Lt (.int (val (j+1)) t) (.int (val (bstI val j)) tw) >>= _)) _ >>= _) _ _ _;refine wpAny_bind (Y6 (J1 (wpAny_bind (HT.Qjl _ _ _ _ _ _ _ _ _ _ ?_))));refine wpAny_bind (J1 (Zl ?_));refine wpAny_bind (Qbo (wpAny_pure ?_));have eb:bstI val (j+1)=if decide (val (j+1)<val (bstI val j))=true then j+1 else bstI val j:=rfl
  cases hb:decide (val (j+1)<val (bstI val j)) with
  |true=>
   rw[hb,if_pos rfl] at eb;simp only[if_true];refine wpAny_bind ?_
   refine Qbn ho2 rfl (wpAny_bind (Qbo ?_));rw[hname];have I3:=Qim (vs:=[v,.int (val (j+1)) t]) (zs:=[xs[j+1],.int (val (j+1))]) I2 eS2 (.cons rv2 (.cons ⟨t,rfl⟩ .nil)) (by show 2<=sizeLine;decide);refine wpAny_pure ⟨Qas Z5 _,ih (j+1) _ _ xs[j+1] (by omega) hlt I3 ⟨by rw[JX (Qbv nS)];exact f02,f1,f2,f3,f4,f5⟩ (it2.at λo e=>(Zu _ _ nS).trans e) (λb o hb e=>by rw[JX hb];exact kp2 b o hb e) (by rw[eb];exact Jz) (by rw[eb];exact Qe hlt)⟩
  |false=>
   rw[hb,if_neg Qi] at eb;simp only[Qac,if_false];refine wpAny_bind (Qbo ?_);rw[hname];exact wpAny_pure ⟨Qas Z5 _,ih (j+1) _ _ x (by omega) hlt I2 hf2 it2 kp2 (by rw[eb];exact eS2) (by rw[eb];exact hx)⟩
theorem Qf6(hl:H0 l=some (.lst xs))(hlS:l≠S)(hkey:QgB X σ S fa xs val H0)(hc:X.calm=true)(hn:0<xs.length)
  (hR:∀u s' H' x,xs[bstI val (xs.length - 1)]? = some x->RelV x u->Inv X pins σ H' s'->Qan S H0 H'->R (.ok (.ret u)) s'){s:Shared}{H:Hp}(I:Inv X pins σ H s)(hf:FpOk X pins H it)(st:s.heap.IsListIter it l 0)(kp:Qan S H0 H)(eS:H S=some (.lst [])) :
  codeAny (model X.prog X.w) X.A (.builtin "min.loop" ⟨[.ref it,.ref fa,.ref S],kw⟩) R s:=by
 have hname:(toString "min" ++ toString ".loop" : String) = "min.loop" := by decide
 obtain⟨_,its,n,rv,ln,ho⟩:=I.lstM eS;cases rv;obtain⟨hz,its,n2,rl,ll,hol⟩:=I.lstM (kp _ _ hlS hl);obtain⟨v,hv,rv2⟩:=rl.get (i:=0) (x:=xs[0]) (Qe hn);obtain⟨f0,f1,f2,f3,f4,f5⟩:=id hf;have nS:S≠it:=λz=>by rw[z,f0] at eS;cases eS
 refine YR Qcs ?_
 rw[ZH Z5 _];show wpAny _ X.A.in1 (seqItems? (.ref S) >>= _) _ _ s;refine wpAny_bind (Zq ho rfl ?_);show wpAny _ X.A.in1 (tryCatch (pyNext (.ref it)) _ >>= _) _ _ s;refine wpAny_bind (Y6 (QcT st ⟨_,hol,rfl,_,rfl⟩ (x:=v) (by simpa using hv) λh' st' sb=>?_));have I1:Inv X pins σ H { s with heap:=h' }:=I.turned (t':=s.toks) (λb o hb e=>(sb.2 b hb).trans e) f0 f1 f3 f4 f5;have pn:∀b∈[it],∃o,h'.get? b=some o/\∀v,o.data≠.cell v:=λb hb=>by
  have e:b=it:=by simpa using hb
  subst e;obtain⟨o,e,c,d⟩:=st';exact⟨o,e,λv z=>by rw[d] at z;cases z⟩
 have hfA:∀b∈[it],FpOk X pins H b:=λb hb=>by
  have e:b=it:=by simpa using hb
  rw[e];exact hf
 have I1p:=I1.pinned (fp:=[it]) hfA pn;show wpAny _ X.A.in1 (tryCatch (holding [v] (call (.ref fa) [v])) _ >>= _) _ _ _;refine wpAny_bind (Y6 (J1 (wpAny_mono (hkey 0 _ v _ _ H _ (Qe hn) rv2 I1p kp) (λr s2 ⟨t,H2,er,I2p,s12⟩=>?_) λ_ _ e=>e)));subst er;have I2:=I2p.unpinned;have it2:s2.heap.IsListIter it l (0+1):=st'.at λo e=>(I2p.pin (it,o) (Qu _ (Qu _ (Yc (Qx.mpr rfl) e)))).1
 have f02:H2 it=none:=by
  obtain⟨o,e,_⟩:=id st';exact(I2p.pin (it,o) (Qu _ (Qu _ (Yc (Qx.mpr rfl) e)))).2.1
 have eS2:=s12 _ _ eS;obtain⟨_,its2,n3,rv3,ln3,ho2⟩:=I2.lstM eS2;show wpAny _ X.A.in1 (updateSeq S (λ_=>#[v,.int (val 0) t]) >>= _) _ _ _;refine wpAny_bind ?_
 refine Qbn ho2 rfl ?_
 rw[hname];have I3:=Qim (vs:=[v,.int (val 0) t]) (zs:=[xs[0],.int (val 0)]) I2 eS2 (.cons rv2 (.cons ⟨t,rfl⟩ .nil)) (by show 2<=sizeLine;decide);exact wpAny_pure ⟨Qas Z5 _,Qho hl hlS hkey hc hR _ 0 _ _ xs[0] rfl hn I3 ⟨by rw[JX (Qbv nS)];exact f02,f1,f2,f3,f4,f5⟩ (it2.at λo e=>(Zu _ _ nS).trans e) (λb o hb e=>by rw[JX hb];exact s12 _ _ (kp b o hb e)) Jz (Qe hn)⟩
theorem Qhn(hl:H0 l=some (.lst []))(hlS:l≠S)(hc:X.calm=true){d:Value}{kn:Str}{s:Shared}{H:Hp}(I:Inv X pins σ H s)(hf:FpOk X pins H it)(st:s.heap.IsListIter it l 0)(kp:Qan S H0 H)(eS:H S=some (.lst []))(hR:∀s',Inv X pins σ H s'->R (.ok (.ret d)) s') :
  codeAny (model X.prog X.w) X.A (.builtin "min.loop" ⟨[.ref it,.ref fa,.ref S],[(kn,d)]⟩) R s:=by
 obtain⟨_,its,n,rv,ln,ho⟩:=I.lstM eS;cases rv;obtain⟨hz,its,n2,rl,ll,hol⟩:=I.lstM (kp _ _ hlS hl);cases rl;obtain⟨f0,f1,f2,f3,f4,f5⟩:=id hf;refine YR Qcs ?_
 rw[ZH Z5 _];show wpAny _ X.A.in1 (seqItems? (.ref S) >>= _) _ _ s;refine wpAny_bind (Zq ho rfl ?_);show wpAny _ X.A.in1 (tryCatch (pyNext (.ref it)) _ >>= _) _ _ s;refine wpAny_bind (Y6 (QdB (I.ok.hd hc) st ⟨_,hol,rfl,_,rfl⟩ (by simp) λh' eb=>?_));have I1:Inv X pins σ H { s with heap:=h' }:=I.turned (t':=s.toks) (λb o hb e=>eb b o hb e) f0 f1 f3 f4 f5;show wpAny _ X.A.in1 (rule _ >>= _) _ _ _;exact wpAny_bind (wpAny_rule (wpAny_pure (hR _ I1)))
end
section
variable{prog:QC}{w:Jf}{A:Ja}{E:Value->Shared->Prop}{s:Shared}
theorem Qhv{id:String}{b:Y2}{args:List Value}{kw:List (Str×Value)}{Q:Value->Shared->Prop}(hk:builtinKind id=none)(hp:plainId id=true)
  (hb:entryFor table id=some b)(ha:argsOk id ⟨args,kw⟩)
  (hc:wpAny (model prog w) A.in1 (b ⟨args,kw⟩) (λfin s'=>match fin with
   |.done f=>(match (Except.ok f:QjX) with | .ok (.ret v)=>Q v s' | .ok _=>False | .error e=>E e s')
   |.again c'=>c'.quiet=true/\codeAny (model prog w) A c' (λr s'=>match r with | .ok (.ret v)=>Q v s' | .ok _=>False | .error e=>E e s') s') E s) :
  wpAny (model prog w) A (call (.builtin id) args kw) Q E s:=by
 refine QyH (codeAny_call_builtin hp hb ?_);simp only[checkBuiltinCall,hk];cases hsig:Manifest.signature? id with
 |none=>exact wpAny_pure hc
 |some sig=>
  have ha':Bind.checkArgs id sig ⟨args,kw⟩=pure ():=by simpa only[argsOk,hsig] using ha
  simp only[ha'];exact wpAny_pure hc
end
theorem QkP(a f:Value):argsOk "min" ⟨[a],[("key",f)]⟩:=by unfold argsOk;kernel_rfl
theorem QiT(a f d:Value):argsOk "min" ⟨[a],[("key",f),("default",d)]⟩:=by unfold argsOk;kernel_rfl
section
variable{X:Cx}{pins:List (Addr×Obj)}{σ:St}{l fa:Addr}{xs:List V}{val:Nat->Int}
theorem Qhy{dv:Option (V×Value)}{H:Hp}{s:Shared}{Q:VK}{E:Value->Shared->Prop}(hc:X.calm=true)(I:Inv X pins σ H s)(hl:H l=some (.lst xs))(hd:∀p,dv=some p->RelV p.1 p.2)(hkey:∀S,H S=none->QgB X σ S fa xs val H)
  (h0:xs=[]->∃p,dv=some p/\∀H',Same H H'->Q p.1 H')(h1:∀x,xs[bstI val (xs.length - 1)]? = some x->∀H',Same H H'->Q x H') :
  wpAny (model X.prog X.w) X.A (call (.builtin "min") [.ref l] (("key",.ref fa)::dv.toList.map λp=>("default",p.2))) (EP X pins σ Q) E s:=by
 have hname:(toString "min" ++ toString ".loop" : String) = "min.loop" := by decide
 refine Qhv F.kind_min F.plain_min F.entry_min (by cases dv with | none=>exact QkP _ _ | some p=>exact QiT _ _ _) ?_
 show wpAny _ X.A.in1 (Qcu "min" ["key", "default"] 0 ⟨[],("key",.ref fa)::dv.toList.map λp=>("default",p.2)⟩ >>= _) _ _ s;refine wpAny_bind (ZN (show Qcu "min" ["key", "default"] 0 ⟨[],("key",.ref fa)::dv.toList.map λp=>("default",p.2)⟩=pure [some (.ref fa),dv.map (·.2)] by cases dv<;>rfl) ?_);refine wpAny_bind (wpAny_pure ?_);obtain⟨hz,its,n,rl,ll,hol⟩:=I.lstM hl;refine wpAny_bind (Qcd (l:=l) ⟨_,hol,rfl,_,rfl⟩ ?_);have I1:Inv X pins σ H { s with heap:=s.heap.push { cls:=.type "list_iterator",data:=.fields #[.ref l,.int 0 0] } }:=I.kept (t':=s.toks) λb o e=>Qf _ e
 have hf:FpOk X pins H s.heap.objs.size:=I.fpOk (Qh _) (I.hok.fresh (Qh _));generalize hs1:({ s with heap:=s.heap.push { cls:=.type "list_iterator",data:=.fields #[.ref l,.int 0 0] } }:Shared)=s1 at I1;have st1:s1.heap.IsListIter s.heap.objs.size l 0:=by rw[<- hs1];exact⟨_,Qq _ rfl,rfl,rfl⟩
 have z1:s1.heap.objs.size=s.heap.objs.size+1:=by rw[<- hs1];exact ZP ..
 refine wpAny_bind (Jr ?_);have I2:=I1.lnew (t':=s1.toks) (ys:=[]) (its:=[]) .nil (Jc _);have fS:H s1.heap.objs.size=none:=I1.hok.fresh (Qh _);have nl:l≠s1.heap.objs.size:=λz=>by rw[z,fS] at hl;cases hl
 have nit:s.heap.objs.size≠s1.heap.objs.size:=by rw[z1];exact QD (Nat.lt_succ_self _)
 have kp:Qan s1.heap.objs.size H (upd H s1.heap.objs.size (.lst [])):=λb o hb e=>by rw[JX hb];exact e
 obtain⟨f0,f1,f2,f3,f4,f5⟩:=hf;have hf2:FpOk X pins (upd H s1.heap.objs.size (.lst [])) s.heap.objs.size:=⟨by rw[JX nit];exact f0,f1,f2,f3,f4,f5⟩;have st2:(s1.heap.push { cls:=.type "list",data:=.seq ([]:List Value).toArray }).IsListIter s.heap.objs.size l 0:=st1.at λo e=>Qf _ e
 have sm:∀{H':Hp},Qan s1.heap.objs.size H H'->Same H H':=λk b o e=>k b o (λz=>by rw[z,fS] at e;cases e) e
 rw[hname];refine wpAny_pure ⟨Qas Z5 _,?_⟩;cases xs with
 |nil=>
  obtain⟨p,ep,hq⟩:=h0 rfl;subst ep;exact Qhn (R:=λr s'=>match r with | .ok (.ret v)=>EP X pins σ Q v s' | .ok _=>False | .error e=>E e s') hl nl hc I2 hf2 st2 kp Jz λs' I'=>⟨p.1,_,I',hd p rfl,hq _ (sm kp)⟩
 |cons x0 xr=>
  exact Qf6 (R:=λr s'=>match r with | .ok (.ret v)=>EP X pins σ Q v s' | .ok _=>False | .error e=>E e s') hl nl (hkey _ fS) hc (by show 0<xr.length+1;omega) (λu s' H' x hx r I' k=>⟨x,H',I',r,h1 x hx H' (sm k)⟩) I2 hf2 st2 kp Jz
end
end L2
namespace L2
open PySem.Calls _root_.Rd _root_.Rk
section
variable{X:Cx}{k:Nat}{fa:Addr}{fd:QL}{pn:Str}{sp:Sp}{E0:XK}
theorem Qp1{σ:St}{S:Addr}{xs:List V}{val:Nat->Int}{H0:Hp}(F:FnOk X.prog X.w X.K X.mg X.base CX0 k fa fd [pn] sp)(hr:Room (k+1) X.A)(hb:Binds X.K fd [pn] [])
  (h:∀(i:Nat)(x:V),xs[i]? = some x->∀H,Qan S H0 H->sp [x] H (λv H'=>v=.int (val i)/\Same H H') E0):QgB X σ S fa xs val H0:=by
 intro i x u pins' s H E hx rx I kb;refine QyH (QdE (F.run X.A.in1 X.stack s H ⟨[u],[]⟩ [u] [x] _ E0 hr.in1 I.env0.in1 (hb s [u] I.kIn rfl) (.cons rx .nil) (h i x hx H kb)) λr s' hq=>?_);cases r with
 |error e=>exact ZC hq
 |ok fl=>
  cases fl with
  |ret u'=>
   obtain⟨v,H',I',rv,rfl,sm⟩:=I.after hq;obtain⟨t,rfl⟩:∃t,u'=.int (val i) t:=by
    first
    |exact rv
    |(cases rv;exact⟨_,rfl⟩)
   exact⟨t,H',rfl,I',sm⟩
  |next=>exact ZC hq
  |brk=>exact ZC hq
  |cont=>exact ZC hq
def Qzi(sp:Sp)(E0:XK)(t:TE):TE:=λσ H Q=>t σ H λv H1=>∃(l:Addr)(xs:List V)(val:Nat->Int),v=.ref l/\H1 l=some (.lst xs)/\xs≠[] /\
 (∀(S:Addr)(i:Nat)(x:V),H1 S=none->xs[i]? = some x->∀H,Qan S H1 H->sp [x] H (λv H'=>v=.int (val i)/\Same H H') E0)/\∀x,xs[bstI val (xs.length - 1)]? = some x->∀H',Same H1 H'->Q x H'
theorem Qtu{e:Q1}{t:TE}{y:Str}{p fp kp pos:Pos}(F:FnOk X.prog X.w X.K X.mg X.base CX0 k fa fd [pn] sp)(hr:Room (k+1) X.A)(hg:Gl X "min")(hm:X.mg "min" = none)(hgf:Gl X y)(hmf:X.mg y=some (.ref fa))(hb:Binds X.K fd [pn] [])(hc:X.calm=true)(h:PE X e t)
  (hdb:(y == ("__debug__" : Str))=false:=by decide)(he:starEach [e] X.env=(false,eval e X.env)::starEach [] X.env:=by rfl):PE X (.Call (.Name "min" p) [e] [⟨some "key",.Name y fp,kp⟩] pos) (Qzi sp E0 t):=by
 intro pins s σ H Q I hh;refine Qar (Qca I hg hm (by rfl) ?_ (by decide) (by decide));have hh:QgV t Qv2 σ H (λvs H1=>match vs with
   |[v]=>∃(l:Addr)(xs:List V)(val:Nat->Int),v=.ref l/\H1 l=some (.lst xs)/\xs≠[]/\(∀(S:Addr)(i:Nat)(x:V),H1 S=none->xs[i]? = some x->∀H,Qan S H1 H->sp [x] H (λv H'=>v=.int (val i)/\Same H H') E0)/\∀x,xs[bstI val (xs.length - 1)]? = some x->∀H',Same H1 H'->Q x H'
   |_=>False):=hh
 refine PyProof.Rows.callWith_kw (thn ((QbI h Yv he) pos pins s σ H _ I hh) λus s1 ⟨vs,H1,I1,r1,q1⟩=>?_) ?_ ?_ ?_ ?_
 ·dsimp only at q1
  split at q1
  ·obtain⟨l,xs,val,rfl,hl,hne,hk,hQ⟩:=q1;obtain⟨u,rfl,ru⟩:=vals1 r1;cases ru;refine kws_cons (Qiz I1 hgf hmf (kws_nil ?_) hdb);show wpAny (model X.prog X.w) X.A (call (.builtin "min") [.ref l] [("key",.ref fa)]) _ _ s1;exact Qhy (dv:=none) hc I1 hl (λp hp=>nomatch hp) (λS hS=>Qp1 F hr hb λi x hx H2 kb=>hk S i x hS hx H2 kb) (λe=>absurd e hne) λx hx H' sm=>hQ x hx H' sm
  ·exact q1.elim
 ·rw[he];rfl
 ·rw[he];rfl
 ·rfl
 ·rfl
end
end L2
namespace Dl
open L2 _root_.Rd Rk
section
variable{X:Cx}{E:XK}
theorem QiF{A:Addr->Prop}{H:Hp}:∀{xs:List V}{ds:List PyData},DAs A H xs ds->∀(i:Nat)(x:V),xs[i]? = some x->∃d,ds[i]? = some d/\DA A H x d
 |_,_,.nil,i,x,h=>nomatch h
 |_,_,.cons a b,0,x,h=>by cases h;exact⟨_,rfl,a⟩
 |_,_,.cons a b,i+1,x,h=>QiF b i x h
theorem QjK{A:Addr->Prop}{H:Hp}:∀{xs:List V}{ds:List PyData},DAs A H xs ds->xs.length=ds.length
 |_,_,.nil=>rfl
 |_,_,.cons _ b=>by rw[QF,QF,QjK b]
@[irreducible] def QmT(fD:DF):PyData->(PyData->Prop)->Prop
 |.list ds,Q=>∃val:Nat->Int,ds≠[]/\(∀(i:Nat) d,ds[i]? = some d->fD [.v d] (λr=>r=.int (val i)) XF)/\∀d,ds[bstI val (ds.length - 1)]? = some d->Q d
 |_,_=>False
theorem Qut{fD:DF}{ds:List PyData}{Q:PyData->Prop}(val:Nat->Int)(h0:ds≠[])(h1:∀(i:Nat) d,ds[i]? = some d->fD [.v d] (λr=>r=.int (val i)) XF)(h:∀d,ds[bstI val (ds.length - 1)]? = some d->Q d):QmT fD (.list ds) Q:=by
 unfold QmT;exact⟨val,h0,h1,h⟩
def QxO(fD:DF)(w:DE):DE:=λδ Q EX=>w δ (λd=>QmT fD d Q) EX
theorem QtR{k:Nat}{fa:Addr}{fd:QL}{pn y:Str}{fr:Bool}{fD:DF}{e:Q1}{w:DE}{p fp kp pos:Pos}(G:FnOk X.prog X.w X.K X.mg X.base CX0 k fa fd [pn] (JO fr fD))(hr:Room (k+1) X.A)(hg:Gl X "min")(hm:X.mg "min" = none)(hgf:Gl X y)(hmf:X.mg y=some (.ref fa))(hb:Binds X.K fd [pn] [])(hc:X.calm=true)
  (h:PE X e (tX .P X.K E w))(hdb:(y == ("__debug__" : Str))=false:=by decide)(hs:notStar e=true:=by rfl):PE X (.Call (.Name "min" p) [e] [⟨some "key",.Name y fp,kp⟩] pos) (tX .D X.K E (QxO fD w)):=by
 refine PE.imp (Qtu (E0:=λ_ _ _=>False) G hr hg hm hgf hmf hb hc h hdb (Z8 hs)) λσ H Q ⟨F,δ,R,EX,rel,hw,k,o⟩=>?_
 refine⟨F,δ,_,EX,rel,hw,λd hd v H1 rel1 kp1 vk=>?_,o⟩;have hd:QmT fD d _:=hd;unfold QmT at hd;split at hd
 ·rename_i ds
  obtain⟨val,hne,hf,hQ⟩:=hd;obtain⟨l,xs,rfl,e,q⟩:=DP.list vk;have ln:=QjK q;refine⟨l,xs,val,rfl,e,λz=>hne (by rw[z] at ln;exact List.eq_nil_of_length_eq_zero ln.symm),λS i x hS hx H2 kb=>?_,λx hx H' sm=>?_⟩
  ·obtain⟨d,hd,da⟩:=QiF q i x hx;refine⟨Av F σ δ,λ_=>False,[.v d],_,XF,λa ha=>?_,λp hp=>hp.elim,.cons ?_ .nil,hf i d hd,λd' e' v H' kq da' _=>?_,λC hC=>hC.elim⟩
   ·obtain⟨ys,hy⟩:=rel1.isl ha;exact⟨ys,kb a _ (λz=>by rw[z,hS] at hy;cases hy) hy⟩
   ·exact da.mv (λa o na ha=>kb a o (λz=>by rw[z,hS] at ha;cases ha) ha) λa ha=>.inl ha
   ·subst e';cases da';exact⟨rfl,λb o hb=>kq.1 b o (λz=>z) hb⟩
  ·rw[ln] at hx;obtain⟨d,hd,da⟩:=QiF q _ x hx;exact k d (hQ d hd) x H' (rel1.same sm) (kp1.trans (Kp.same rel1 sm)) (da.same sm)
 ·exact hd.elim
theorem Qws{k:Nat}{fa:Addr}{fd:QL}{pn y:Str}{fr:Bool}{fD:DF}{e:Q1}{w:DE}{p fp kp pos:Pos}(G:FnOk X.prog X.w X.K X.mg X.base CX0 k fa fd [pn] (JO fr fD))(hr:Room (k+1) X.A)(hg:Gl X "min")(hm:X.mg "min" = none)(hgf:Gl X y)(hmf:X.mg y=some (.ref fa))(hb:Binds X.K fd [pn] [])
  (h:QE .P X E e w)(hc:X.calm=true:=by rfl)(hdb:(y == ("__debug__" : Str))=false:=by decide)(hs:notStar e=true:=by rfl):QE .D X E (.Call (.Name "min" p) [e] [⟨some "key",.Name y fp,kp⟩] pos) (QxO fD w):=⟨QtR G hr hg hm hgf hmf hb hc h.h hdb hs⟩
end
end Dl
namespace L2
end L2
namespace Dl
open L2 _root_.Rd Rk
section
variable{X:Cx}{E:XK}
end
end Dl
namespace Rk
open L2 _root_.Rd Dl Rt
end Rk
namespace L2
section
variable{X:Cx}{pins:List (Addr×Obj)}{σ:St}{H H3:Hp}{s3:Shared}{M:List Str}{scope:YV}{cap:List (Option Nat)}{fp:List Addr}{h4:Heap}{t4:Nat}
end
section
variable{X:Cx}{pins:List (Addr×Obj)}{σ:St}{H:Hp}
end
end L2
namespace Rk
open L2 _root_.Rd Dl
end Rk
namespace Dl
open L2
section
variable{X:Cx}{E:XK}
end
end Dl
namespace Rk
open L2 _root_.Rd
def top(i:Nat):ZY:=PySem.Challenge.pw_rooklands_k34_whole_counts_of_lesser_boa.main.body.getD i (.Pass ⟨0,0,0,0⟩)
abbrev Qfb:ZY:=top 9
abbrev Qc5:ZY:=top 10
abbrev Qc7:ZY:=top 11
abbrev Qfd:ZY:=top 14
abbrev Qke:ZY:=top 15
abbrev Qc9:ZY:=top 16
abbrev Qff:ZY:=top 17
abbrev Qki:ZY:=top 18
abbrev sWl:ZY:=top 19
abbrev sOth:ZY:=top 20
abbrev sWo:ZY:=top 22
abbrev Qc6:ZY:=top 23
abbrev Qkh:ZY:=top 24
abbrev Qdc:ZY:=top 25
abbrev Qkj:ZY:=top 26
abbrev Qc8:ZY:=top 27
abbrev sPw:ZY:=top 28
abbrev Qfe:ZY:=top 29
abbrev Qda:ZY:=top 31
abbrev Qkk:ZY:=top 32
abbrev QbU:ZY:=top 33
abbrev Qfc:ZY:=top 34
abbrev sFol:ZY:=top 35
abbrev Qkg:ZY:=top 36
abbrev Qdb:ZY:=top 37
abbrev Qkd:ZY:=top 38
abbrev Qkc:ZY:=top 39
abbrev sRow:ZY:=top 40
abbrev sHow:ZY:=top 42
abbrev Qkf:ZY:=top 43
abbrev Qfg:ZY:=top 44
abbrev sFew:ZY:=top 45
abbrev Qkl:ZY:=top 46
abbrev sLW:ZY:=top 47
abbrev Qdi:ZY:=top 49
abbrev lPot:ZY:=top 50
abbrev Qky:ZY:=top 51
abbrev Qfo:ZY:=top 52
abbrev lCut:ZY:=top 53
abbrev lSum:ZY:=top 54
abbrev Qkz:ZY:=top 55
abbrev lPcs:ZY:=top 56
abbrev QkA:ZY:=top 57
abbrev sLaw:ZY:=top 58
section
variable{P:QC}{w:Jf}{K:PySem.W.Frag}{mg:Str->Option Value}{base:Heap}
theorem QoL:Jl ["_law_script", "_law_k"] ["_law_script", "_law_k"] (Qm Qdi):=⟨rfl,rfl,rfl,by decide +kernel,rfl,by decide +kernel,by decide +kernel⟩
theorem QmF{f:Addr}{fd:QL}(F:Fun K "_law_cell_at" "_law_cell_at" Qdi f fd)(T:GlbA mg):FnOk P w K mg base CX0 1 f fd ["_law_script", "_law_k"] (QcE K):=by
 refine F.ok QoL (λvs H Q E h=>?_) (λcdv A outer s H vs Q E hr h=>?_)
 ·obtain⟨a,ns,k,rfl,_⟩:=h;rfl
 ·obtain⟨a,ns,n,rfl,hs,hl,h0,k⟩:=h;refine⟨_,Qae (Qtl (QfX Qpv (pv 1) (QcJ QbN (by rfl) T.len Yg (QbI (pv 0) Yv)) (ZW _)) (QbG (QcI (Qmh Qgb (pv 0) (pv 1) (λ_ _=>rfl)))) Qin) (QbG (QcI YE)),?_⟩;refine⟨_,rfl,_,rfl,a,_,rfl,.inl hs,_,_,rfl,rfl,_,rfl,?_⟩;refine QAY (λhlt=>?_) (λ_=>k 0);have hlt':n<(ns.map V.int).length:=of_decide_eq_true hlt;rw[Qc] at hlt';obtain⟨j,rfl⟩:=Int.eq_ofNat_of_zero_le h0;have hj:j<ns.length:=by omega
  refine⟨_,rfl,_,rfl,a,_,_,.int ns[j],rfl,rfl,hs,Q6 ?_,k _⟩;rw[Qo,Qe hj];rfl
theorem Qkb:Jl ["_law_cell", "_law_number", "_law_j", "_law_more"] ["_law_cell"] (Qm lPot):=⟨rfl,rfl,rfl,by decide +kernel,rfl,by decide +kernel,by decide +kernel⟩
theorem Qxa{f:Addr}{fd:QL}(F:Fun K "_law_pot" "_law_pot" lPot f fd)(T:GlbA mg):FnOk P w K mg base CX0 1 f fd ["_law_cell"] Qv7:=by
 refine F.ok Qkb (λvs H Q E h=>?_) (λcdv A outer s H vs Q E hr h=>?_)
 ·obtain⟨c,rfl,_⟩:=h;rfl
 ·obtain⟨c,rfl,k⟩:=h;refine⟨_,Qae (Qtl (QfX Qt3 (pv 0) (Qbd Qr2 YE YE) (ZW _)) (QbG (QcI (QrZ (QbI (Qbd Qem (pv 0) (Qbd Qr2 YE YE)) Yv)))) Qin)
   (Qae (Qdv (i:=1) Qkb.nd rfl (Q2 rfl) YE)
   (Qae (QrT Jt rfl (Qha (by rfl) T.range (QbI YE Yv)) (Qek (i:=2) Qkb.nd rfl (Q2 rfl))
    (Qae (Qdv (i:=3) Qkb.nd rfl (Q2 rfl) (Qbd Qhh (Qbd Qfj (Qbd Qfk (Qbd Qfk (Qbd Qhh (pv 0) YE) (Qbd Qfj YE (pv 2))) YE) YE) YE))
    (Qae (Qdv (i:=3) Qkb.nd rfl (Q2 rfl) (Qbd Qhh (Qbd Qfk (Qbd Qfk (Qbd Qfj (pv 3) (pv 3)) (Qbd Qfj YE (pv 2))) YE) YE))
    (QbG (Qdv (i:=1) Qkb.nd rfl (Q2 rfl) (Qbd Qfk (Qbd Qfj (pv 1) YE) (pv 3)))))))
   (QbG (QcI (QrZ (QbI (pv 1) Yv)))))),?_⟩
  refine⟨_,rfl,_,_,rfl,rfl,⟨by decide,by decide,by decide⟩,_,_,rfl,rfl,_,rfl,?_⟩;refine QAY (λ_=>?_) (λ_=>?_)
  ·exact⟨_,rfl,_,_,rfl,rfl,⟨by decide,by decide,by decide⟩,_,_,rfl,rfl,by show 1<=sizeLine;decide,λp hp=>k p _ hp⟩
  ·refine⟨64,rfl,by decide,by decide,Qng (n:=64) (λi σ H2=>∃n v u,σ=[some (.int c),some (.int n),v,u]/\H2=H) ⟨0,none,none,rfl,rfl⟩ ?_ ?_⟩
   ·rintro i σ H2 hi ⟨n,v,u,rfl,rfl⟩;have b1:=QjF ((c % 2147483629+7919*(0+(i:Int))+1)*48271) (m:=2147483647) (by decide);refine⟨_,rfl,_,_,rfl,rfl,by show(0:Int)<2147483629;decide,_,rfl,_,_,rfl,rfl,.inl ⟨by decide,by decide⟩,_,_,rfl,rfl,_,_,rfl,rfl,_,_,rfl,rfl,.inr ⟨by decide,by decide⟩,_,_,rfl,rfl,by show(0:Int)<2147483647;decide,?_⟩;refine⟨_,rfl,_,rfl,_,_,rfl,rfl,.inl ⟨by omega,by omega⟩,_,rfl,_,_,rfl,rfl,.inl ⟨by decide,by decide⟩,_,_,rfl,rfl,_,_,rfl,rfl,_,_,rfl,rfl,by show(0:Int)<2147483587;decide,?_⟩;exact⟨_,rfl,_,_,rfl,rfl,.inr ⟨by decide,by decide⟩,_,rfl,_,_,rfl,rfl,_,_,_,rfl,rfl⟩
   ·rintro σ H2 ⟨n,v,u,rfl,rfl⟩;exact⟨_,rfl,by show 1<=sizeLine;decide,λp hp=>k p _ hp⟩
theorem QrK:Jl ["_law_pot_here", "_law_far", "_law_found"] ["_law_pot_here", "_law_far"] (Qm Qky):=⟨rfl,rfl,rfl,by decide +kernel,rfl,by decide +kernel,by decide +kernel⟩
theorem Qua{f:Addr}{fd:QL}(F:Fun K "_law_take" "_law_take" Qky f fd)(T:GlbA mg):FnOk P w K mg base CX0 1 f fd ["_law_pot_here", "_law_far"] Qjf:=by
 refine F.ok QrK (λvs H Q E h=>?_) (λcdv A outer s H vs Q E hr h=>?_)
 ·obtain⟨p,n,m,rfl,_⟩:=h;rfl
 ·obtain⟨p,n,m,rfl,hp,h0,h1,k⟩:=h;refine⟨_,Qae (Qdv (i:=2) QrK.nd rfl (Q2 rfl) (Qbd Qhh (Qmh Qgb (pv 0) YE (λ_ _=>rfl)) (pv 1)))
   (Qae (QrU (Qbd Qpw (Qmh Qgb (pv 0) YE (λ_ _=>rfl)) (pv 1)) (QwB (pv 0) YE Qjg))
   (QbG (QcI (pv 2)))),?_⟩
  have b:=QjF n h0;exact⟨_,rfl,p,_,_,_,rfl,rfl,SqL.of hp,rfl,_,rfl,_,_,rfl,rfl,h0,_,rfl,p,_,_,_,rfl,rfl,SqL.of hp,rfl,_,rfl,_,_,rfl,rfl,⟨h0,h1⟩,_,rfl,p,_,_,_,rfl,rfl,hp,rfl,_,rfl,k _ _ b.1 b.2⟩
end
end Rk
namespace Rk
open L2 _root_.Rd
open Dl
open Rt Zt
theorem Qzl:∀m:Fin 64,∀c x:Fin 6,decide (x.val∈Zt.Sm (m.val ||| 2^c.val))=(decide (x.val∈Zt.Sm m.val)||decide (x=c)):=by decide +kernel
theorem QkD(ns:List Int):(ns.map V.int).all Qgi=true:=YZ.mpr λv hv=>by obtain⟨n,_,rfl⟩:=Qt.mp hv;rfl
theorem QjB(x:Int):∀ns:List Int,inV (.int x) (ns.map V.int)=decide (x∈ns)
 |[]=>by simp[inV]
 |n::ns=>by
  show(eqV (.int n) (.int x)||inV (.int x) (ns.map V.int))=_;rw[QjB x ns,show eqV (.int n) (.int x)=decide (n=x) from rfl,J6];simp only[Qcv,decide_eq_true_eq,Qy];exact⟨λh=>h.elim (λe=>.inl e.symm) .inr,λh=>h.elim (λe=>.inl e.symm) .inr⟩
theorem daT{A:Addr->Prop}{H:Hp}{v:V}{ds:List PyData}(h:DA A H v (.tuple ds)):∃l xs,v=.ref l/\H l=some (.tup xs)/\DAs A H xs ds:=by
 cases h with
 |tup n e q=>exact⟨_,_,rfl,e,q⟩
theorem Qnr{A:Addr->Prop}{H:Hp}:∀{xs:List V}{ds:List PyData},DAs A H xs ds->∀(i:Nat)(d:PyData),ds[i]? = some d->∃x,xs[i]? = some x/\DA A H x d
 |_,_,.nil,i,d,h=>by simp at h
 |_,_,.cons q qs,0,d,h=>by simp at h;subst h;exact⟨_,rfl,q⟩
 |_,_,.cons q qs,i+1,d,h=>by
  simp only[Yf] at h;obtain⟨x,e,q⟩:=Qnr qs i d h;exact⟨x,by simpa using e,q⟩
def QAH:Sp:=λvs H Q _=>∃(h w:Int)(cs:List (Int×Int))(rows:List Int)(v1 v2:V),vs=[v1,v2]/\DA (λ_=>False) H v1 (bdD h w cs)/\DA (λ_=>False) H v2 (tN rows)/\(∀p∈cs,0<=p.2/\p.2<6)/\∀ms:List Nat,ms.Pairwise (· < ·)->(∀x:Nat,x∈ms↔∃p∈cs,p.1∉rows/\p.2=(x:Int))->∀v H',Same H H'->DA (λ_=>False) H' v (.tuple [tN rows,.tuple (ms.map λ(x:Nat)=>Qg x)])->Q v H'
def lnK(rows:List Int)(ms:List Nat):PyData:=.tuple [tN rows,.tuple (ms.map λ(x:Nat)=>Qg x)]
def lwD:DF:=λargs R _=>∃(h w:Int)(cs:List (Int×Int))(rows:List Int),args=[.v (bdD h w cs),.v (tN rows)]/\(∀p∈cs,0<=p.2/\p.2<6)/\R (lnK rows (colK cs rows))
def Qz8:DF:=λargs R _=>∃(rows:List Int)(ms:List Nat),args=[.v (lnK rows ms)]/\R (.int ((rows.length:Int)+(ms.length:Int)))
def Qiv:DF:=λargs R _=>∃h:Nat,args=[.v (.int h)]/\h<=6/\R (.list ((lotsN h).map tN))
def Qyx(cs:List (Int×Int))(h:Nat):Nat:=bstI (λi=>((Qu1 cs ((lotsN h).getD i []):Nat):Int)) ((lotsN h).length - 1)
def QuL(cs:List (Int×Int))(h:Nat):List Int:=(lotsN h).getD (Qyx cs h) []
def Qni:DF:=λargs R _=>∃(h w:Nat)(cs:List (Int×Int)),args=[.v (bdD h w cs)]/\GB h w cs/\R (lnK (QuL cs h) (colK cs (QuL cs h)))
theorem QBI{vs:List V}{H:Hp}{Q:VK}{Ex:XK}(h:JO false lwD vs H Q Ex):QAH vs H Q Ex:=by
 obtain⟨A,pt,args,R,EX,dm,hp,q,⟨h1,w1,cs,rows,rfl,hc,hR⟩,k,_⟩:=h;cases q with
 |cons q1 q2=>
 cases q2 with
 |cons q2 q3=>
 cases q3;have q1:DA A H _ (bdD h1 w1 cs):=q1;have q2:DA A H _ (tN rows):=q2;refine⟨h1,w1,cs,rows,_,_,rfl,q1.mv (λa o _ e=>e) (λa z=>z.elim),q2.mv (λa o _ e=>e) (λa z=>z.elim),hc,λms pw hm v H' sm da=>?_⟩;obtain rfl:=Qrd hc pw hm;refine k _ hR v H' ⟨λb o _ e=>sm _ _ e,λp pp=>?_⟩ ?_ (λz=>nomatch z)
 ·obtain⟨_,n,e⟩:=hp p pp;exact⟨n,sm _ _ e⟩
 ·have no:∀{a:Addr}{xs:List V},H' a=some (.tup xs)->¬A a:=λe z=>by
   obtain⟨ys,e2⟩:=dm _ z;rw[sm _ _ e2] at e;cases e
  obtain⟨t,xs,rfl,e,qq⟩:=daT da;cases qq with
  |cons p1 qq=>
  cases qq with
  |cons p2 qq=>
  cases qq;obtain⟨b,x1,rfl,e1,r1⟩:=daT p1;obtain⟨c,x2,rfl,e2,r2⟩:=daT p2;rw[QaN r1] at e1;rw[Qp9 r2] at e2;exact .tup (no e) e (.cons (.tup (no e1) e1 (QbZ rows)) (.cons (.tup (no e2) e2 (QmQ _)) .nil))
def Qdd:PyData->List Int
 |.tuple ds=>ds.map toI
 |_=>[]
theorem QdR(r:List Int):Qdd (tN r)=r:=by
 show(r.map Qg).map toI=r;rw[QN]
 conv=>rhs;rw[<- Qdo r]
 exact JD λ_ _=>rfl
theorem Qzw{n:Nat}(h:n<=6):2^n<=64:=Ya (n:=2) (by decide) h
section
variable{P:QC}{w:Jf}{K:PySem.W.Frag}{mg:Str->Option Value}{base:Heap}
theorem Qr5:(["row", "column", "rows"]:List Str).Nodup:=by decide +kernel
theorem Qwb:Jl ["board", "rows", "columns"] ["board", "rows"] (Qm sLW):=⟨rfl,rfl,rfl,by decide +kernel,rfl,by decide +kernel,by decide +kernel⟩
theorem QzQ{f   : Addr}{fd  : QL}(F:Fun K "lines_with" "lines_with" sLW f fd)(T:GlbA mg) :
  FnOk P w K mg base CX0 1 f fd ["board", "rows"] QAH:=by
 refine F.ok Qwb (λvs H Q E h=>?_) (λcdv A outer s H vs Q E hr h=>?_)
 ·obtain⟨_,_,_,_,_,_,rfl,_⟩:=h;rfl
 ·obtain⟨h1,w1,cs,rows,v1,v2,rfl,d1,d2,hc,hR⟩:=h;have un:=hr.units;refine⟨_,Qae (Qma (i:=2) (M:=["row", "column", "rows"]) (cap:=[none,none,some 1]) (g:=(QAb K 2 (Qp6 (QdH 0) (Qp6 (QdH 1) QAc)))) (tc:=(Qv0 (tOp (rIn K true) (Qh9 0) (Qh9 2)))) (te:=(Qh9 1)) Qwb.nd rfl rfl rfl (by rfl) (QrX (Qmh Qr7 (pv 0) YE (λ_ _=>rfl))) (λcl ex s3 H3 C=>⟨(QrY rfl (Qf2 (Qek (i:=0) Qr5 rfl (Q2 rfl) (QZ rfl)) (Qf2 (Qek (i:=1) Qr5 rfl (Q2 rfl) (QZ rfl)) Qmf))),(Ql9 (QfX Qhg (pv 0) (pv 2) (by rfl))),(pv 1)⟩))
   (QbG (QcI (Qmg (Qel (pv 1) (Qel (Qhb QcM (by rfl) T.tuple Qag (QbI (QcJ (QkL rfl) (by rfl) T.sorted L2.boot_sorted (QbI (pv 2) Yv)) Yv)) Yv))))),?_⟩
  obtain⟨a,xs,rfl,ea,qa⟩:=daT d1;cases qa with
  |cons qa1 qa=>
  cases qa with
  |cons qa2 qa=>
  cases qa with
  |cons qa3 qa=>
  cases qa;cases qa1;cases qa2;obtain⟨ca,ys,rfl,ec,qc⟩:=daT qa3;obtain⟨b,rs,rfl,eb,qb⟩:=daT d2;rw[QaN qb] at eb;refine⟨_,rfl,a,_,_,_,rfl,rfl,SqT.of ea,rfl,?_⟩;refine⟨ca,rfl,⟨_,SqT.of ec⟩,λp np=>?_⟩;have pa:ca≠p:=λz=>by rw[z,np] at ec;cases ec
  have pb:b≠p:=λz=>by rw[z,np] at eb;cases eb
  have ly:ys.length=cs.length:=by have:=qc.length;rwa [Qc] at this
  refine Qes ys.length (λi H3=>∃m,m<64/\H3 p=some (.ext (smX p m (ledOf w)))/\(∀b o,b≠p->H b=some o->H3 b=some o)/\∀x:Nat,x<6->(x∈Zt.Sm m↔∃q∈cs.take i,q.1∉rows/\q.2=(x:Int))) ⟨0,by decide,Jz,λb o nb e=>by rw[JX nb];exact e,λx _=>by simp[Zt.Sm]⟩ (λi H3 hi ⟨m,hm,eP,kp,iff_⟩=>?_) λH3 ⟨m,hm,eP,kp,iff_⟩=>⟨⟨ys,SqT.of (kp _ _ pa ec),Qh _⟩,?_⟩
  ·have e3:=kp _ _ pa ec;obtain⟨q,hq⟩:∃q,cs[i]? = some q:=⟨_,Qe (by omega)⟩
   obtain⟨x,hx,dx⟩:=Qnr qc i (pairD q) (by rw[Qo,hq];rfl);refine⟨⟨ys,x,SqT.of e3,hx⟩,λy H4 ⟨eH,ey⟩ kk hk=>?_⟩;subst eH;have ey:=ey ys (SqT.of e3);rw[hx] at ey;cases ey;obtain⟨qa,qs,rfl,eq,qq⟩:=daT dx;cases qq with
   |cons q1 qq=>
   cases qq with
   |cons q2 qq=>
   cases qq;cases q1;cases q2;have e4:=kp _ _ (λz=>by rw[z,np] at eq;cases eq) eq;refine⟨qa,_,rfl,SqT.of e4,rfl,?_⟩;refine⟨_,_,rfl,_,_,rfl,rfl,by exact⟨rfl,trivial⟩,?_⟩;refine⟨_,rfl,_,rfl,b,_,rfl,.inr (SqT.of (kp _ _ pb eb)),rfl,QkD rows,_,rfl,?_⟩;show if(!inV (.int q.1) (rows.map V.int))=true then _ else _
   rw[QjB];have qm:=Q8 hq;have tk:∀r,r∈cs.take (i+1)↔r∈cs.take i∨r=q:=λr=>by rw[ZR,hq,Q0];simp
   by_cases z:q.1∈rows
   ·rw[decide_eq_true z];refine hk _ ⟨m,hm,eP,kp,λx h6=>?_⟩;rw[iff_ x h6];constructor
    ·rintro⟨r,hr,h1,h2⟩;exact⟨r,(tk r).mpr (.inl hr),h1,h2⟩
    ·rintro⟨r,hr,h1,h2⟩;rcases(tk r).mp hr with y | y
     ·exact⟨r,y,h1,h2⟩
     ·subst y;exact absurd z h1
   ·rw[decide_eq_false z];obtain⟨c0,c6⟩:=hc q qm;obtain⟨c,ec'⟩:∃c:Nat,q.2=(c:Int):=⟨q.2.toNat,by omega⟩
    have hc6:c<6:=by omega
    refine⟨_,rfl,c,m,by rw[ec'],hc6,hm,eP,hk _ ⟨m ||| 2^c,Zt.QAD ⟨m,hm⟩ ⟨c,hc6⟩,Jz,λb o nb e=>by rw[JX nb];exact kp b o nb e,λx h6=>?_⟩⟩;have so:=Qzl ⟨m,hm⟩ ⟨c,hc6⟩ ⟨x,h6⟩
    dsimp only at so
    have so:x∈Zt.Sm (m ||| 2^c)↔x∈Zt.Sm m∨x=c:=by
     rw[J6] at so
     simpa using so
    rw[so,iff_ x h6];constructor
    ·rintro(⟨r,hr,h1,h2⟩ | y)
     ·exact⟨r,(tk r).mpr (.inl hr),h1,h2⟩
     ·exact⟨q,(tk q).mpr (.inr rfl),z,by rw[ec',y]⟩
    ·rintro⟨r,hr,h1,h2⟩;rcases(tk r).mp hr with y | y
     ·exact .inl ⟨r,y,h1,h2⟩
     ·subst y;exact .inr (by omega)
  ·refine⟨_,rfl,_,rfl,p,m,rfl,hm,eP,λt H5 s5 nt et=>⟨t,_,rfl,.inl ⟨SqL.of et,λl nl=>⟨by show 2<=1000;decide,λt2 H6 s6 n6 e6=>?_⟩⟩⟩⟩;have sm:Same H H6:=λc o e=>by
    have h5:=s5 _ _ (kp c o (λz=>by rw[z,np] at e;cases e) e);exact s6 _ _ (by rw[JX (λz=>by rw[z,nl] at h5;cases h5)];exact h5)
   have el:H6 l=some (.tup ((Zt.Sm m).map λ(n:Nat)=>V.int (n:Int))):=s6 _ _ Jz;refine hR (Zt.Sm m) (Zt.Qya ⟨m,hm⟩) (λx=>?_) (.ref t2) H6 sm (.tup (λz=>z) e6 (.cons (.tup (λz=>z) (sm _ _ eb) (QbZ rows)) (.cons (.tup (λz=>z) el (Dl.QmQ _)) .nil)));rw[ly,Zp] at iff_;constructor
   ·intro hx;exact(iff_ x (Zt.Qyb hx)).mp hx
   ·rintro⟨q,hq,h1,h2⟩;have:=hc q hq;exact(iff_ x (by omega)).mpr ⟨q,hq,h1,h2⟩
end
end Rk
namespace Rk
open L2 _root_.Rd
open Dl
open Rt
def QlV:DF:=λargs R _=>∃(h w:Nat)(cs:List (Int×Int))(k:Nat),args=[.v (bdD h w cs),.v (.int k)]/\k<=min h w/\R .none
def QfL:DF:=λargs R _=>∃(h w:Nat)(cs:List (Int×Int))(k n:Nat)(L:List (Int×Int)),args=[.v (bdD h w cs),.v (.int k),.v (.int n)]/\GB h w cs/\k<=min h w/\(evS cs k)[n]? = some L/\R (stT L)
section
variable{P:QC}{w:Jf}{K:PySem.W.Frag}{mg:Str->Option Value}{base:Heap}
theorem QoF:Jl ["thing"] ["thing"] (Qm Qfb):=⟨rfl,rfl,rfl,by decide +kernel,rfl,by decide +kernel,by decide +kernel⟩
theorem Qpx{f   : Addr}{fd  : QL}(F:Fun K "is_whole" "is_whole" Qfb f fd)(T:GlbA mg) :
  FnOk P w K mg base CX0 1 f fd ["thing"] (JO false Qlg):=by
 refine okQ false F QoF (λargs R EX h=>?_) (λcdv A outer s H E hr=>?_)
 ·obtain⟨d,rfl,_⟩:=h;rfl
 ·have hU:=Room.u60 hr;have hI:=Room.i60 hr;refine⟨_,Q5 (YD (Ql8 (QY (Qg7 .int (by rfl) T.isinstance (qp 0) (by rfl) T.int QxW)) (Qko (Qzt (QY (Qg7 .bool (by rfl) T.isinstance (qp 0) (by rfl) T.bool Qva)))))),λargs R EX h=>?_⟩;obtain⟨d,rfl,hR⟩:=h;cases d<;>exact hR
theorem QlM:Jl ["thing", "least", "most"] ["thing", "least", "most"] (Qm Qc5):=⟨rfl,rfl,rfl,by decide +kernel,rfl,by decide +kernel,by decide +kernel⟩
theorem Qmv{f f1  : Addr}{fd fd1:QL}(F:Fun K "is_whole_within" "is_whole_within" Qc5 f fd)(T:GlbA mg)
  (m1:mg "is_whole" = some (.ref f1))(G1:FnOk P w K mg base CX0 1 f1 fd1 ["thing"] (JO false Qlg))(b1:Binds K fd1 ["thing"] [])(k1:PySem.W.keepIn K (.ref f1)=true) :
  FnOk P w K mg base CX0 2 f fd ["thing", "least", "most"] (JO false QcZ):=by
 refine okQ false F QlM (λargs R EX h=>?_) (λcdv A outer s H E hr=>?_)
 ·obtain⟨d,a,b,rfl,_⟩:=h;rfl
 ·have hU:=Room.u60 hr;have hI:=Room.i60 hr;refine⟨_,Q5 (YD (Ql8 (QP (JZ G1 (hr.mono (by decide)) (by rfl) m1 k1 b1 JI (Zf (qv 0) Jb))) (Qko (JB (QBB Qt1 Qt1 (qp 1) (qp 0) (qp 2)))))),λargs R EX h=>?_⟩;obtain⟨d,a,b,rfl,hR⟩:=h;refine⟨d,rfl,?_⟩;cases d with
  |int i=>exact Qyw (Qx2 hR)
  |_=>exact hR
theorem Qs7:Jl ["board"] ["board"] (Qm Qkk):=⟨rfl,rfl,rfl,by decide +kernel,rfl,by decide +kernel,by decide +kernel⟩
theorem Qug{f   : Addr}{fd  : QL}(F:Fun K "most_size" "most_size" Qkk f fd)(T:GlbA mg) :
  FnOk P w K mg base CX0 1 f fd ["board"] (JO false QpQ):=by
 refine okQ false F Qs7 (λargs R EX h=>?_) (λcdv A outer s H E hr=>?_)
 ·obtain⟨h,w,cs,rfl,_⟩:=h;rfl
 ·have hU:=Room.u60 hr;have hI:=Room.i60 hr;refine⟨_,Q5 (Z1 (JU (Qhz rfl) Qrh (by rfl) T.min Qsn (Qap (QP (Yr Jk J4 (qp 0) (QP Jg) (λ_ _=>rfl))) (Qap (QP (Yr Jk J4 (qp 0) (QP Jg) (λ_ _=>rfl))) Q7)))),λargs R EX h=>?_⟩;obtain⟨h,w,cs,rfl,hR⟩:=h;exact⟨_,Q6 (j:=0) rfl,_,Q6 (j:=1) rfl,Quu (by split<;>omega) hR⟩
theorem Qc2:Jl ["below", "columns", "taken", "ways", "column", "bit", "size", "many"] ["below", "columns", "taken"] (Qm sRow):=⟨rfl,rfl,rfl,by decide +kernel,rfl,by decide +kernel,by decide +kernel⟩
theorem Qt6{f   : Addr}{fd  : QL}(F:Fun K "ways_with_row" "ways_with_row" sRow f fd)(T:GlbA mg) :
  FnOk P w K mg base CX0 1 f fd ["below", "columns", "taken"] (JO true QsJ):=by
 refine okQ true F Qc2 (λargs R EX h=>?_) (λcdv A outer s H E hr=>?_)
 ·obtain⟨h,w,B,cols,t,rfl,_⟩:=h;rfl
 ·have hU:=Room.u60 hr;have hI:=Room.i60 hr;refine⟨_,QB (Qdf 3 (Qad Qav Qgq (by rfl) T.list Qgt (Qap (QP (Yr Jk J4 (qp 0) (qp 2) (λ_ _=>rfl))) Q7)) Qc2.nd)
   (QB (QbE Jt rfl (QaT (qv 1)) (ZK 4 Qc2.nd rfl (by first | exact Q2 rfl | exact QZ rfl))
    (QB (Za 5 (JB (ZL Qjr QmK (QP Jg) (qp 4))) Qc2.nd)
   (Q5 (QbD (Qa5 (Qei (QY (ZL Qw9 Qdx (qp 2) (qp 5))))) (Q5 (QbE Jt rfl (QbW (by rfl) T.enumerate (JB (QfW (QP (Yr Jk J4 (qp 0) (QY (ZL QzL Qdx (qp 2) (qp 5))) (λ_ _=>rfl))) QfV (QfU (QY (Qth (QP Jg))))))) (Qai rfl (JP 6 (JP 7 Qaj Qc2.nd rfl (by first | exact Q2 rfl | exact QZ rfl)) Qc2.nd rfl (by first | exact Q2 rfl | exact QZ rfl)))
    (Q5 (Ql4 3 Qm5 Qf3 (QY (ZL Zj ZV (qp 6) (QP Jg))) (qp 7))))) Yl))))
   (Q5 (Qej 3))),λargs R EX h=>?_⟩
  obtain⟨h,w,B,cols,t,rfl,ht,hc,h6,w6,hR⟩:=h;refine⟨_,Q6 (Qd8 ht),?_⟩;refine QaE (λj δ=>∃ds x4 x5 x6 x7,δ=[.v (.list (Qh8 h w B)),.v (.list (Qew cols)),.v (.int t),.own ds,x4,x5,x6,x7]/\ds=QdS h (Qec B (cols.take j) t)) ⟨_,_,_,_,_,rfl,Qa4 λk _=>?_⟩ ?_ ?_
  ·show B t k=B t k+if k=0 then 0 else 0
   split<;>omega
  ·rintro j d δ hd ⟨ds,x4,x5,x6,x7,rfl,rfl⟩;unfold Qew at hd;rw[Qo] at hd;obtain⟨c,ec,rfl⟩:∃c:Nat,cols[j]? = some c/\d=.int (c:Int):=by
    cases e:cols[j]? with
    |none=>rw[e] at hd;cases hd
    |some p=>rw[e] at hd;cases hd;exact⟨p,rfl,rfl⟩
   have hcw:=hc c (Q8 ec);have et:cols.take (j+1)=cols.take j++[c]:=by rw[ZR,ec];rfl
   refine⟨⟨by omega,by omega,by decide⟩,trivial,?_⟩;show if(!tru (.int (Qct (t:Int) (1*2^((c:Nat):Int).toNat))))=true then _ else _
   rw[Qve ht hcw w6];cases hb:t.testBit c with
   |true=>
    have np:(2:Int)^c≠0:=by
     have:(0:Int)<2^c:=Int.pow_pos (by decide);omega
    rw[if_pos rfl];refine ifF ?_ ⟨_,_,_,_,_,rfl,Qa4 λk _=>?_⟩
    ·show(!((2:Int)^c != 0))=false;simp[np]
    ·unfold Qec;rw[et,Qea,if_pos hb,Qaz]
   |false=>
    refine ifT rfl ?_
    have olt:=QwW ht hcw;refine⟨.list (QdS h (B (t ||| 2^c))),?_,?_⟩
    ·show atI (Qh8 h w B) (QcY (t:Int) (1*2^((c:Nat):Int).toNat))=_;rw[QwX ht hcw w6];exact Q6 (Qd8 olt)
    ·show Qvk (QdI (Dl.cutD (QdS h (B (t ||| 2^c))) none (some (-1)))) _ _ _ _;rw[QoQ];refine QaE (λi δ=>∃ds x6 x7,δ=[.v (.list (Qh8 h w B)),.v (.list (Qew cols)),.v (.int t),.own ds,.v (.int c),.v (.int (1*2^((c:Nat):Int).toNat)),x6,x7]/\ds=QdS h (λk=>Qec B (cols.take j) t k+if 1<=k/\k<=i then B (t ||| 2^c) (k - 1) else 0)) ⟨_,_,_,rfl,Qa4 λk _=>?_⟩ ?_ ?_
     ·rw[if_neg (by omega),Qaz]
     ·rintro i d δ hd ⟨ds,x6,x7,rfl,rfl⟩;obtain⟨e,he,rfl⟩:=Qbg hd;rw[Qo] at he;have hi:i<h:=by
       by_cases z:i<h
       ·exact z
       ·rw[QJ (by rw[QH];omega)] at he;cases he
      rw[Ji hi] at he;cases he;refine⟨rfl,i+1,_,?_,QbA (by omega),_,_,_,rfl,?_⟩
      ·rw[QbV];exact Qm3 (k:=i+1) (by omega)
      ·rw[QoO (by omega)];refine Qa4 λk hk=>?_
       show(if k=i+1 then(Qec B (cols.take j) t (i+1)+if 1<=i+1/\i+1<=i then B (t ||| 2^c) (i+1 - 1) else 0)+B (t ||| 2^c) i else Qec B (cols.take j) t k+if 1<=k/\k<=i then B (t ||| 2^c) (k - 1) else 0)=Qec B (cols.take j) t k+if 1<=k/\k<=i+1 then B (t ||| 2^c) (k - 1) else 0
       by_cases z:k=i+1
       ·subst z;rw[if_pos rfl,if_neg (by omega),if_pos (by omega),Ze,Qaz]
       ·rw[if_neg z];by_cases z2:1<=k/\k<=i
        ·rw[if_pos z2,if_pos (by omega)]
        ·rw[if_neg z2,if_neg (by omega)]
     ·rintro δ ⟨ds,x6,x7,rfl,rfl⟩;rw[Qb0,Qc,QH];refine⟨_,_,_,_,_,rfl,Qa4 λk hk=>?_⟩;unfold Qec;rw[et];by_cases z:k=0
      ·subst z;rw[if_pos rfl,if_neg (by omega),if_pos rfl];omega
      ·rw[if_neg z,if_neg z,if_pos (by omega),Qea,if_neg (by rw[hb];decide)];omega
  ·rintro δ ⟨ds,x4,x5,x6,x7,rfl,rfl⟩;unfold Qew;rw[Qc,Zp];exact hR
theorem QpI:(["taken", "high"]:List Str).Nodup:=by decide +kernel
theorem Qju:(["at", "column", "row"]:List Str).Nodup:=by decide +kernel
theorem QpH:(["taken", "columns", "table"]:List Str).Nodup:=by decide +kernel
theorem Qch:Jl ["board", "high", "wide", "cells", "table", "row", "columns"] ["board"] (Qm Qkc):=⟨rfl,rfl,rfl,by decide +kernel,rfl,by decide +kernel,by decide +kernel⟩
theorem Qt8{f f1  : Addr}{fd fd1:QL}(F:Fun K "ways_to_go_on" "ways_to_go_on" Qkc f fd)(T:GlbA mg)
  (m1:mg "ways_with_row" = some (.ref f1))(G1:FnOk P w K mg base CX0 1 f1 fd1 ["below", "columns", "taken"] (JO true QsJ))(b1:Binds K fd1 ["below", "columns", "taken"] [])(k1:PySem.W.keepIn K (.ref f1)=true) :
  FnOk P w K mg base CX0 2 f fd ["board"] (JO true Qoq):=by
 refine okQ true F Qch (λargs R EX h=>?_) (λcdv A outer s H E hr=>?_)
 ·obtain⟨h,w,cs,rfl,_⟩:=h;rfl
 ·have hU:=Room.u60 hr;have hI:=Room.i60 hr;refine⟨_,QB (Qg6 (qv 0) (Qai rfl (JP 1 (JP 2 (JP 3 Qaj Qch.nd rfl (by first | exact Q2 rfl | exact QZ rfl)) Qch.nd rfl (by first | exact Q2 rfl | exact QZ rfl)) Qch.nd rfl (by first | exact Q2 rfl | exact QZ rfl))))
   (QB (Qdf 4 (Qb6 (Y0 (JB (YL ["taken", "high"] [none,some 1] (QbF (by rfl) T.range (QY (ZL Qjr QmK (QP Jg) (qp 2)))) (λcl ex s3 H3 C=>⟨(ZK 0 QpI rfl (Q2 rfl) (QZ rfl)),Yy,(JB (ZL Zj ZV (QY (Qb6 (Y0 Jg Q7))) (QY (ZL Qeo Qhi (QY (Qb6 (Y0 Jg Q7))) (qp 1)))))⟩))) Q7)) Qch.nd)
   (QB (QbE Jt rfl (Ql5 (by rfl) T.reversed (by rfl) T.range (qp 1)) (ZK 5 Qch.nd rfl (by first | exact Q2 rfl | exact QZ rfl))
    (QB (Za 6 (JB (YL ["at", "column", "row"] [none,none,some 5] (Qdu (qp 3)) (λcl ex s3 H3 C=>⟨(Qai rfl (JP 0 (JP 1 Qaj Qju rfl (Q2 rfl) (QZ rfl)) Qju rfl (Q2 rfl) (QZ rfl))),(QbB (Yk Qdw (Qhj hU) (qp 0) (qp 2) (ZW _))),(qv 1)⟩))) Qch.nd)
   (Q5 (Qwr 4 Jg (JB (YL ["taken", "columns", "table"] [none,some 6,some 4] (QbF (by rfl) T.range (QY (ZL Qjr QmK (QP Jg) (qp 2)))) (λcl ex s3 H3 C=>⟨(ZK 0 QpH rfl (Q2 rfl) (QZ rfl)),Yy,(JB (J3 G1 (hr.mono (by decide)) (by rfl) m1 k1 b1 JI (Zf (Yr Jk J4 (qp 2) (QP Jg) (λ_ _=>rfl)) (Zf (qv 1) (Zf (qv 0) Jb)))))⟩)))))))
   (Q5 (Qej 4)))),λargs R EX h=>?_⟩
  obtain⟨h,w,cs,rfl,h6,w6,hb,hR⟩:=h;refine⟨rfl,⟨by omega,by omega,by decide⟩,?_,Qaq (λ_=>.list (Qg 1::QR h (.int 0))) (λd hd k2 hk=>?_) ?_⟩
  ·exact QrV w6
  ·refine⟨⟨by omega,by omega,by rw[QV];show 1*h<=_;omega⟩,?_⟩;rw[QV,Qta];refine⟨by rw[Qaw];show 1+h<=_;omega,hk⟩
  ·have e0:(Qji 0 (1*2^((w:Nat):Int).toNat:Int).toNat).map (λ_=>YT (Qg 1::QR h (.int 0)))=Qh8 h w (Wc cs h 0):=by
    rw[QfZ,QV];unfold Qji Qh8;rw[QN];refine JD λt _=>?_
    show YT _=YT _;rw[QoP]
   rw[e0];refine⟨⟨by omega,by omega⟩,QaE (λi δ=>∃ds x5 x6,δ=[.v (bdD h w cs),.v (.int h),.v (.int w),.v (.tuple (cs.map pairD)),.own ds,x5,x6]/\ds=Qja cs h w i) ⟨_,_,_,rfl,rfl⟩ ?_ ?_⟩
   ·rintro i d δ hd ⟨ds,x5,x6,rfl,rfl⟩;obtain⟨hi,rfl⟩:=QfS hd;rw[QV] at hi;have er:((((h:Nat):Int).toNat:Nat):Int) - 1 - (i:Int)=((h - 1 - i:Nat):Int):=by omega
    rw[er];refine QiK (λd=>if(toP d).1=((h - 1 - i:Nat):Int) then some (.int (toP d).2) else none) (λd hd k1 k2 h1 h2=>?_) ?_
    ·obtain⟨p,_,rfl⟩:=Qt.mp hd;have h1:(if p.1=((h - 1 - i:Nat):Int) then some (Qg p.2) else none)=none->k1:=h1;have h2:∀e,(if p.1=((h - 1 - i:Nat):Int) then some (Qg p.2) else none)=some e->k2 e:=h2
     refine⟨rfl,?_⟩;show if decide (p.1=((h - 1 - i:Nat):Int))=true then k2 (.int p.2) else k1
     by_cases z:p.1=((h - 1 - i:Nat):Int)
     ·rw[if_pos (decide_eq_true z)];exact h2 _ (if_pos z)
     ·rw[if_neg (by simpa using z)];exact h1 (if_neg z)
    ·rw[QxT cs (h - 1 - i) λp hp=>(hb p hp).1];refine⟨⟨by omega,by omega,by decide⟩,?_,Qaq (λd=>match d with | .int t=>.list (QdS h (Wc cs h (i+1) t.toNat)) | _=>.none) (λd hd k2 hk=>?_) ?_⟩
     ·exact QrV w6
     ·obtain⟨t,ht⟩:=Jx.mp hd;obtain⟨htl,rfl⟩:=Qeg ht;rw[QfZ,QV] at htl;have hk:k2 (.list (QdS h (Wc cs h (i+1) (0+(t:Int)).toNat))):=hk;rw[show(0+(t:Int)).toNat=t by omega] at hk;refine⟨_,Q6 (j:=0) (Qh7 cs h w i),h,w,Wc cs h i,QkI cs (h - 1 - i),t,by rw[show(0:Int)+(t:Int)=(t:Int) by omega],htl,λc hc=>Qu2 hb hc,h6,w6,hk⟩
     ·refine⟨by rw[Qi8];omega,_,_,_,rfl,?_⟩;show YT _::Qja cs h w i=YT (Qh8 h w (Wc cs h (i+1)))::Qja cs h w i
      congr 2
      rw[QfZ,QV];unfold Qji Qh8;rw[QN];refine JD λt _=>?_
      show YT (QdS h (Wc cs h (i+1) (0+(t:Int)).toNat))=_;rw[show(0+(t:Int)).toNat=t by omega]
   ·rintro δ ⟨ds,x5,x6,rfl,rfl⟩;rw[QdT,QV];exact hR
theorem QlS:Jl ["board"] ["board"] (Qm Qda):=⟨rfl,rfl,rfl,by decide +kernel,rfl,by decide +kernel,by decide +kernel⟩
theorem QmD{f f1 f2  : Addr}{fd fd1 fd2:QL}(F:Fun K "counts" "counts" Qda f fd)(T:GlbA mg)
  (m1:mg "ways_to_go_on" = some (.ref f1))(G1:FnOk P w K mg base CX0 2 f1 fd1 ["board"] (JO true Qoq))(b1:Binds K fd1 ["board"] [])(k1:PySem.W.keepIn K (.ref f1)=true)
  (m2:mg "most_size" = some (.ref f2))(G2:FnOk P w K mg base CX0 1 f2 fd2 ["board"] (JO false QpQ))(b2:Binds K fd2 ["board"] [])(k2:PySem.W.keepIn K (.ref f2)=true) :
  FnOk P w K mg base CX0 3 f fd ["board"] (JO true Qcn):=by
 refine okQ true F QlS (λargs R EX h=>?_) (λcdv A outer s H E hr=>?_)
 ·obtain⟨h,w,cs,rfl,_⟩:=h;rfl
 ·have hU:=Room.u60 hr;have hI:=Room.i60 hr;refine⟨_,Q5 (Z1 (QfW (QP (Yr Jk J4 (QP (Yr Jk J4 (QY (J3 G1 (hr.mono (by decide)) (by rfl) m1 k1 b1 JI (Zf (qv 0) Jb))) (QP Jg) (λ_ _=>rfl))) (QP Jg) (λ_ _=>rfl))) QfV (QfU (QY (ZL Zj ZV (QP (JZ G2 (hr.mono (by decide)) (by rfl) m2 k2 b2 JI (Zf (qv 0) Jb))) (QP Jg)))))),λargs R EX h=>?_⟩;obtain⟨h,w,cs,rfl,h6,w6,hb,hR⟩:=h;refine⟨_,_,_,rfl,h6,w6,hb,_,Q6 (j:=0) (Qh7 cs h w h),_,Q6 (j:=0) (Qd8 (Qcz w)),_,_,_,rfl,?_⟩;have e:Dl.cutD (QdS h (Wc cs h h 0)) none (some (((min h w:Nat):Int)+1))=QjM cs h w:=by
   rw[Qra _ _ (by omega)];unfold QdS QjM;rw[<- Qyl,Qvs,show min (((min h w:Nat):Int)+1).toNat (h+1)=min h w+1 by omega]
  have hR:R (.list (QjM cs h w)):=hR;rw[<- e] at hR;exact hR
theorem Qs4:Jl ["start"] ["start"] (Qm Qkg):=⟨rfl,rfl,rfl,by decide +kernel,rfl,by decide +kernel,by decide +kernel⟩
theorem Quc{f   : Addr}{fd  : QL}(F:Fun K "row_behind" "row_behind" Qkg f fd)(T:GlbA mg) :
  FnOk P w K mg base CX0 1 f fd ["start"] (JO false QoM):=by
 refine okQ false F Qs4 (λargs R EX h=>?_) (λcdv A outer s H E hr=>?_)
 ·obtain⟨S,rfl,_⟩:=h;rfl
 ·have hU:=Room.u60 hr;have hI:=Room.i60 hr;refine⟨_,Q5 (YD (Qzu (Qei (qp 0)) (JB (ZL Zj ZV (QP (Yr Jk J4 (QP (Yr Jk J4 (qp 0) (QY (Qth (QP Jg))) (λ_ _=>rfl))) (QP Jg) (λ_ _=>rfl))) (QP Jg))) Jg)),λargs R EX h=>?_⟩;obtain⟨S,rfl,hR⟩:=h;refine⟨trivial,?_⟩;unfold rbI at hR;cases e:S.getLast? with
  |none=>
   rw[e] at hR;rw[List.getLast?_eq_none_iff] at e;subst e;exact hR
  |some c=>
   rw[e] at hR;refine ifT ?_ ⟨_,QuD e,_,Q6 (j:=0) rfl,hR⟩
   cases S with
   |nil=>cases e
   |cons a b=>rfl
theorem Qur:(["cell"]:List Str).Nodup:=by decide +kernel
theorem Quq:(["cell", "row", "taken"]:List Str).Nodup:=by decide +kernel
theorem QlQ:Jl ["board", "start", "row", "taken"] ["board", "start"] (Qm sFol):=⟨rfl,rfl,rfl,by decide +kernel,rfl,by decide +kernel,by decide +kernel⟩
theorem Qxe{f f1  : Addr}{fd fd1:QL}(F:Fun K "followers" "followers" sFol f fd)(T:GlbA mg)
  (m1:mg "row_behind" = some (.ref f1))(G1:FnOk P w K mg base CX0 1 f1 fd1 ["start"] (JO false QoM))(b1:Binds K fd1 ["start"] [])(k1:PySem.W.keepIn K (.ref f1)=true) :
  FnOk P w K mg base CX0 2 f fd ["board", "start"] (JO false QAd):=by
 refine okQ false F QlQ (λargs R EX h=>?_) (λcdv A outer s H E hr=>?_)
 ·obtain⟨h,w,cs,S,rfl,_⟩:=h;rfl
 ·have hU:=Room.u60 hr;have hI:=Room.i60 hr;refine⟨_,QB (Za 2 (JZ G1 (hr.mono (by decide)) (by rfl) m1 k1 b1 JI (Zf (qv 1) Jb)) QlQ.nd)
   (QB (Za 3 (JB (YL ["cell"] [none] (Qdu (qp 1)) (λcl ex s3 H3 C=>⟨(ZK 0 Qur rfl (Q2 rfl) (QZ rfl)),Yy,(Yr Jk J4 (qp 0) (QP Jg) (λ_ _=>rfl))⟩))) QlQ.nd)
   (Q5 (Z1 (YL ["cell", "row", "taken"] [none,some 2,some 3] (Qdu (QP (Yr Jk J4 (qp 0) (QP Jg) (λ_ _=>rfl)))) (λcl ex s3 H3 C=>⟨(ZK 0 Quq rfl (Q2 rfl) (QZ rfl)),(QbB (Ql6 (Qjn (Yk Qt3 QbK (QP (Yr Jk J4 (qp 0) (QP Jg) (λ_ _=>rfl))) (qp 1) (ZW _)) (QfT (Yk QbJ (Qks hI) (QP (Yr Jk J4 (qp 0) (QP Jg) (λ_ _=>rfl))) (qp 2) (by rfl)))))),(qv 0)⟩))))),λargs R EX h=>?_⟩
  obtain⟨h,w,cs,S,rfl,hR⟩:=h;refine⟨_,rfl,Qaq (λd=>.int (toP d).2) (λd hd k2 hk=>?_) ?_⟩
  ·obtain⟨p,_,rfl⟩:=Qt.mp hd;exact⟨_,Q6 (j:=1) rfl,hk⟩
  ·rw[show(S.map pairD).map (λd=>Qg (toP d).2)=(S.map (·.2)).map Qg by rw[QN,QN];rfl];refine⟨_,Q6 (j:=2) rfl,QiK (λd=>if(λc:Int×Int=>decide (rbI S<=c.1) && !decide (c.2∈S.map (·.2))) (toP d)=true then some d else none) (λd hd k1 k2 h1 h2=>?_) ?_⟩
   ·obtain⟨c,_,rfl⟩:=Qt.mp hd;have h1:(if(decide (rbI S<=c.1) && !decide (c.2∈S.map (·.2)))=true then some (pairD c) else none)=none->k1:=h1;have h2:∀e,(if(decide (rbI S<=c.1) && !decide (c.2∈S.map (·.2)))=true then some (pairD c) else none)=some e->k2 e:=h2
    refine⟨_,Q6 (j:=0) rfl,?_⟩;refine ifC (λz1=>?_) λz1=>?_
    ·have z1:decide (rbI S<=c.1)=true:=z1;rw[z1,Qyq] at h1 h2;refine⟨_,Q6 (j:=1) rfl,⟨Qaf _,rfl,by show Ys (.int _)<=50;unfold Ys;decide⟩,?_⟩;show if(!((S.map (·.2)).map Qg).any λe=>Q9 e (.int c.2))=true then _ else k1
     rw[QnP];by_cases z:(!decide (c.2∈S.map (·.2)))=true
     ·rw[if_pos z];exact h2 _ (if_pos z)
     ·rw[if_neg z];exact h1 (if_neg z)
    ·have z1:decide (rbI S<=c.1)=false:=z1;rw[z1] at h1;exact h1 rfl
   ·rw[QdX (λc:Int×Int=>decide (rbI S<=c.1) && !decide (c.2∈S.map (·.2)))];exact hR
theorem QoG:Jl ["board", "size"] ["board", "size"] (Qm Qfc):=⟨rfl,rfl,rfl,by decide +kernel,rfl,by decide +kernel,by decide +kernel⟩
theorem Qpy{f f1 f2  : Addr}{fd fd1 fd2:QL}(F:Fun K "refuse_no_size" "refuse_no_size" Qfc f fd)(T:GlbA mg)
  (m1:mg "is_whole_within" = some (.ref f1))(G1:FnOk P w K mg base CX0 2 f1 fd1 ["thing", "least", "most"] (JO false QcZ))(b1:Binds K fd1 ["thing", "least", "most"] [])(k1:PySem.W.keepIn K (.ref f1)=true)
  (m2:mg "most_size" = some (.ref f2))(G2:FnOk P w K mg base CX0 1 f2 fd2 ["board"] (JO false QpQ))(b2:Binds K fd2 ["board"] [])(k2:PySem.W.keepIn K (.ref f2)=true) :
  FnOk P w K mg base CX0 3 f fd ["board", "size"] (JO false QlV):=by
 refine okQ false F QoG (λargs R EX h=>?_) (λcdv A outer s H E hr=>?_)
 ·obtain⟨h,w,cs,k,rfl,_⟩:=h;rfl
 ·have hU:=Room.u60 hr;have hI:=Room.i60 hr;refine⟨_,Q5 (QbD (Qa5 (QbC (QP (JZ G1 (hr.mono (by decide)) (by rfl) m1 k1 b1 JI (Zf (qv 1) (Zf Jg (Zf (JZ G2 (hr.mono (by decide)) (by rfl) m2 k2 b2 JI (Zf (qv 0) Jb)) Jb))))))) Qa6 Yl),λargs R EX h=>?_⟩;obtain⟨h,w,cs,k,rfl,hk,hR⟩:=h;refine⟨_,_,_,rfl,_,_,_,rfl,?_⟩;show if(!inW (.int k) 0 ((min h w:Nat):Int))=true then _ else _
  rw[Qm8 (by omega) (by omega)];exact hR
theorem Qjt:(["row", "column"]:List Str).Nodup:=by decide +kernel
theorem QlN:Jl ["table", "start", "more", "taken"] ["table", "start", "more"] (Qm Qkd):=⟨rfl,rfl,rfl,by decide +kernel,rfl,by decide +kernel,by decide +kernel⟩
theorem Qt7{f f1  : Addr}{fd fd1:QL}(F:Fun K "ways_behind" "ways_behind" Qkd f fd)(T:GlbA mg)
  (m1:mg "row_behind" = some (.ref f1))(G1:FnOk P w K mg base CX0 1 f1 fd1 ["start"] (JO false QoM))(b1:Binds K fd1 ["start"] [])(k1:PySem.W.keepIn K (.ref f1)=true) :
  FnOk P w K mg base CX0 2 f fd ["table", "start", "more"] (JO false QsL):=by
 refine okQ false F QlN (λargs R EX h=>?_) (λcdv A outer s H E hr=>?_)
 ·obtain⟨h,w,cs,S,k,rfl,_⟩:=h;rfl
 ·have hU:=Room.u60 hr;have hI:=Room.i60 hr;refine⟨_,QB (Za 3 (JB (JU (Qhw rfl) Qsj (by rfl) T.sum Qsm (Qap (QY (YL ["row", "column"] [none,none] (Qdu (qp 1)) (λcl ex s3 H3 C=>⟨(Qai rfl (JP 0 (JP 1 Qaj Qjt rfl (Q2 rfl) (QZ rfl)) Qjt rfl (Q2 rfl) (QZ rfl))),Yy,(JB (ZL Qjr QmK (QP Jg) (qp 1)))⟩))) Q7))) QlN.nd)
   (Q5 (YD (Yr Jk J4 (QP (Yr Jk J4 (QP (Yr Jk J4 (qp 0) (QP (JZ G1 (hr.mono (by decide)) (by rfl) m1 k1 b1 JI (Zf (qv 1) Jb))) (λ_ _=>rfl))) (qp 3) (λ_ _=>rfl))) (qp 2) (λ_ _=>rfl)))),λargs R EX h=>?_⟩
  obtain⟨h,w,cs,S,k,rfl,g,st,hk,hR⟩:=h;have rb:=Qwh g st;have hw:=g.bds.2.1;have hb:∀p∈S,0<=p.2/\p.2<(w:Int):=λp hp=>g.bds.col p (st.sub p hp)
  have ms:=Qr6 hw (T:=[]) (S:=S) hb st.cols (Qcz w);rw[QgF] at ms;refine Qaq (λd=>.int (1*2^(toP d).2.toNat)) (λd hd k2 hk=>?_) ?_
  ·obtain⟨p,hp,rfl⟩:=Qt.mp hd;have:=hb p hp;exact⟨rfl,⟨by omega,by show p.2<=_;omega,by decide⟩,hk⟩
  ·have es:(S.map pairD).map (λd=>Qg (1*2^(toP d).2.toNat))=(S.map λp=>(1*2^p.2.toNat:Int)).map Qg:=by rw[QN,QN];rfl
   rw[es];refine Qlx _ rfl ?_
   have e2:(S.map λp=>(1*2^p.2.toNat:Int)).sum=((mkL S:Nat):Int):=by
    have:=ms.1;rw[show((mkL []:Nat):Int)=0 from rfl,Y4] at this;exact this
   rw[e2];obtain⟨r,er⟩:∃r:Nat,rbI S=r:=⟨(rbI S).toNat,by omega⟩
   have xl:=Qlf g k S st;rw[er,QV] at xl;rw[xl] at hR;refine⟨_,rfl,.list (Qh8 h w (Wc cs h (h - r))),?_,_,Q6 (Qd8 ms.2),_,Q6 (QbA hk),hR⟩;rw[er];exact Q6 (Qi9 cs h w h r (by omega))
theorem QaC:Jl ["board", "table", "start", "more", "number", "cells", "at", "ways"] ["board", "table", "start", "more", "number"] (Qm Qdb):=⟨rfl,rfl,rfl,by decide +kernel,rfl,by decide +kernel,by decide +kernel⟩
theorem QmE{f f1 f2  : Addr}{fd fd1 fd2:QL}(F:Fun K "cell_at" "cell_at" Qdb f fd)(T:GlbA mg)
  (m1:mg "followers" = some (.ref f1))(G1:FnOk P w K mg base CX0 2 f1 fd1 ["board", "start"] (JO false QAd))(b1:Binds K fd1 ["board", "start"] [])(k1:PySem.W.keepIn K (.ref f1)=true)
  (m2:mg "ways_behind" = some (.ref f2))(G2:FnOk P w K mg base CX0 2 f2 fd2 ["table", "start", "more"] (JO false QsL))(b2:Binds K fd2 ["table", "start", "more"] [])(k2:PySem.W.keepIn K (.ref f2)=true) :
  FnOk P w K mg base CX0 3 f fd ["board", "table", "start", "more", "number"] (JO false QiN):=by
 refine okQ false F QaC (λargs R EX h=>?_) (λcdv A outer s H E hr=>?_)
 ·obtain⟨h,w,cs,S,m,n,rfl,_⟩:=h;rfl
 ·have hU:=Room.u60 hr;have hI:=Room.i60 hr;refine⟨_,QB (Za 5 (JZ G1 (hr.mono (by decide)) (by rfl) m1 k1 b1 JI (Zf (qv 0) (Zf (qv 2) Jb))) QaC.nd)
   (QB (Za 6 Jg QaC.nd)
   (QB (Za 7 (JZ G2 (hr.mono (by decide)) (by rfl) m2 k2 b2 JI (Zf (qv 1) (Zf (JB (ZL Zj ZV (qp 2) (QY (QaH (Y0 (Yr Jk J4 (qp 5) (qp 6) (λ_ _=>rfl)) Q7))))) (Zf (qv 3) Jb)))) QaC.nd)
   (QB (QdU Jt (Yk Qt3 QbK (qp 4) (qp 7) (ZW _))
    (QB (QrQ 4 Qxx Qf3 (qp 7) QaC.nd)
   (QB (QrQ 6 Qm5 Qf3 (QP Jg) QaC.nd)
   (Q5 (Za 7 (JZ G2 (hr.mono (by decide)) (by rfl) m2 k2 b2 JI (Zf (qv 1) (Zf (JB (ZL Zj ZV (qp 2) (QY (QaH (Y0 (Yr Jk J4 (qp 5) (qp 6) (λ_ _=>rfl)) Q7))))) (Zf (qv 3) Jb)))) QaC.nd)))))
   (Q5 (Z1 (QaH (Y0 (Yr Jk J4 (qp 5) (qp 6) (λ_ _=>rfl)) (Y0 (qv 4) Q7)))))))),λargs R EX h=>?_⟩
  obtain⟨h,w,cs,S,m,n,rfl,g,st,hm,hn,hR⟩:=h;have en:xts cs (m+1) S=(fol cs S).flatMap λc=>xts cs m (S++[c]):=rfl
  rw[en] at hn hR;have lS:(S.map pairD).length=S.length:=Qc _;have sl:=Qid g st;have h6:=g.bds.1;refine⟨_,_,_,_,rfl,?_⟩;have get:∀a,a<(fol cs S).length->((fol cs S).map pairD)[a]? = some (pairD ((fol cs S).getD a (0,0)))/\(fol cs S).getD a (0,0)∈fol cs S/\(fol cs S).drop a=(fol cs S).getD a (0,0)::(fol cs S).drop (a+1):=λa ha=>by
   have e:(fol cs S).getD a (0,0)=(fol cs S)[a]:=by rw[Qd,Qe ha];rfl
   refine⟨by rw[Qo,Qe ha,e];rfl,by rw[e];exact ZF ha,by rw[e];exact QhP ha⟩
  have l0:0<(fol cs S).length:=by
   cases e:fol cs S with
   |nil=>rw[e] at hn;exact absurd hn (QvF _)
   |cons a b=>rw[QF];omega
  have wy:∀(a:Nat)(ha:a<(fol cs S).length),YX (S.map pairD++[pairD ((fol cs S).getD a (0,0))])=stT (S++[(fol cs S).getD a (0,0)]):=λa _=>by
   show _=YX ((S++[(fol cs S).getD a (0,0)]).map pairD);rw[Jj];rfl
  refine⟨_,Q6 (get 0 l0).1,by rw[lS];show _+1<=_;omega,?_⟩;refine⟨h,w,cs,S++[(fol cs S).getD 0 (0,0)],m,by rw[wy 0 l0],g,Qgh st (get 0 l0).2.1,by omega,?_⟩;refine Qi4 (λz δ=>∃a n2:Nat,z=(fol cs S).length - a/\a<(fol cs S).length/\δ=[.v (bdD h w cs),.v (.list (Qja cs h w h)),.v (stT S),.v (.int m),.v (.int n2),.v (.list ((fol cs S).map pairD)),.v (.int a),.v (.int ((xts cs m (S++[(fol cs S).getD a (0,0)])).length:Nat))]/\n2<(((fol cs S).drop a).flatMap λc=>xts cs m (S++[c])).length/\((fol cs S).flatMap λc=>xts cs m (S++[c]))[n]? = (((fol cs S).drop a).flatMap λc=>xts cs m (S++[c]))[n2]?) _ ⟨0,n,rfl,l0,rfl,hn,rfl⟩ ?_
  rintro z δ ⟨a,n2,rfl,ha,rfl,hn2,he⟩;obtain⟨g1,g2,g3⟩:=get a ha;rw[g3,Jw,Qr] at hn2;rw[g3,Jw] at he;refine ifC (λy=>?_) λy=>?_
  ·have y:((xts cs m (S++[(fol cs S).getD a (0,0)])).length:Int)<=(n2:Int):=of_decide_eq_true y;have ha2:a+1<(fol cs S).length:=by
    by_cases q:a+1<(fol cs S).length
    ·exact q
    ·rw[List.drop_eq_nil_of_le (by omega)] at hn2;exact absurd hn2 (by show ¬n2<_+0;omega)
   obtain⟨f1,f2,f3⟩:=get (a+1) ha2;refine⟨pairD ((fol cs S).getD (a+1) (0,0)),by rw[show(a:Int)+1=((a+1:Nat):Int) by omega];exact Q6 f1,by rw[lS];show _+1<=_;omega,?_⟩;refine⟨h,w,cs,S++[(fol cs S).getD (a+1) (0,0)],m,by rw[<- wy (a+1) ha2],g,Qgh st f2,by omega,?_⟩;refine⟨(fol cs S).length - (a+1),by omega,a+1,n2 - (xts cs m (S++[(fol cs S).getD a (0,0)])).length,rfl,ha2,?_,by omega,?_⟩
   ·rw[show((n2 - (xts cs m (S++[(fol cs S).getD a (0,0)])).length:Nat):Int)=(n2:Int) - ((xts cs m (S++[(fol cs S).getD a (0,0)])).length:Int) by omega,show((a+1:Nat):Int)=(a:Int)+1 by omega];rfl
   ·rw[he,ZX (by omega)]
  ·have y:(n2:Int)<((xts cs m (S++[(fol cs S).getD a (0,0)])).length:Int):=by have:=of_decide_eq_false y;omega
   refine⟨_,Q6 g1,hR _ n2 g2 (by omega) ?_⟩;rw[he,Z4 (by omega)]
theorem YK:Jl ["board", "size", "number", "table", "stand", "left", "more", "cell"] ["board", "size", "number"] (Qm QbU):=⟨rfl,rfl,rfl,by decide +kernel,rfl,by decide +kernel,by decide +kernel⟩
theorem Qkr{f f1 f2 f3 f4  : Addr}{fd fd1 fd2 fd3 fd4:QL}(F:Fun K "stand_at" "stand_at" QbU f fd)(T:GlbA mg)
  (m1:mg "refuse_no_size" = some (.ref f1))(G1:FnOk P w K mg base CX0 3 f1 fd1 ["board", "size"] (JO false QlV))(b1:Binds K fd1 ["board", "size"] [])(k1:PySem.W.keepIn K (.ref f1)=true)
  (m2:mg "ways_to_go_on" = some (.ref f2))(G2:FnOk P w K mg base CX0 2 f2 fd2 ["board"] (JO true Qoq))(b2:Binds K fd2 ["board"] [])(k2:PySem.W.keepIn K (.ref f2)=true)
  (m3:mg "is_whole_within" = some (.ref f3))(G3:FnOk P w K mg base CX0 2 f3 fd3 ["thing", "least", "most"] (JO false QcZ))(b3:Binds K fd3 ["thing", "least", "most"] [])(k3:PySem.W.keepIn K (.ref f3)=true)
  (m4:mg "cell_at" = some (.ref f4))(G4:FnOk P w K mg base CX0 3 f4 fd4 ["board", "table", "start", "more", "number"] (JO false QiN))(b4:Binds K fd4 ["board", "table", "start", "more", "number"] [])(k4:PySem.W.keepIn K (.ref f4)=true) :
  FnOk P w K mg base CX0 4 f fd ["board", "size", "number"] (JO false QfL):=by
 refine okQ false F YK (λargs R EX h=>?_) (λcdv A outer s H E hr=>?_)
 ·obtain⟨h,w,cs,k,n,L,rfl,_⟩:=h;rfl
 ·have hU:=Room.u60 hr;have hI:=Room.i60 hr;refine⟨_,QB (Qil (QP (JZ G1 (hr.mono (by decide)) (by rfl) m1 k1 b1 JI (Zf (qv 0) (Zf (qv 1) Jb)))))
   (QB (Za 3 (JB (J3 G2 (hr.mono (by decide)) (by rfl) m2 k2 b2 JI (Zf (qv 0) Jb))) YK.nd)
   (QB (QbD (Qa5 (QbC (QP (JZ G3 (hr.mono (by decide)) (by rfl) m3 k3 b3 JI (Zf (qv 2) (Zf Jg (Zf (JB (ZL Qem Qdx (QP (Yr Jk J4 (QP (Yr Jk J4 (QP (Yr Jk J4 (qp 3) (QP Jg) (λ_ _=>rfl))) (QP Jg) (λ_ _=>rfl))) (qp 1) (λ_ _=>rfl))) (QP Jg))) Jb))))))) Qa6 Yl)
   (QB (Za 4 (JB (QaH Q7)) YK.nd)
   (QB (Za 5 (qv 2) YK.nd)
   (QB (QbE Jt rfl (Ql5 (by rfl) T.reversed (by rfl) T.range (qp 1)) (ZK 6 YK.nd rfl (by first | exact Q2 rfl | exact QZ rfl))
    (QB (Qg6 (JZ G4 (hr.mono (by decide)) (by rfl) m4 k4 b4 JI (Zf (qv 0) (Zf (qv 3) (Zf (qv 4) (Zf (qv 6) (Zf (qv 5) Jb)))))) (Qai rfl (JP 7 (JP 5 Qaj YK.nd rfl (by first | exact Q2 rfl | exact QZ rfl)) YK.nd rfl (by first | exact Q2 rfl | exact QZ rfl))))
   (Q5 (Za 4 (JB (ZL Zj ZV (qp 4) (QY (QaH (Y0 (qv 7) Q7))))) YK.nd))))
   (Q5 (YD (qv 4)))))))),λargs R EX h=>?_⟩
  obtain⟨h,w,cs,k,n,L,rfl,g,hk,eL,hR⟩:=h;refine⟨_,_,_,_,rfl,hk,?_⟩;have h6:=g.bds.1;have w6:=g.bds.2.1;refine⟨_,_,_,rfl,h6,w6,g.bds.col,?_⟩;refine⟨_,Q6 (j:=0) (Qh7 cs h w h),_,Q6 (j:=0) (Qd8 (Qcz w)),_,Q6 (QbA (show k<=h by omega)),?_⟩;refine⟨_,_,_,rfl,?_⟩;show if(!inW (.int n) 0 (Wc cs h h 0 k - 1))=true then _ else _
  rw[Qdl g];have hn:=(QU.mp eL).1;rw[Qm8 (by omega) (by omega)];refine ifF rfl ?_
  ·rw[<- QuN] at eL hn;refine⟨⟨by omega,by omega⟩,QaE (λi δ=>∃(S:List (Int×Int))(n2:Nat)(x6 x7:Sl),δ=[.v (bdD h w cs),.v (.int k),.v (.int n),.v (.list (Qja cs h w h)),.v (stT S),.v (.int n2),x6,x7]/\Std cs S/\S.length=i/\n2<(xts cs (k - i) S).length/\(xts cs (k - i) S)[n2]? = some L) ⟨[],n,_,_,rfl,.nil,rfl,hn,eL⟩ ?_ ?_⟩
   ·rintro i d δ hd ⟨S,n2,x6,x7,rfl,st,lS,hn2,e2⟩;obtain⟨hi,rfl⟩:=QfS hd;rw[QV] at hi;have er:((((k:Nat):Int).toNat:Nat):Int) - 1 - (i:Int)=((k - i - 1:Nat):Int):=by omega
    rw[er];have ek:k - i=(k - i - 1)+1:=by omega
    rw[ek] at hn2 e2;refine⟨_,_,_,_,_,_,rfl,g,st,by omega,hn2,λc n3 hc hc3 ee3=>⟨rfl,?_⟩⟩;have es:stT (S++[c])=.tuple (S.map pairD++[pairD c]):=by unfold stT;rw[Jj];rfl
    refine⟨by rw[Qc];show _+1<=_;omega,S++[c],n3,.v (.int ((k - i - 1:Nat):Int)),.v (pairD c),by rw[es];rfl,Qgh st hc,by rw[Qr,lS];rfl,?_,?_⟩
    ·rw[show k - (i+1)=k - i - 1 by omega];exact hc3
    ·rw[show k - (i+1)=k - i - 1 by omega,<- ee3];exact e2
   ·rintro δ ⟨S,n2,x6,x7,rfl,st,lS,hn2,e2⟩;rw[QdT,QV,Qk9] at hn2 e2;have hn2:n2<1:=hn2;obtain rfl:n2=0:=by omega
    have e2:=QK e2;rw[e2];exact hR
theorem Qhl:(["size", "many"]:List Str).Nodup:=by decide +kernel
theorem QoK:Jl ["board"] ["board"] (Qm Qfg):=⟨rfl,rfl,rfl,by decide +kernel,rfl,by decide +kernel,by decide +kernel⟩
theorem QpE{f f1  : Addr}{fd fd1:QL}(F:Fun K "greatest_size" "greatest_size" Qfg f fd)(T:GlbA mg)
  (m1:mg "counts" = some (.ref f1))(G1:FnOk P w K mg base CX0 3 f1 fd1 ["board"] (JO true Qcn))(b1:Binds K fd1 ["board"] [])(k1:PySem.W.keepIn K (.ref f1)=true) :
  FnOk P w K mg base CX0 4 f fd ["board"] (JO false Qnb):=by
 refine okQ false F QoK (λargs R EX h=>?_) (λcdv A outer s H E hr=>?_)
 ·obtain⟨h,w,cs,rfl,_⟩:=h;rfl
 ·have hU:=Room.u60 hr;have hI:=Room.i60 hr;refine⟨_,Q5 (Z1 (JU (QnC rfl) Qu7 (by rfl) T.max QnE (Qap (QY (YL ["size", "many"] [none,none] (QbW (by rfl) T.enumerate (QY (J3 G1 (hr.mono (by decide)) (by rfl) m1 k1 b1 JI (Zf (qv 0) Jb)))) (λcl ex s3 H3 C=>⟨(Qai rfl (JP 0 (JP 1 Qaj Qhl rfl (Q2 rfl) (QZ rfl)) Qhl rfl (Q2 rfl) (QZ rfl))),(QbB (Yk Qmu QbK (qp 1) (QP Jg) (ZW _))),(qv 0)⟩))) Q7))),λargs R EX h=>?_⟩;obtain⟨h,w,cs,rfl,b,hR⟩:=h;refine⟨_,_,_,rfl,b.1,b.2.1,b.col,QiK (λd=>match d with | .tuple [.int k,.int n]=>if 0<n then some (.int k) else none | _=>none) (λd hd k1 k2 h1 h2=>?_) ?_⟩
  ·obtain⟨k,hk⟩:=Jx.mp hd;obtain⟨e,he,rfl⟩:=Qbg hk;obtain⟨n,rfl⟩:=Qrg (Q8 he);have h1:(if 0<n then some (Qg (k:Int)) else none)=none->k1:=h1;have h2:∀e,(if 0<n then some (Qg (k:Int)) else none)=some e->k2 e:=h2
   refine⟨rfl,?_⟩;show if decide (0<n)=true then k2 (.int (k:Int)) else k1
   by_cases z:0<n
   ·rw[if_pos (decide_eq_true z)];exact h2 _ (if_pos z)
   ·rw[if_neg (by simpa using z)];exact h1 (if_neg z)
  ·have e:(QdI (QjM cs h w)).filterMap (λd=>match d with | .tuple [.int k,.int n]=>if 0<n then some (Qg k) else none | _=>none)=(((Qp (min h w+1)).filter λk=>decide (0<Wc cs h h 0 k)).map λ(k:Nat)=>(k:Int)).map Qg:=by
    unfold QdI;rw[Yp,QN,Qrf];refine Qnh λk hk=>?_
    have hk:=QM.mp hk;have e1:(QjM cs h w).getD k .none=.int (Wc cs h h 0 k):=by
     unfold QjM;rw[Qd,Qo,Ji hk];rfl
    show(match YX [.int (k:Int),(QjM cs h w).getD k .none] with | .tuple [.int k,.int n]=>if 0<n then some (Qg k) else none | _=>none)=_;rw[e1];show(if 0<Wc cs h h 0 k then some (Qg (k:Int)) else none)=if decide (0<Wc cs h h 0 k)=true then _ else _
    by_cases z:0<Wc cs h h 0 k
    ·rw[if_pos z,if_pos (decide_eq_true z)];rfl
    ·rw[if_neg z,if_neg (by simpa using z)]
   rw[e];have mem:∀{k:Nat},k<=min h w->0<Wc cs h h 0 k->(k:Int)∈((Qp (min h w+1)).filter λk=>decide (0<Wc cs h h 0 k)).map λ(k:Nat)=>(k:Int):=λ{k} h1 h2=>Qt.mpr ⟨k,Qz.mpr ⟨QM.mpr (by omega),decide_eq_true h2⟩,rfl⟩
   refine Quw (Qb7 (mem (Jc _) (by rw[Qss];decide))) λm hm hmx=>?_
   obtain⟨k,hk,rfl⟩:=Qt.mp hm;have hk:=Qz.mp hk;refine hR k ⟨by have:=QM.mp hk.1;omega,of_decide_eq_true hk.2,λj hj hp=>?_⟩;have:=hmx _ (mem hj hp);omega
end
def QsP:DF:=λargs R _=>∃(h w:Nat)(f:Nat->Nat->Bool),args=[.v (bdD h w (cellsF h w f))]/\h<=6/\w<=6/\R (bdD w h (cellsF w h (tF f)))
def QzV(f:Nat->Nat->Bool)(rs ms:List Nat):Nat->Nat->Bool:=λr c=>f (rs.getD r 0) (ms.getD c 0)
def QzW(f:Nat->Nat->Bool)(rs ms:List Nat):PyData:=bdD rs.length ms.length (cellsF rs.length ms.length (QzV f rs ms))
def Qmo:DF:=λargs R _=>∃(h w:Nat)(f:Nat->Nat->Bool)(rs ms:List Nat),args=[.v (bdD h w (cellsF h w f)),.v (.list (Qew rs)),.v (.list (Qew ms))]/\rs.length<=6/\ms.length<=6/\(∀x∈rs,x<h)/\(∀x∈ms,x<w)/\R (QzW f rs ms)
def QmM:DF:=λargs R _=>∃(n:Nat)(o:List Nat),args=[.v (.int n),.v (tNn o)]/\o.Pairwise (· < ·)/\(∀x∈o,x<n)/\R (.bool true)
def Qiw:DF:=λargs R _=>∃(h w:Nat)(cs:List (Int×Int))(a b:List Nat),args=[.v (bdD h w cs),.v (.tuple [tNn a,tNn b])]/\a.Pairwise (· < ·)/\(∀x∈a,x<h)/\b.Pairwise (· < ·)/\(∀x∈b,x<w)/\R (.bool true)
def Qy9:DF:=λargs R _=>∃(h w:Nat)(f:Nat->Nat->Bool)(a b:List Nat),args=[.v (bdD h w (cellsF h w f)),.v (.tuple [tNn a,tNn b])]/\h<=6/\w<=6/\a.Pairwise (· < ·)/\(∀x∈a,x<h)/\b.Pairwise (· < ·)/\(∀x∈b,x<w)/\oth h a≠[]/\oth w b≠[]/\R (QzW f (oth h a) (oth w b))
def Qic:DF:=λargs R _=>∃(h w:Nat)(f:Nat->Nat->Bool)(r c:Nat),args=[.v (bdD h w (cellsF h w f)),.v (pairD ((r:Int),(c:Int)))]/\1<h/\h<=6/\1<w/\w<=6/\r<h/\c<w/\f r c=true/\R (QzW f (oth h [r]) (oth w [c]))
def QkN(h w:Nat)(f g:Nat->Nat->Bool):Nat->Nat->Bool:=λr c=>if r<h then decide (c<w)&&f r c else decide (w<=c)&&g (r - h) (c - w)
def QiQ:DF:=λargs R _=>∃(h w:Nat)(f:Nat->Nat->Bool)(h2 w2:Nat)(f2:Nat->Nat->Bool),args=[.v (bdD h w (cellsF h w f)),.v (bdD h2 w2 (cellsF h2 w2 f2))]/\h<=3/\w<=3/\h2<=3/\w2<=3/\R (bdD ((h+h2:Nat):Int) ((w+w2:Nat):Int) (cellsF (h+h2) (w+w2) (QkN h w f f2)))
def cwT(a b:List Int)(i k:Nat):Int:=if i<=k then a.getD i 0*b.getD (k - i) 0 else 0
def cwS(a b:List Int):List Int:=(Qp (a.length+b.length - 1)).map λk=>sumN a.length λi=>cwT a b i k
def QpP:DF:=λargs R _=>∃a b:List Int,args=[.v (.list (a.map Qg)),.v (.list (b.map Qg))]/\1<=a.length/\a.length<=500/\1<=b.length/\b.length<=500/\(∀y∈b,-(2^64)<y/\y<2^64)/\R (.list ((cwS a b).map Qg))
theorem Qjj:∀(ds:List PyData),ds.Pairwise (λa b=>ltD a b=true)->Qkn ds=true
 |[],_=>rfl
 |[x],_=>rfl
 |x::y::r,h=>by
  have h:=QdL.mp h;show(ltD x y&&Qkn (y::r))=true;rw[h.1 y (.head _),Qjj (y::r) h.2];rfl
theorem Quz(a b:Nat):ltD (.int (a:Int)) (.int (b:Int))=decide (a<b):=by
 show isL (Qu4 (a:Int) (b:Int))=_;unfold Qu4;by_cases h:a<b
 ·rw[if_pos (by omega),decide_eq_true h];rfl
 ·rw[if_neg (by omega),decide_eq_false h];split<;>rfl
theorem Qwg{o:List Nat}(h:o.Pairwise (· < ·)):Qkn (Qew o)=true:=Qjj _ (JR.mpr (h.imp λ{a b} hp=>by rw[Quz];exact decide_eq_true hp))
theorem QAq(o:List Nat):Qst (Qew o):=λx hx=>by
 obtain⟨a,_,rfl⟩:=Qt.mp hx;refine⟨rfl,Jc _,λy hy=>?_⟩;obtain⟨b,_,rfl⟩:=Qt.mp hy;rfl
theorem Qxy(t:List Nat):Qew t=(t.map λ(y:Nat)=>(y:Int)).map Qg:=by unfold Qew;rw[QN];rfl
theorem QzS{h w:Nat}{f:Nat->Nat->Bool}{r c:Nat}(hr:r<h)(hc:c<w):decide (((r:Int),(c:Int))∈cellsF h w f)=f r c:=by
 rw[J6,decide_eq_true_eq,JK];constructor
 ·rintro⟨r',c',_,_,hf,e⟩;have e1:(r:Int)=(r':Int):=(Zs e).1;have e2:(c:Int)=(c':Int):=(Zs e).2;rw[show r=r' by omega,show c=c' by omega];exact hf
 ·intro hf;exact⟨r,c,hr,hc,hf,rfl⟩
def QmZ(cs:List (Int×Int))(cols:List Int)(r:Nat)(row:Int):List (Int×Int):=((Qp cols.length).filter λc=>decide ((row,cols.getD c 0)∈cs)).map λ(c:Nat)=>((r:Int),(c:Int))
def Qvx(cs:List (Int×Int))(rows cols:List Int):List (Int×Int):=(Qp rows.length).flatMap λr=>QmZ cs cols r (rows.getD r 0)
def Qxo(cs:List (Int×Int))(r:Int)(i:Nat):PyData->Option PyData
 |.tuple [.int c,.int col]=>if(r,col)∈cs then some (pairD ((i:Int),c)) else none
 |_=>none
theorem Qxn(cs:List (Int×Int))(cols:List Int)(i:Nat)(r:Int):(QdI (cols.map Qg)).filterMap (Qxo cs r i)=(QmZ cs cols i r).map pairD:=by
 unfold QdI QmZ;rw[Yp,Qc,QN];have key:∀l:List Nat,(∀j∈l,j<cols.length)->l.filterMap (Qxo cs r i∘λ(j:Nat)=>YX [Qg j,(cols.map Qg).getD j .none])=(l.filter λc=>decide ((r,cols.getD c 0)∈cs)).map (pairD∘λ(c:Nat)=>((i:Int),(c:Int))):=λl=>by
  induction l with
  |nil=>intro _;rfl
  |cons j l ih=>
   intro hl;have hj:=hl j (.head _);have e:(cols.map Qg).getD j .none=Qg (cols.getD j 0):=by
    rw[Qd,Qo,Qd,Qe hj];rfl
   have e2:(Qxo cs r i∘λ(j:Nat)=>YX [Qg j,(cols.map Qg).getD j .none]) j=if(r,cols.getD j 0)∈cs then some (pairD ((i:Int),(j:Int))) else none:=by
    show Qxo cs r i (YX [Qg j,(cols.map Qg).getD j .none])=_;rw[e];rfl
   rw[Qa1,e2];by_cases z:(r,cols.getD j 0)∈cs
   ·rw[if_pos z,Jy (by simpa using z),JF,ih λk hk=>hl k (.tail _ hk)];rfl
   ·rw[if_neg z,Jp (by simpa using z),ih λk hk=>hl k (.tail _ hk)]
 exact key _ λj hj=>QM.mp hj
theorem QpZ(cs:List (Int×Int))(cols:List Int)(i:Nat)(r:Int):(QmZ cs cols i r).length<=cols.length:=by
 unfold QmZ;rw[Qc];have:=Zi (λc=>decide ((r,cols.getD c 0)∈cs)) (Qp cols.length);rw[QH] at this;exact this
theorem Qjy(cs:List (Int×Int))(cols:List Int)(g:Nat->Int):∀n,((Qp n).flatMap λr=>QmZ cs cols r (g r)).length<=n*cols.length
 |0=>by simp
 |n+1=>by
  rw[QgD,Qa0,Qr];have h1:=Qjy cs cols g n;have h2:=QpZ cs cols n (g n);have h3:([n].flatMap λr=>QmZ cs cols r (g r)).length=(QmZ cs cols n (g n)).length:=by simp
  rw[h3,Nat.add_mul];omega
def Qtp(cs:List (Int×Int))(cols:List Int):PyData->List PyData
 |.tuple [.int i,.int r]=>(QmZ cs cols i.toNat r).map pairD
 |_=>[]
theorem Qme(cs:List (Int×Int))(rows cols:List Int):(QdI (rows.map Qg)).flatMap (Qtp cs cols)=(Qvx cs rows cols).map pairD:=by
 unfold QdI Qvx;rw[Qc];have key:∀l:List Nat,(∀j∈l,j<rows.length)->(l.map λ(i:Nat)=>YX [Qg i,(rows.map Qg).getD i .none]).flatMap (Qtp cs cols)=(l.flatMap λr=>QmZ cs cols r (rows.getD r 0)).map pairD:=λl=>by
  induction l with
  |nil=>intro _;rfl
  |cons j l ih=>
   intro hl;have hj:=hl j (.head _);have e:(rows.map Qg).getD j .none=Qg (rows.getD j 0):=by
    rw[Qd,Qo,Qd,Qe hj];rfl
   rw[JF,Jw,ih λk hk=>hl k (.tail _ hk),e,Jw,Jj];rfl
 exact key _ λj hj=>QM.mp hj
theorem QzU{h w:Nat}{f:Nat->Nat->Bool}{rs ms:List Nat}(hr:∀x∈rs,x<h)(hm:∀x∈ms,x<w):Qvx (cellsF h w f) (rs.map λ(x:Nat)=>(x:Int)) (ms.map λ(x:Nat)=>(x:Int))=cellsF rs.length ms.length (QzV f rs ms):=by
 have e:Qvx (cellsF h w f) (rs.map λ(x:Nat)=>(x:Int)) (ms.map λ(x:Nat)=>(x:Int))=cellsF (rs.map λ(x:Nat)=>(x:Int)).length (ms.map λ(x:Nat)=>(x:Int)).length λr c=>decide (((rs.map λ(x:Nat)=>(x:Int)).getD r 0,(ms.map λ(x:Nat)=>(x:Int)).getD c 0)∈cellsF h w f):=rfl
 rw[e,Qc,Qc];refine QaP λr c hr' hc'=>?_
 have g:∀(l:List Nat)(i:Nat),i<l.length->(l.map λ(x:Nat)=>(x:Int)).getD i 0=((l.getD i 0:Nat):Int)/\l.getD i 0∈l:=λl i hi=>by
  rw[Qd,Qo,Qd,Qe hi];exact⟨rfl,ZF hi⟩
 rw[(g rs r hr').1,(g ms c hc').1,QzS (hr _ (g rs r hr').2) (hm _ (g ms c hc').2)];rfl
section
variable{P:QC}{w:Jf}{K:PySem.W.Frag}{mg:Str->Option Value}{base:Heap}
theorem Qfl:(["one", "other"]:List Str).Nodup:=by decide +kernel
theorem QlO:Jl ["things"] ["things"] (Qm Qc7):=⟨rfl,rfl,rfl,by decide +kernel,rfl,by decide +kernel,by decide +kernel⟩
theorem Qmx{f   : Addr}{fd  : QL}(F:Fun K "is_rising" "is_rising" Qc7 f fd)(T:GlbA mg) :
  FnOk P w K mg base CX0 1 f fd ["things"] (JO false Qij):=by
 refine okQ false F QlO (λargs R EX h=>?_) (λcdv A outer s H E hr=>?_)
 ·obtain⟨ds,rfl | rfl,_⟩:=h<;>rfl
 ·have hU:=Room.u60 hr;have hI:=Room.i60 hr;refine⟨_,Q5 (Z1 (JU QjO (Qsk rfl) (by rfl) T.all Qso (Qap (QY (YL ["one", "other"] [none,none] (Qzs (Qtf (by rfl) T.zip (qp 0) (QY (QfW (qp 0) (QfU (QP Jg)) QfV))) (Qtg (by rfl) T.zip (qp 0) (QY (QfW (qp 0) (QfU (QP Jg)) QfV)))) (λcl ex s3 H3 C=>⟨(Qai rfl (JP 0 (JP 1 Qaj Qfl rfl (Q2 rfl) (QZ rfl)) Qfl rfl (Q2 rfl) (QZ rfl))),Yy,(JB (QeY (Qw2 hU) Qxf (qp 0) (qp 1) (ZW _)))⟩))) Q7))),λargs R EX h=>?_⟩;obtain⟨ds,h,hc,hR⟩:=h;have go:∀d∈Qj4 ds (Dl.cutD ds (some 1) none),∃a b,d=.tuple [a,b]/\(okK a=true/\okK b=true/\Qn9 a b=true/\a.depth<=20):=λd hd=>by
   obtain⟨i,hi⟩:=Jx.mp hd;obtain⟨a,b,ha,hb,rfl⟩:=Dl.zip_get hi;have ma:=Q8 ha;have mb:=Qrb (Q8 hb);exact⟨a,b,rfl,(hc a ma).1,(hc b mb).1,(hc a ma).2.2 b mb,(hc a ma).2.1⟩
  rcases h with rfl | rfl
  ·refine .inl (Qaq (λd=>.bool (Qxj d)) (λd hd k2 hk=>?_) (QiV (items:=Qj4 ds (Dl.cutD ds (some 1) none)) rfl (by rw[Qd5];exact hR)));obtain⟨a,b,rfl,q⟩:=go d hd;exact⟨rfl,q,hk⟩
  ·refine .inr (Qaq (λd=>.bool (Qxj d)) (λd hd k2 hk=>?_) (QiV (items:=Qj4 ds (Dl.cutD ds (some 1) none)) rfl (by rw[Qd5];exact hR)));obtain⟨a,b,rfl,q⟩:=go d hd;exact⟨rfl,q,hk⟩
theorem QoH:Jl ["high", "wide", "thing"] ["high", "wide", "thing"] (Qm Qfd):=⟨rfl,rfl,rfl,by decide +kernel,rfl,by decide +kernel,by decide +kernel⟩
theorem Qpz{f f1  : Addr}{fd fd1:QL}(F:Fun K "is_place" "is_place" Qfd f fd)(T:GlbA mg)
  (m1:mg "is_whole_within" = some (.ref f1))(G1:FnOk P w K mg base CX0 2 f1 fd1 ["thing", "least", "most"] (JO false QcZ))(b1:Binds K fd1 ["thing", "least", "most"] [])(k1:PySem.W.keepIn K (.ref f1)=true) :
  FnOk P w K mg base CX0 3 f fd ["high", "wide", "thing"] (JO false Qmd):=by
 refine okQ false F QoH (λargs R EX h=>?_) (λcdv A outer s H E hr=>?_)
 ·obtain⟨h,w,d,rfl,_⟩:=h;rfl
 ·have hU:=Room.u60 hr;have hI:=Room.i60 hr;refine⟨_,QB (QbD (Ql6 (Qik (Qa5 (QbC (QY (Qg7 .tuple (by rfl) T.isinstance (qp 2) (by rfl) T.tuple Qag)))) (Qeh (Yk Qen (Qit hU) (QY (JU J7 Yw (by rfl) T.len Yg (Qap (qp 2) Q7))) (QP Jg) (ZW _))))) (Q5 (YD Ql7)) Yl)
   (Q5 (YD (Ql8 (QP (JZ G1 (hr.mono (by decide)) (by rfl) m1 k1 b1 JI (Zf (Yr Jk J4 (qp 2) (QP Jg) (λ_ _=>rfl)) (Zf Jg (Zf (JB (ZL Qem Qdx (qp 0) (QP Jg))) Jb))))) (Qko (JZ G1 (hr.mono (by decide)) (by rfl) m1 k1 b1 JI (Zf (Yr Jk J4 (qp 2) (QP Jg) (λ_ _=>rfl)) (Zf Jg (Zf (JB (ZL Qem Qdx (qp 1) (QP Jg))) Jb)))))))),λargs R EX h=>?_⟩
  obtain⟨h,w,d,rfl,hR⟩:=h;cases d with
  |tuple ds=>
   match ds,hR with
   |[a,b],hR=>
    refine⟨a,rfl,_,_,_,rfl,?_⟩;refine Qvd hR λ_ hR=>?_
    exact⟨b,rfl,_,_,_,rfl,hR⟩
   |[],hR=>exact hR
   |[_],hR=>exact hR
   |a::b::c::r,hR=>
    exact hR
  |_=>exact hR
theorem Qs5:Jl ["board", "cell"] ["board", "cell"] (Qm Qkh):=⟨rfl,rfl,rfl,by decide +kernel,rfl,by decide +kernel,by decide +kernel⟩
theorem Qud{f f1  : Addr}{fd fd1:QL}(F:Fun K "refuse_no_cell" "refuse_no_cell" Qkh f fd)(T:GlbA mg)
  (m1:mg "is_place" = some (.ref f1))(G1:FnOk P w K mg base CX0 3 f1 fd1 ["high", "wide", "thing"] (JO false Qmd))(b1:Binds K fd1 ["high", "wide", "thing"] [])(k1:PySem.W.keepIn K (.ref f1)=true) :
  FnOk P w K mg base CX0 4 f fd ["board", "cell"] (JO false QoT):=by
 refine okQ false F Qs5 (λargs R EX h=>?_) (λcdv A outer s H E hr=>?_)
 ·obtain⟨h,w,cs,p,rfl,_⟩:=h;rfl
 ·have hU:=Room.u60 hr;have hI:=Room.i60 hr;refine⟨_,Q5 (QbD (Ql6 (Qik (Qa5 (QbC (QP (JZ G1 (hr.mono (by decide)) (by rfl) m1 k1 b1 JI (Zf (Yr Jk J4 (qp 0) (QP Jg) (λ_ _=>rfl)) (Zf (Yr Jk J4 (qp 0) (QP Jg) (λ_ _=>rfl)) (Zf (qv 1) Jb))))))) (Qeh (Yk QbJ (Qks hI) (qp 1) (QP (Yr Jk J4 (qp 0) (QP Jg) (λ_ _=>rfl))) (by rfl))))) Qa6 Yl),λargs R EX h=>?_⟩;obtain⟨h,w,cs,p,rfl,b,hp,hR⟩:=h;have q:=b.2.2 p hp;refine⟨_,Q6 (j:=0) rfl,_,Q6 (j:=1) rfl,_,_,_,rfl,?_⟩;rw[Qxw q.1 q.2.1 q.2.2.1 q.2.2.2];refine⟨_,Q6 (j:=2) rfl,⟨Qa7 cs,rfl,by have:=Qb1 p;omega⟩,?_⟩;have e:((cs.map pairD).any λe=>Q9 e (pairD p))=true:=by rw[QcP];exact decide_eq_true hp
  refine ifF ?_ hR
  show(!((cs.map pairD).any λe=>Q9 e (pairD p)))=false;rw[e];rfl
theorem Quo:(["other", "cell"]:List Str).Nodup:=by decide +kernel
theorem QoE:Jl ["board", "cell", "high", "wide", "cells"] ["board", "cell"] (Qm sWo):=⟨rfl,rfl,rfl,by decide +kernel,rfl,by decide +kernel,by decide +kernel⟩
theorem QzO{f f1  : Addr}{fd fd1:QL}(F:Fun K "without" "without" sWo f fd)(T:GlbA mg)
  (m1:mg "refuse_no_cell" = some (.ref f1))(G1:FnOk P w K mg base CX0 4 f1 fd1 ["board", "cell"] (JO false QoT))(b1:Binds K fd1 ["board", "cell"] [])(k1:PySem.W.keepIn K (.ref f1)=true) :
  FnOk P w K mg base CX0 5 f fd ["board", "cell"] (JO false QfE):=by
 refine okQ false F QoE (λargs R EX h=>?_) (λcdv A outer s H E hr=>?_)
 ·obtain⟨h,w,cs,p,rfl,_⟩:=h;rfl
 ·have hU:=Room.u60 hr;have hI:=Room.i60 hr;refine⟨_,QB (Qil (QP (JZ G1 (hr.mono (by decide)) (by rfl) m1 k1 b1 JI (Zf (qv 0) (Zf (qv 1) Jb)))))
   (QB (Qg6 (qv 0) (Qai rfl (JP 2 (JP 3 (JP 4 Qaj QoE.nd rfl (by first | exact Q2 rfl | exact QZ rfl)) QoE.nd rfl (by first | exact Q2 rfl | exact QZ rfl)) QoE.nd rfl (by first | exact Q2 rfl | exact QZ rfl))))
   (Q5 (Z1 (QaH (Y0 (qv 2) (Y0 (qv 3) (Y0 (JB (Qad Yd Qb2 (by rfl) T.tuple Qag (Qap (QY (YL ["other", "cell"] [none,some 1] (Qdu (qp 4)) (λcl ex s3 H3 C=>⟨(ZK 0 Quo rfl (Q2 rfl) (QZ rfl)),(QbB (Yk Qen (Qit hU) (qp 0) (qp 1) (ZW _))),(qv 0)⟩))) Q7))) Q7))))))),λargs R EX h=>?_⟩
  obtain⟨h,w,cs,p,rfl,b,hp,hR⟩:=h;refine⟨_,_,_,_,rfl,b,hp,?_⟩;refine⟨rfl,QiK (λd=>if(λq:Int×Int => !decide (q=p)) (toP d)=true then some d else none) (λd hd k1 k2 h1 h2=>?_) ?_⟩
  ·obtain⟨q,_,rfl⟩:=Qt.mp hd;have h1:(if(!decide (q=p))=true then some (pairD q) else none)=none->k1:=h1;have h2:∀e,(if(!decide (q=p))=true then some (pairD q) else none)=some e->k2 e:=h2
   refine⟨⟨rfl,rfl,.inl (by have:=Qb1 q;omega)⟩,?_⟩;show if(!Q9 (pairD q) (pairD p))=true then k2 (pairD q) else k1
   rw[QeD];by_cases z:(!decide (q=p))=true
   ·rw[if_pos z];exact h2 _ (if_pos z)
   ·rw[if_neg z];exact h1 (if_neg z)
  ·rw[QdX (λq:Int×Int => !decide (q=p))];exact hR
theorem Qup:(["number", "numbers"]:List Str).Nodup:=by decide +kernel
theorem Qwa:Jl ["many", "numbers"] ["many", "numbers"] (Qm sOth):=⟨rfl,rfl,rfl,by decide +kernel,rfl,by decide +kernel,by decide +kernel⟩
theorem Qxb{f   : Addr}{fd  : QL}(F:Fun K "others" "others" sOth f fd)(T:GlbA mg) :
  FnOk P w K mg base CX0 1 f fd ["many", "numbers"] (JO false QzK):=by
 refine okQ false F Qwa (λargs R EX h=>?_) (λcdv A outer s H E hr=>?_)
 ·obtain⟨n,o,rfl,_⟩:=h;rfl
 ·have hU:=Room.u60 hr;have hI:=Room.i60 hr;refine⟨_,Q5 (Z1 (YL ["number", "numbers"] [none,some 1] (QbF (by rfl) T.range (qp 0)) (λcl ex s3 H3 C=>⟨(ZK 0 Qup rfl (Q2 rfl) (QZ rfl)),(QbB (Yk QbJ (Qks hI) (qp 0) (qp 1) (by rfl))),(qv 0)⟩))),λargs R EX h=>?_⟩;obtain⟨n,o,rfl,n6,hR⟩:=h;refine⟨⟨by omega,by omega⟩,QiK (λd=>match d with | .int x=>if(!decide (x.toNat∈o))=true then some d else none | _=>none) (λd hd k1 k2 h1 h2=>?_) ?_⟩
  ·obtain⟨x,hx⟩:=Jx.mp hd;obtain⟨hx,rfl⟩:=Qeg hx;have h1:(if(!decide ((0+(x:Int)).toNat∈o))=true then some (Qg (0+(x:Int))) else none)=none->k1:=h1;have h2:∀e,(if(!decide ((0+(x:Int)).toNat∈o))=true then some (Qg (0+(x:Int))) else none)=some e->k2 e:=h2
   rw[show(0+(x:Int)).toNat=x by omega] at h1 h2;have ei:Qew o=(o.map λ(y:Nat)=>(y:Int)).map Qg:=by unfold Qew;rw[QN];rfl
   refine⟨⟨by rw[ei];exact Qaf _,rfl,by show Ys (.int _)<=50;unfold Ys;decide⟩,?_⟩;show if(!(Qew o).any λe=>Q9 e (.int (0+(x:Int))))=true then _ else k1
   rw[ei,QnP];have em:decide (0+(x:Int)∈o.map λ(y:Nat)=>(y:Int))=decide (x∈o):=decide_eq_decide.mpr (by
    rw[Qt];constructor
    ·rintro⟨y,hy,e⟩;have e:(y:Int)=0+(x:Int):=e;rw[show x=y by omega];exact hy
    ·intro hx;exact⟨x,hx,by show(x:Int)=0+x;omega⟩)
   rw[em];by_cases z:(!decide (x∈o))=true
   ·rw[if_pos z];exact h2 _ (if_pos z)
   ·rw[if_neg z];exact h1 (if_neg z)
  ·have er:(Qji 0 ((n:Nat):Int).toNat).filterMap (λd=>match d with | .int x=>if(!decide (x.toNat∈o))=true then some d else none | _=>none)=Qew (oth n o):=by
    unfold Qji Qew oth;rw[QV,Yp];refine Qnh (p:=λx => !decide (x∈o)) λx _=>?_
    show(if(!decide ((0+(x:Int)).toNat∈o))=true then some (Qg (0+(x:Int))) else none)=if(!decide (x∈o))=true then some (Qg (x:Int)) else none
    rw[show(0+(x:Int)).toNat=x by omega,show(0:Int)+(x:Int)=(x:Int) by omega]
   rw[er];exact hR
theorem Qjv:(["row", "column"]:List Str).Nodup:=by decide +kernel
theorem QfO:Jl ["board", "high", "wide", "cells"] ["board"] (Qm Qke):=⟨rfl,rfl,rfl,by decide +kernel,rfl,by decide +kernel,by decide +kernel⟩
theorem Qt9{f   : Addr}{fd  : QL}(F:Fun K "turned" "turned" Qke f fd)(T:GlbA mg) :
  FnOk P w K mg base CX0 2 f fd ["board"] (JO false QsP):=by
 refine okQ false F QfO (λargs R EX h=>?_) (λcdv A outer s H E hr=>?_)
 ·obtain⟨h,w,f,rfl,_⟩:=h;rfl
 ·have hU:=Room.u60 hr;have hI:=Room.i60 hr;refine⟨_,QB (Qg6 (qv 0) (Qai rfl (JP 1 (JP 2 (JP 3 Qaj QfO.nd rfl (by first | exact Q2 rfl | exact QZ rfl)) QfO.nd rfl (by first | exact Q2 rfl | exact QZ rfl)) QfO.nd rfl (by first | exact Q2 rfl | exact QZ rfl))))
   (Q5 (Z1 (QaH (Y0 (qv 2) (Y0 (qv 1) (Y0 (JB (Qad Yd Qb2 (by rfl) T.tuple Qag (Qap (QY (JU Qfs cd_sortP (by rfl) T.sorted QcN (Qap (QY (YL ["row", "column"] [none,none] (Qdu (qp 3)) (λcl ex s3 H3 C=>⟨(Qai rfl (JP 0 (JP 1 Qaj Qjv rfl (Q2 rfl) (QZ rfl)) Qjv rfl (Q2 rfl) (QZ rfl))),Yy,(JB (QaH (Y0 (qv 1) (Y0 (qv 0) Q7))))⟩))) Q7))) Q7))) Q7)))))),λargs R EX h=>?_⟩
  obtain⟨h,w,f,rfl,h6,w6,hR⟩:=h;have hb:∀p∈cellsF h w f,0<=p.1/\p.1<h/\0<=p.2/\p.2<w:=λp hp=>Zh hp
  have nd1:(cellsF h w f).Nodup:=(pw_cellsF w f h).imp plt_ne;have nd2:(cellsF w h (tF f)).Nodup:=(pw_cellsF h (tF f) w).imp plt_ne;have ln:(cellsF h w f).length<=36:=QX (YN w f h) (Yo h6 w6);have es:((cellsF h w f).map pairD).map (λd=>pairD ((toP d).2,(toP d).1))=((cellsF h w f).map λp=>(p.2,p.1)).map pairD:=by rw[QN,QN];rfl
  have nd3:((cellsF h w f).map λp=>(p.2,p.1)).Nodup:=JR.mpr (nd1.imp λ{a b} hne e=>hne (QdK (Zs e).2 (Zs e).1));refine⟨rfl,Qaq (λd=>pairD ((toP d).2,(toP d).1)) (λd hd k2 hk=>?_) ?_⟩
  ·obtain⟨p,_,rfl⟩:=Qt.mp hd;exact⟨rfl,hk⟩
  ·rw[es];refine sortP_of nd3 (by rw[Qc];omega) (λp hp=>?_) λM pM pw=>?_
   ·obtain⟨q,hq,rfl⟩:=Qt.mp hp;have:=hb q hq;show 0<=q.1/\q.1<64;omega
   ·have pc:M.Perm (cellsF w h (tF f)):=pM.trans ((Je nd3 nd2).mpr λp=>by
     rw[Qt,JK];constructor
     ·rintro⟨q,hq,rfl⟩;obtain⟨r,c,hr,hc,hf,rfl⟩:=JK.mp hq;exact⟨c,r,hc,hr,hf,rfl⟩
     ·rintro⟨r,c,hr,hc,hf,rfl⟩;exact⟨((c:Int),(r:Int)),JK.mpr ⟨c,r,hc,hr,hf,rfl⟩,rfl⟩)
    have eM:M=cellsF w h (tF f):=Zy (le:=plt) (λa b _ _ h1 h2=>by rcases h1 with x | x<;>rcases h2 with y | y<;>omega) pw (pw_cellsF h (tF f) w) pc;rw[eM];exact hR
theorem QbX:(["new_row", "row", "new_column", "column", "cells", "columns"]:List Str).Nodup:=by decide +kernel
theorem Qef:Jl ["board", "rows", "columns", "cells", "kept"] ["board", "rows", "columns"] (Qm Qc9):=⟨rfl,rfl,rfl,by decide +kernel,rfl,by decide +kernel,by decide +kernel⟩
theorem QmA{f   : Addr}{fd  : QL}(F:Fun K "picked" "picked" Qc9 f fd)(T:GlbA mg) :
  FnOk P w K mg base CX0 1 f fd ["board", "rows", "columns"] (JO false Qmo):=by
 refine okQ false F Qef (λargs R EX h=>?_) (λcdv A outer s H E hr=>?_)
 ·obtain⟨h,w,f,rs,ms,rfl,_⟩:=h;rfl
 ·have hU:=Room.u60 hr;have hI:=Room.i60 hr;refine⟨_,QB (Za 3 (Yr Jk J4 (qp 0) (QP Jg) (λ_ _=>rfl)) Qef.nd)
   (QB (QoV ["new_row", "row", "new_column", "column", "cells", "columns"] [none,none,none,none,some 3,some 2] 4 Qef.nd (QuJ [0,1]) (QbW (by rfl) T.enumerate (qp 1)) (λcl ex s3 H3 C=>⟨(Qai rfl (JP 0 (JP 1 Qaj QbX rfl (Q2 rfl) (QZ rfl)) QbX rfl (Q2 rfl) (QZ rfl))),Yy,(QbW (by rfl) T.enumerate (qv 5)),(Qai rfl (JP 2 (JP 3 Qaj QbX rfl (Q2 rfl) (QZ rfl)) QbX rfl (Q2 rfl) (QZ rfl))),(QbB (Yk Qw5 (Qks hI) (QY (QaH (Y0 (qv 1) (Y0 (qv 3) Q7)))) (qp 4) (by rfl))),(JB (QaH (Y0 (qv 0) (Y0 (qv 2) Q7))))⟩))
   (Q5 (Z1 (QaH (Y0 (JB (JU J7 Yw (by rfl) T.len Yg (Qap (qp 1) Q7))) (Y0 (JB (JU J7 Yw (by rfl) T.len Yg (Qap (qp 2) Q7))) (Y0 (JB (Qad Yd Qb2 (by rfl) T.tuple Qag (Qap (qp 4) Q7))) Q7))))))),λargs R EX h=>?_⟩
  obtain⟨h,w,f,rs,ms,rfl,r6,m6,hr,hm,hR⟩:=h;have hR:R (bdD ((rs.map λ(x:Nat)=>(x:Int)).length:Nat) ((ms.map λ(x:Nat)=>(x:Int)).length:Nat) (Qvx (cellsF h w f) (rs.map λ(x:Nat)=>(x:Int)) (ms.map λ(x:Nat)=>(x:Int)))):=by
   rw[QzU hr hm,Qc,Qc];exact hR
  have hr:(rs.map λ(x:Nat)=>(x:Int)).length<=60:=by rw[Qc];omega
  have hc:(ms.map λ(x:Nat)=>(x:Int)).length<=60:=by rw[Qc];omega
  rw[Qxy,Qxy];clear hm r6 m6;generalize (rs.map λ(x:Nat)=>(x:Int))=rows at *;generalize (ms.map λ(x:Nat)=>(x:Int))=cols at *;generalize cellsF h w f=cs at *;refine⟨_,Q6 (j:=2) rfl,?_⟩;have lN:=Qjy cs cols (λr=>rows.getD r 0) rows.length;have l36:rows.length*cols.length<=60*60:=Yo hr hc;refine Qu5 (Qtp cs cols) 3600 (by rw[Qme,Qc];exact QX lN l36) (λd hd acc N hb hN=>?_) ?_
  ·obtain⟨i,hi⟩:=Jx.mp hd;obtain⟨e,he,rfl⟩:=Qbg hi;rw[Qo] at he;obtain⟨r,er,rfl⟩:∃r,rows[i]? = some r/\e=.int r:=by
    cases z:rows[i]? with
    |none=>rw[z] at he;cases he
    |some r=>rw[z] at he;cases he;exact⟨r,rfl,rfl⟩
   have hN:N (acc++(QmZ cs cols ((i:Int)).toNat r).map pairD):=hN;rw[QV,<- Qxn] at hN;have la:acc.length<=3600:=by omega
   refine⟨rfl,Qz2 (Qxo cs r i) (by rw[Qb0,Qc];unfold QpY;omega) (λd hd k1 k2 h1 h2=>?_) hN⟩;obtain⟨j,hj⟩:=Jx.mp hd;obtain⟨e2,he2,rfl⟩:=Qbg hj;rw[Qo] at he2;obtain⟨c,ec,rfl⟩:∃c,cols[j]? = some c/\e2=.int c:=by
    cases z:cols[j]? with
    |none=>rw[z] at he2;cases he2
    |some r=>rw[z] at he2;cases he2;exact⟨r,rfl,rfl⟩
   refine⟨rfl,⟨Qa7 cs,rfl,QX (QiE (r,c)) (by decide)⟩,?_⟩;show if((cs.map pairD).any λe=>Q9 e (pairD (r,c)))=true then k2 (pairD ((i:Int),(j:Int))) else k1
   rw[QcP];have h1:(if(r,c)∈cs then some (pairD ((i:Int),(j:Int))) else none)=none->k1:=h1;have h2:∀e,(if(r,c)∈cs then some (pairD ((i:Int),(j:Int))) else none)=some e->k2 e:=h2
   by_cases z:(r,c)∈cs
   ·rw[if_pos (decide_eq_true z)];exact h2 _ (if_pos z)
   ·rw[if_neg (by simpa using z)];exact h1 (if_neg z)
  ·rw[Qme];have hR:R (.tuple [.int ((rows.map Qg).length:Int),.int ((cols.map Qg).length:Int),.tuple ((Qvx cs rows cols).map pairD)]):=by
    rw[Qc,Qc];exact hR
   exact hR
theorem QpJ:(["part", "many"]:List Str).Nodup:=by decide +kernel
theorem Qs6:Jl ["many", "thing"] ["many", "thing"] (Qm Qki):=⟨rfl,rfl,rfl,by decide +kernel,rfl,by decide +kernel,by decide +kernel⟩
theorem Que{f f1 f2  : Addr}{fd fd1 fd2:QL}(F:Fun K "is_numbers_rising" "is_numbers_rising" Qki f fd)(T:GlbA mg)
  (m1:mg "is_whole_within" = some (.ref f1))(G1:FnOk P w K mg base CX0 2 f1 fd1 ["thing", "least", "most"] (JO false QcZ))(b1:Binds K fd1 ["thing", "least", "most"] [])(k1:PySem.W.keepIn K (.ref f1)=true)
  (m2:mg "is_rising" = some (.ref f2))(G2:FnOk P w K mg base CX0 1 f2 fd2 ["things"] (JO false Qij))(b2:Binds K fd2 ["things"] [])(k2:PySem.W.keepIn K (.ref f2)=true) :
  FnOk P w K mg base CX0 3 f fd ["many", "thing"] (JO false QmM):=by
 refine okQ false F Qs6 (λargs R EX h=>?_) (λcdv A outer s H E hr=>?_)
 ·obtain⟨n,o,rfl,_⟩:=h;rfl
 ·have hU:=Room.u60 hr;have hI:=Room.i60 hr;refine⟨_,QB (QbD (Qa5 (QbC (QY (Qg7 .tuple (by rfl) T.isinstance (qp 1) (by rfl) T.tuple Qag)))) (Q5 (YD Ql7)) Yl)
   (Q5 (YD (Ql8 (QY (JU QjO (Qsk rfl) (by rfl) T.all Qso (Qap (QY (YL ["part", "many"] [none,some 0] (Qdu (qp 1)) (λcl ex s3 H3 C=>⟨(ZK 0 QpJ rfl (Q2 rfl) (QZ rfl)),Yy,(JZ G1 (hr.mono (by decide)) (by rfl) m1 k1 b1 JI (Zf (qv 0) (Zf Jg (Zf (JB (ZL Qem Qdx (qp 1) (QP Jg))) Jb))))⟩))) Q7))) (Qko (JZ G2 (hr.mono (by decide)) (by rfl) m2 k2 b2 JI (Zf (qv 1) Jb)))))),λargs R EX h=>?_⟩
  obtain⟨n,o,rfl,hp,hl,hR⟩:=h;refine Qaq (λ_=>.bool true) (λd hd k2 hk=>?_) (QiV (g:=λ_=>true) (items:=Qew o) rfl ?_)
  ·unfold Qew at hd;obtain⟨x,hx,rfl⟩:=Qt.mp hd;have:=hl x hx;refine⟨_,_,_,rfl,?_⟩;rw[show inW (.int (x:Int)) 0 ((n:Int) - 1)=true from Qm8 (by omega) (by omega)];exact hk
  ·rw[YZ.mpr λ_ _=>rfl];refine Qyw ⟨_,.inl rfl,QAq o,?_⟩;rw[Qwg hp];exact hR
theorem QoJ:Jl ["board", "thing"] ["board", "thing"] (Qm Qff):=⟨rfl,rfl,rfl,by decide +kernel,rfl,by decide +kernel,by decide +kernel⟩
theorem QpB{f f1  : Addr}{fd fd1:QL}(F:Fun K "is_lines" "is_lines" Qff f fd)(T:GlbA mg)
  (m1:mg "is_numbers_rising" = some (.ref f1))(G1:FnOk P w K mg base CX0 3 f1 fd1 ["many", "thing"] (JO false QmM))(b1:Binds K fd1 ["many", "thing"] [])(k1:PySem.W.keepIn K (.ref f1)=true) :
  FnOk P w K mg base CX0 4 f fd ["board", "thing"] (JO false Qiw):=by
 refine okQ false F QoJ (λargs R EX h=>?_) (λcdv A outer s H E hr=>?_)
 ·obtain⟨h,w,cs,a,b,rfl,_⟩:=h;rfl
 ·have hU:=Room.u60 hr;have hI:=Room.i60 hr;refine⟨_,QB (QbD (Ql6 (Qik (Qa5 (QbC (QY (Qg7 .tuple (by rfl) T.isinstance (qp 1) (by rfl) T.tuple Qag)))) (Qeh (Yk Qen (Qit hU) (QY (JU J7 Yw (by rfl) T.len Yg (Qap (qp 1) Q7))) (QP Jg) (ZW _))))) (Q5 (YD Ql7)) Yl)
   (Q5 (YD (Ql8 (QP (JZ G1 (hr.mono (by decide)) (by rfl) m1 k1 b1 JI (Zf (Yr Jk J4 (qp 0) (QP Jg) (λ_ _=>rfl)) (Zf (Yr Jk J4 (qp 1) (QP Jg) (λ_ _=>rfl)) Jb)))) (Qko (JZ G1 (hr.mono (by decide)) (by rfl) m1 k1 b1 JI (Zf (Yr Jk J4 (qp 0) (QP Jg) (λ_ _=>rfl)) (Zf (Yr Jk J4 (qp 1) (QP Jg) (λ_ _=>rfl)) Jb))))))),λargs R EX h=>?_⟩
  obtain⟨h,w,cs,a,b,rfl,pa,la,pb,lb,hR⟩:=h;refine⟨_,Q6 (j:=0) rfl,_,Q6 (j:=0) rfl,h,a,rfl,pa,la,?_⟩;exact⟨_,Q6 (j:=1) rfl,_,Q6 (j:=1) rfl,w,b,rfl,pb,lb,hR⟩
theorem Qs2:Jl ["board", "lines", "rows", "columns"] ["board", "lines"] (Qm sWl):=⟨rfl,rfl,rfl,by decide +kernel,rfl,by decide +kernel,by decide +kernel⟩
theorem QzP{f f1 f2 f3  : Addr}{fd fd1 fd2 fd3:QL}(F:Fun K "without_lines" "without_lines" sWl f fd)(T:GlbA mg)
  (m1:mg "is_lines" = some (.ref f1))(G1:FnOk P w K mg base CX0 4 f1 fd1 ["board", "thing"] (JO false Qiw))(b1:Binds K fd1 ["board", "thing"] [])(k1:PySem.W.keepIn K (.ref f1)=true)
  (m2:mg "others" = some (.ref f2))(G2:FnOk P w K mg base CX0 1 f2 fd2 ["many", "numbers"] (JO false QzK))(b2:Binds K fd2 ["many", "numbers"] [])(k2:PySem.W.keepIn K (.ref f2)=true)
  (m3:mg "picked" = some (.ref f3))(G3:FnOk P w K mg base CX0 1 f3 fd3 ["board", "rows", "columns"] (JO false Qmo))(b3:Binds K fd3 ["board", "rows", "columns"] [])(k3:PySem.W.keepIn K (.ref f3)=true) :
  FnOk P w K mg base CX0 5 f fd ["board", "lines"] (JO false Qy9):=by
 refine okQ false F Qs2 (λargs R EX h=>?_) (λcdv A outer s H E hr=>?_)
 ·obtain⟨h,w,f,a,b,rfl,_⟩:=h;rfl
 ·have hU:=Room.u60 hr;have hI:=Room.i60 hr;refine⟨_,QB (QbD (Qa5 (QbC (QP (JZ G1 (hr.mono (by decide)) (by rfl) m1 k1 b1 JI (Zf (qv 0) (Zf (qv 1) Jb)))))) Qa6 Yl)
   (QB (Za 2 (JZ G2 (hr.mono (by decide)) (by rfl) m2 k2 b2 JI (Zf (Yr Jk J4 (qp 0) (QP Jg) (λ_ _=>rfl)) (Zf (Yr Jk J4 (qp 1) (QP Jg) (λ_ _=>rfl)) Jb))) Qs2.nd)
   (QB (Za 3 (JZ G2 (hr.mono (by decide)) (by rfl) m2 k2 b2 JI (Zf (Yr Jk J4 (qp 0) (QP Jg) (λ_ _=>rfl)) (Zf (Yr Jk J4 (qp 1) (QP Jg) (λ_ _=>rfl)) Jb))) Qs2.nd)
   (QB (QbD (Ql6 (Qik (Qa5 (Qei (qp 2))) (Qeh (Qa5 (Qei (qp 3)))))) Qa6 Yl)
   (Q5 (YD (JZ G3 (hr.mono (by decide)) (by rfl) m3 k3 b3 JI (Zf (qv 0) (Zf (qv 2) (Zf (qv 3) Jb))))))))),λargs R EX h=>?_⟩
  obtain⟨h,w,f,a,b,rfl,h6,w6,pa,la,pb,lb,na,nb,hR⟩:=h;refine⟨h,w,_,a,b,rfl,pa,la,pb,lb,_,Q6 (j:=0) rfl,_,Q6 (j:=0) rfl,h,a,rfl,h6,_,Q6 (j:=1) rfl,_,Q6 (j:=1) rfl,w,b,rfl,w6,?_⟩;have l1:=Qmr h a;have l2:=Qmr w b;have m1:∀x∈oth h a,x<h:=λx hx=>QM.mp (Qz.mp hx).1
  have m2:∀x∈oth w b,x<w:=λx hx=>QM.mp (Qz.mp hx).1
  have go:∀A B:List Nat,A=oth h a->B=oth w b->strOk (.list (Qew A))/\True:=λA B e1 e2=>⟨trivial,trivial⟩
  cases e1:oth h a with
  |nil=>exact absurd e1 na
  |cons x r=>
   cases e2:oth w b with
   |nil=>exact absurd e2 nb
   |cons y q=>
    rw[e1,e2] at hR;rw[e1] at l1 m1;rw[e2] at l2 m2;exact⟨trivial,trivial,h,w,f,x::r,y::q,rfl,by omega,by omega,m1,m2,hR⟩
theorem Qhk:(["row", "column", "cell"]:List Str).Nodup:=by decide +kernel
theorem QoI:Jl ["cell", "cells"] ["cell", "cells"] (Qm Qfe):=⟨rfl,rfl,rfl,by decide +kernel,rfl,by decide +kernel,by decide +kernel⟩
theorem QpA{f   : Addr}{fd  : QL}(F:Fun K "meets_one" "meets_one" Qfe f fd)(T:GlbA mg) :
  FnOk P w K mg base CX0 1 f fd ["cell", "cells"] (JO false QmU):=by
 refine okQ false F QoI (λargs R EX h=>?_) (λcdv A outer s H E hr=>?_)
 ·obtain⟨c,L,rfl,_⟩:=h;rfl
 ·have hU:=Room.u60 hr;have hI:=Room.i60 hr;refine⟨_,Q5 (Z1 (JU Qrk (QxV rfl) (by rfl) T.any Dl.bt_any (Qap (QY (YL ["row", "column", "cell"] [none,none,some 0] (QaT (qp 1)) (λcl ex s3 H3 C=>⟨(Qai rfl (JP 0 (JP 1 Qaj Qhk rfl (Q2 rfl) (QZ rfl)) Qhk rfl (Q2 rfl) (QZ rfl))),Yy,(QBA (QY (QeY Qdw (Qhj hU) (QP (Yr Jk J4 (qp 2) (QP Jg) (λ_ _=>rfl))) (qp 0) (ZW _))) (Qko (JB (QeY Qdw (Qhj hU) (QP (Yr Jk J4 (qp 2) (QP Jg) (λ_ _=>rfl))) (qp 1) (ZW _)))))⟩))) Q7))),λargs R EX h=>?_⟩;obtain⟨c,L,rfl,hR⟩:=h;refine Qaq (λd=>.bool (Qcc c (toP d))) (λd hd k2 hk=>?_) (Qvc (items:=L.map pairD) rfl ?_)
  ·obtain⟨q,_,rfl⟩:=Qt.mp hd;have hk:k2 (.bool (decide (c.1=q.1)||decide (c.2=q.2))):=hk;refine⟨rfl,_,Q6 (j:=0) rfl,?_⟩;refine ifC (λz=>?_) λz=>?_
   ·rw[show decide (c.1=q.1)=true from z,Bool.true_or] at hk;exact hk
   ·rw[show decide (c.1=q.1)=false from z,Qi2] at hk;exact⟨_,Q6 (j:=1) rfl,hk⟩
  ·rw[show((L.map pairD).any λd=>Qcc c (toP d))=L.any λq=>Qcc c q by rw[QeU];rfl];exact hR
theorem Qkt:(["other", "new", "piece"]:List Str).Nodup:=by decide +kernel
theorem Qby:Jl ["cell", "cells", "piece", "new"] ["cell", "cells"] (Qm sPw):=⟨rfl,rfl,rfl,by decide +kernel,rfl,by decide +kernel,by decide +kernel⟩
theorem Qmy{f f1  : Addr}{fd fd1:QL}(F:Fun K "piece_with" "piece_with" sPw f fd)(T:GlbA mg)
  (m1:mg "meets_one" = some (.ref f1))(G1:FnOk P w K mg base CX0 1 f1 fd1 ["cell", "cells"] (JO false QmU))(b1:Binds K fd1 ["cell", "cells"] [])(k1:PySem.W.keepIn K (.ref f1)=true) :
  FnOk P w K mg base CX0 2 f fd ["cell", "cells"] (JO false Qio):=by
 refine okQ false F Qby (λargs R EX h=>?_) (λcdv A outer s H E hr=>?_)
 ·obtain⟨x,cells,rfl,_⟩:=h;rfl
 ·have hU:=Room.u60 hr;have hI:=Room.i60 hr;refine⟨_,QB (Za 2 (JB (Qb6 (Y0 (qv 0) Q7))) Qby.nd)
   (QB (Za 3 (JB (Qb6 (Y0 (qv 0) Q7))) Qby.nd)
   (QB (QdU Jt (Qei (qp 3))
    (QB (Za 3 (JB (YL ["other", "new", "piece"] [none,some 3,some 2] (QaT (qp 1)) (λcl ex s3 H3 C=>⟨(ZK 0 Qkt rfl (Q2 rfl) (QZ rfl)),(QbB (Ql6 (Qjn (Yk QbJ (Qks hI) (qp 0) (qp 2) (by rfl)) (QfT (QbC (QP (JZ G1 (hr.mono (by decide)) (by rfl) m1 k1 b1 JI (Zf (qv 0) (Zf (qv 1) Jb))))))))),(qv 0)⟩))) Qby.nd)
   (Q5 (Za 2 (JB (ZL Zj ZV (qp 2) (qp 3))) Qby.nd))))
   (Q5 (Z1 (Qad Yd Qb2 (by rfl) T.tuple Qag (Qap (QY (JU Qfs cd_sortP (by rfl) T.sorted QcN (Qap (qp 2) Q7))) Q7)))))),λargs R EX h=>?_⟩
  obtain⟨x,cells,rfl,hx,sb,hR⟩:=h;have nc:cells.Nodup:=sb.1.imp plt_ne;have l36:=sb.2.1;refine Qi4 (λm δ=>∃P N,δ=[.v (pairD x),.v (.list (cells.map pairD)),.v (.list (P.map pairD)),.v (.list (N.map pairD))]/\Srch cells x P N/\m=2*(cells.length - P.length)+(if N.isEmpty=true then 0 else 1)) _ ⟨[x],[x],rfl,.start hx,rfl⟩ ?_
  rintro m δ ⟨P,N,rfl,hs,rfl⟩;have lP:=Qly hs.nd nc λp hp=>(hs.reach p hp).right
  refine⟨trivial,?_⟩;show if(!(N.map pairD).isEmpty)=true then _ else _
  rw[QuQ];cases eN:N.isEmpty with
  |false=>
   refine QiK (λd=>if(λo:Int×Int => !decide (o∈P)&&N.any λq=>Qcc o q) (toP d)=true then some d else none) (λd hd k1 k2 h1 h2=>?_) ?_
   ·obtain⟨o,_,rfl⟩:=Qt.mp hd;have h1:(if(!decide (o∈P)&&N.any λq=>Qcc o q)=true then some (pairD o) else none)=none->k1:=h1;have h2:∀e,(if(!decide (o∈P)&&N.any λq=>Qcc o q)=true then some (pairD o) else none)=some e->k2 e:=h2
    refine⟨⟨Qa7 P,rfl,by have:=Qb1 o;omega⟩,?_⟩;show if(!((P.map pairD).any λe=>Q9 e (pairD o)))=true then _ else _
    rw[QcP];cases z1:(!decide (o∈P)) with
    |true=>
     rw[z1,Qyq] at h1 h2;refine⟨_,_,rfl,?_⟩;show if(N.any λq=>Qcc o q)=true then k2 (pairD o) else k1
     by_cases z:(N.any λq=>Qcc o q)=true
     ·rw[if_pos z];exact h2 _ (if_pos z)
     ·rw[if_neg z];exact h1 (if_neg z)
    |false=>rw[z1] at h1;exact h1 rfl
   ·rw[QdX (λo:Int×Int => !decide (o∈P)&&N.any λq=>Qcc o q)];have st:=hs.step nc;have lQ:=Qly st.nd nc λp hp=>(st.reach p hp).right
    rw[Qr] at lQ;have lN:(cells.filter λo => !decide (o∈P)&&N.any λq=>Qcc o q).length=(Qr3 cells P N).length:=rfl;refine⟨by rw[Qc,Qc];omega,_,?_,P++Qr3 cells P N,Qr3 cells P N,?_,st,rfl⟩
    ·rw[Qr];cases eQ:Qr3 cells P N with
     |nil=>
      show 2*(cells.length - (P.length+0))+0<2*(cells.length - P.length)+1;omega
     |cons a b=>
      rw[eQ] at lQ;rw[QF] at lQ ⊢;show 2*(cells.length - (P.length+(b.length+1)))+1<2*(cells.length - P.length)+1;omega
    ·rw[Jj];rfl
  |true=>
   have eN:N=[]:=List.isEmpty_iff.mp eN;subst eN;refine sortP_of hs.nd (by omega) (λp hp=>sb.2.2 p (hs.reach p hp).right) λM pM pw=>hR M pw λy=>?_
   rw[pM.mem_iff];exact hs.done y
theorem Qku:(["cell", "piece"]:List Str).Nodup:=by decide +kernel
theorem Qbz:Jl ["board", "told", "left", "piece"] ["board"] (Qm Qc8):=⟨rfl,rfl,rfl,by decide +kernel,rfl,by decide +kernel,by decide +kernel⟩
theorem Qmz{f f1  : Addr}{fd fd1:QL}(F:Fun K "pieces" "pieces" Qc8 f fd)(T:GlbA mg)
  (m1:mg "piece_with" = some (.ref f1))(G1:FnOk P w K mg base CX0 2 f1 fd1 ["cell", "cells"] (JO false Qio))(b1:Binds K fd1 ["cell", "cells"] [])(k1:PySem.W.keepIn K (.ref f1)=true) :
  FnOk P w K mg base CX0 3 f fd ["board"] (JO true Qf1):=by
 refine okQ true F Qbz (λargs R EX h=>?_) (λcdv A outer s H E hr=>?_)
 ·obtain⟨h,w,cs,rfl,_⟩:=h;rfl
 ·have hU:=Room.u60 hr;have hI:=Room.i60 hr;refine⟨_,QB (Qdf 1 (Qb6 Q7) Qbz.nd)
   (QB (Za 2 (JB (Qad Qav Qgq (by rfl) T.list Qgt (Qap (QP (Yr Jk J4 (qp 0) (QP Jg) (λ_ _=>rfl))) Q7))) Qbz.nd)
   (QB (QdU Jt (Qei (qp 2))
    (QB (Za 3 (JZ G1 (hr.mono (by decide)) (by rfl) m1 k1 b1 JI (Zf (Yr Jk J4 (qp 2) (QP Jg) (λ_ _=>rfl)) (Zf (qv 2) Jb))) Qbz.nd)
   (QB (QrR 1 (qv 3))
   (Q5 (Ql3 ["cell", "piece"] [none,some 3] 2 Qbz.nd (QaT (qp 2)) (λcl ex s3 H3 C=>⟨(ZK 0 Qku rfl (Q2 rfl) (QZ rfl)),(QbB (Yk QbJ (Qks hI) (qp 0) (qp 1) (by rfl))),(qv 0)⟩))))))
   (Q5 (Qej 1)))),λargs R EX h=>?_⟩
  obtain⟨h,w,cs,rfl,sb,hR⟩:=h;refine⟨_,Q6 (j:=2) rfl,?_⟩;refine Qi4 (λm δ=>∃T left ds x3,δ=[.v (bdD h w cs),.own ds,.v (.list (left.map pairD)),x3]/\ds=T.map stT/\Wlk cs T left/\m=left.length/\T.length+left.length<=cs.length) _ ⟨[],cs,_,_,rfl,rfl,.start sb.1,rfl,by show 0+_<=_;omega⟩ ?_
  rintro m δ ⟨Tt,left,ds,x3,rfl,rfl,hw,rfl,hl⟩;refine⟨trivial,?_⟩;cases left with
  |nil=>exact hR Tt hw.pc hw.done hw.ord
  |cons x left=>
   refine ifT rfl ⟨_,Q6 (j:=0) rfl,x,x::left,rfl,.head _,?_,λM ms mm=>?_⟩
   ·have l36:=sb.2.1;exact⟨hw.srt,by omega,λp hp=>sb.2.2 p (hw.sub p hp)⟩
   ·have l36:=sb.2.1;refine⟨by rw[Qc];omega,?_⟩;refine QiK (λd=>if(λc:Int×Int => !decide (c∈M)) (toP d)=true then some d else none) (λd hd k1 k2 h1 h2=>?_) ?_
    ·obtain⟨o,_,rfl⟩:=Qt.mp (show d∈(x::left).map pairD from hd);have h1:(if(!decide (o∈M))=true then some (pairD o) else none)=none->k1:=h1;have h2:∀e,(if(!decide (o∈M))=true then some (pairD o) else none)=some e->k2 e:=h2
     refine⟨⟨Qa7 M,rfl,by have:=Qb1 o;omega⟩,?_⟩;show if(!((M.map pairD).any λe=>Q9 e (pairD o)))=true then _ else _
     rw[QcP];by_cases z:(!decide (o∈M))=true
     ·rw[if_pos z];exact h2 _ (if_pos z)
     ·rw[if_neg z];exact h1 (if_neg z)
    ·have er:=QdX (λc:Int×Int => !decide (c∈M)) (x::left);have xM:x∈M:=(mm x).mpr (.refl (.head _));have e1:(x::left).filter (λc => !decide (c∈M))=left.filter λc => !decide (c∈M):=Jp (by simpa using xM)
     have l1:=Zi (λc:Int×Int => !decide (c∈M)) left;rw[QF] at hl;refine⟨_,?_,Tt++[M],(x::left).filter (λc => !decide (c∈M)),_,_,by rw[<- er];rfl,by rw[Jj];rfl,hw.step ms mm,rfl,?_⟩
     ·rw[e1,QF];omega
     ·rw[e1,Qr];show _+1+_<=_;omega
end
theorem Qmq{h r:Nat}(h1:1<h):oth h [r]≠[]:=λe=>by
 have:(if r=0 then 1 else 0)∈oth h [r]:=Qz.mpr ⟨QM.mpr (by split<;>omega),by
  have:(if r=0 then 1 else 0)≠r:=by split<;>omega
  simpa using this⟩
 rw[e] at this;cases this
def shP(h w:Nat)(p:Int×Int):Int×Int:=((h:Int)+p.1,(w:Int)+p.2)
theorem QhI(h w:Nat)(f:Nat->Nat->Bool)(h2 w2:Nat)(g:Nat->Nat->Bool):cellsF (h+h2) (w+w2) (QkN h w f g)=cellsF h w f++(cellsF h2 w2 g).map (shP h w):=by
 refine Qf0 (pw_cellsF _ _ _) (ZI.mpr ⟨pw_cellsF _ _ _,JR.mpr ((pw_cellsF w2 g h2).imp λ{a b} hp=>?_),λa ha b hb=>?_⟩) λp=>?_
 ·show(h:Int)+a.1<(h:Int)+b.1∨((h:Int)+a.1=(h:Int)+b.1/\(w:Int)+a.2<(w:Int)+b.2);rcases hp with x | x
  ·exact .inl (by omega)
  ·exact .inr ⟨by omega,by omega⟩
 ·obtain⟨q,hq,rfl⟩:=Qt.mp hb;have x:=Zh ha;have y:=Zh hq;exact .inl (show a.1<(h:Int)+q.1 by omega)
 ·rw[JK,Q0,Qt];constructor
  ·rintro⟨r,c,hr,hc,hf,rfl⟩;unfold QkN at hf;by_cases z:r<h
   ·rw[if_pos z] at hf;obtain⟨h1,h2'⟩:=JG.mp hf;exact .inl (JK.mpr ⟨r,c,z,of_decide_eq_true h1,h2',rfl⟩)
   ·rw[if_neg z] at hf;obtain⟨h1,h2'⟩:=JG.mp hf;have h1:=of_decide_eq_true h1;refine .inr ⟨((r - h:Nat),(c - w:Nat)),JK.mpr ⟨r - h,c - w,by omega,by omega,h2',rfl⟩,?_⟩;show((h:Int)+((r - h:Nat):Int),(w:Int)+((c - w:Nat):Int))=((r:Int),(c:Int));rw[show(h:Int)+((r - h:Nat):Int)=(r:Int) by omega,show(w:Int)+((c - w:Nat):Int)=(c:Int) by omega]
  ·rintro(z | ⟨q,hq,rfl⟩)
   ·obtain⟨r,c,hr,hc,hf,rfl⟩:=JK.mp z;exact⟨r,c,by omega,by omega,by unfold QkN;rw[if_pos hr,decide_eq_true hc,hf];rfl,rfl⟩
   ·obtain⟨r,c,hr,hc,hf,rfl⟩:=JK.mp hq;refine⟨h+r,w+c,by omega,by omega,?_,?_⟩
    ·unfold QkN;rw[if_neg (by omega),decide_eq_true (by omega),ZO,ZO,hf];rfl
    ·show((h:Int)+(r:Int),(w:Int)+(c:Int))=(((h+r:Nat):Int),((w+c:Nat):Int));rw[Qah,Qah]
def mlR(a b:List Int)(n i j:Nat):List PyData:=(Qp n).map λk=>.int (sumN i (λi=>cwT a b i k)+(if i<=k/\k<i+j then a.getD i 0*b.getD (k - i) 0 else 0))
theorem QmS(a b:List Int)(n i j:Nat):(mlR a b n i j).length=n:=by unfold mlR;rw[Qc,QH]
theorem QmR(a b:List Int)(n:Nat):(QR n [Qg 0]).flatten=mlR a b n 0 0:=by
 have e:∀n,(QR n [Qg 0]).flatten=QR n (Qg 0):=λn=>by
  induction n with
  |zero=>rfl
  |succ n ih=>rw[Jq,Ju,ih,Jq];rfl
 rw[e];unfold mlR;refine Zw λk=>?_
 rw[ZM,Qo];by_cases hk:k<n
 ·rw[if_pos hk,Ji hk];show _=some (Qg (0+(if 0<=k/\k<0+0 then _ else 0)));rw[if_neg (by omega)];rfl
 ·rw[if_neg hk,QJ (by rw[QH];omega)];rfl
theorem QpR{a b:List Int}{n i j:Nat}(hj:j<b.length)(hn:i+j<n):(mlR a b n i j).set (i+j) (.int (sumN i (λi'=>cwT a b i' (i+j))+(if i<=i+j/\i+j<i+j then a.getD i 0*b.getD (i+j - i) 0 else 0)+a.getD i 0*b.getD j 0))=mlR a b n i (j+1):=by
 refine Zw λk=>?_
 rw[QeO,QmS];unfold mlR;by_cases z:i+j=k
 ·subst z;rw[if_pos rfl,if_pos hn,Qo,Ji hn];show some (Qg (sumN i (λi'=>cwT a b i' (i+j))+(if i<=i+j/\i+j<i+j then a.getD i 0*b.getD (i+j - i) 0 else 0)+a.getD i 0*b.getD j 0))=some (Qg (sumN i (λi'=>cwT a b i' (i+j))+(if i<=i+j/\i+j<i+(j+1) then a.getD i 0*b.getD (i+j - i) 0 else 0)));rw[if_neg (by omega),if_pos (by omega),ZO,Qaz]
 ·rw[if_neg z,Qo,Qo];by_cases hk:k<n
  ·rw[Ji hk];show some (Qg _)=some (Qg _);have:(i<=k/\k<i+j)↔(i<=k/\k<i+(j+1)):=by omega
   by_cases y:i<=k/\k<i+j
   ·rw[if_pos y,if_pos (this.mp y)]
   ·rw[if_neg y,if_neg λq=>y (this.mpr q)]
  ·rw[QJ (by rw[QH];omega)];rfl
theorem Qus{a b:List Int}{n i:Nat}:mlR a b n i b.length=mlR a b n (i+1) 0:=by
 unfold mlR;refine JD λk _=>?_
 show Qg (sumN i (λi=>cwT a b i k)+_)=Qg ((sumN i (λi=>cwT a b i k)+cwT a b i k)+_);rw[if_neg (by omega:¬(i+1<=k/\k<i+1+0))]
 congr 1
 unfold cwT;by_cases y:i<=k
 ·by_cases x:k<i+b.length
  ·rw[if_pos ⟨y,x⟩,if_pos y];omega
  ·rw[if_neg λq=>x q.2,if_pos y,show b.getD (k - i) 0=0 by rw[Qd,QJ (by omega)];rfl];omega
 ·rw[if_neg λq=>y q.1,if_neg y];omega
section
variable{P:QC}{w:Jf}{K:PySem.W.Frag}{mg:Str->Option Value}{base:Heap}
theorem Qee:Jl ["board", "cell", "row", "column"] ["board", "cell"] (Qm Qc6):=⟨rfl,rfl,rfl,by decide +kernel,rfl,by decide +kernel,by decide +kernel⟩
theorem Qmw{f f1 f2  : Addr}{fd fd1 fd2:QL}(F:Fun K "struck" "struck" Qc6 f fd)(T:GlbA mg)
  (m1:mg "refuse_no_cell" = some (.ref f1))(G1:FnOk P w K mg base CX0 4 f1 fd1 ["board", "cell"] (JO false QoT))(b1:Binds K fd1 ["board", "cell"] [])(k1:PySem.W.keepIn K (.ref f1)=true)
  (m2:mg "without_lines" = some (.ref f2))(G2:FnOk P w K mg base CX0 5 f2 fd2 ["board", "lines"] (JO false Qy9))(b2:Binds K fd2 ["board", "lines"] [])(k2:PySem.W.keepIn K (.ref f2)=true) :
  FnOk P w K mg base CX0 6 f fd ["board", "cell"] (JO false Qic):=by
 refine okQ false F Qee (λargs R EX h=>?_) (λcdv A outer s H E hr=>?_)
 ·obtain⟨h,w,f,r,c,rfl,_⟩:=h;rfl
 ·have hU:=Room.u60 hr;have hI:=Room.i60 hr;refine⟨_,QB (Qil (QP (JZ G1 (hr.mono (by decide)) (by rfl) m1 k1 b1 JI (Zf (qv 0) (Zf (qv 1) Jb)))))
   (QB (Qg6 (qv 1) (Qai rfl (JP 2 (JP 3 Qaj Qee.nd rfl (by first | exact Q2 rfl | exact QZ rfl)) Qee.nd rfl (by first | exact Q2 rfl | exact QZ rfl))))
   (Q5 (YD (JZ G2 (hr.mono (by decide)) (by rfl) m2 k2 b2 JI (Zf (qv 0) (Zf (JB (QaH (Y0 (JB (QaH (Y0 (qv 2) Q7))) (Y0 (JB (QaH (Y0 (qv 3) Q7))) Q7)))) Jb)))))),λargs R EX h=>?_⟩
  obtain⟨h,w,f,r,c,rfl,h1,h6,w1,w6,hr,hc,hf,hR⟩:=h;refine⟨h,w,_,_,rfl,(Qn7 f h6 w6).bds,JK.mpr ⟨r,c,hr,hc,hf,rfl⟩,rfl,h,w,f,[r],[c],rfl,h6,w6,by simp,λx hx=>?_,by simp,λx hx=>?_,Qmq h1,Qmq w1,hR⟩
  ·rw[Qx.mp hx];exact hr
  ·rw[Qx.mp hx];exact hc
theorem Qfm:(["row", "column", "one"]:List Str).Nodup:=by decide +kernel
theorem QcF:Jl ["one", "other", "high", "wide", "moved"] ["one", "other"] (Qm Qdc):=⟨rfl,rfl,rfl,by decide +kernel,rfl,by decide +kernel,by decide +kernel⟩
theorem QmG{f   : Addr}{fd  : QL}(hA:∃t,mg "MOST_LINES" = some (.int 6 t))(F:Fun K "beside" "beside" Qdc f fd)(T:GlbA mg) :
  FnOk P w K mg base CX0 1 f fd ["one", "other"] (JO false QiQ):=by
 refine okQ false F QcF (λargs R EX h=>?_) (λcdv A outer s H E hr=>?_)
 ·obtain⟨h,w,f,h2,w2,f2,rfl,_⟩:=h;rfl
 ·obtain⟨tA,mA⟩:=hA;have hU:=Room.u60 hr;have hI:=Room.i60 hr;refine⟨_,QB (Za 2 (JB (ZL Zj ZV (QP (Yr Jk J4 (qp 0) (QP Jg) (λ_ _=>rfl))) (QP (Yr Jk J4 (qp 1) (QP Jg) (λ_ _=>rfl))))) QcF.nd)
   (QB (Za 3 (JB (ZL Zj ZV (QP (Yr Jk J4 (qp 0) (QP Jg) (λ_ _=>rfl))) (QP (Yr Jk J4 (qp 1) (QP Jg) (λ_ _=>rfl))))) QcF.nd)
   (QB (QbD (Ql6 (Qik (Yk Qmu QbK (qp 2) (QP (QrS 6 (by rfl) mA ⟨_,rfl⟩)) (ZW _)) (Qeh (Yk Qmu QbK (qp 3) (QP (QrS 6 (by rfl) mA ⟨_,rfl⟩)) (ZW _))))) Qa6 Yl)
   (QB (Ql3 ["row", "column", "one"] [none,none,some 0] 4 QcF.nd (Qdu (QP (Yr Jk J4 (qp 1) (QP Jg) (λ_ _=>rfl)))) (λcl ex s3 H3 C=>⟨(Qai rfl (JP 0 (JP 1 Qaj Qfm rfl (Q2 rfl) (QZ rfl)) Qfm rfl (Q2 rfl) (QZ rfl))),Yy,(JB (QaH (Y0 (JB (ZL Zj ZV (QP (Yr Jk J4 (qp 2) (QP Jg) (λ_ _=>rfl))) (qp 0))) (Y0 (JB (ZL Zj ZV (QP (Yr Jk J4 (qp 2) (QP Jg) (λ_ _=>rfl))) (qp 1))) Q7))))⟩))
   (Q5 (Z1 (QaH (Y0 (qv 2) (Y0 (qv 3) (Y0 (JB (ZL Zj ZV (QP (Yr Jk J4 (qp 0) (QP Jg) (λ_ _=>rfl))) (QY (Qad Yd Qb2 (by rfl) T.tuple Qag (Qap (qp 4) Q7))))) Q7))))))))),λargs R EX h=>?_⟩
  obtain⟨h,w,f,h2,w2,f2,rfl,h3,w3,h23,w23,hR⟩:=h;refine⟨_,Q6 (j:=0) rfl,_,Q6 (j:=0) rfl,_,Q6 (j:=1) rfl,_,Q6 (j:=1) rfl,?_⟩;refine ifF (decide_eq_false (by omega)) (ifF (decide_eq_false (by omega)) ?_);refine⟨_,Q6 (j:=2) rfl,Qaq (λd=>pairD (shP h w (toP d))) (λd hd k2 hk=>?_) ?_⟩
  ·obtain⟨p,_,rfl⟩:=Qt.mp hd;exact⟨rfl,_,Q6 (j:=0) rfl,_,Q6 (j:=1) rfl,hk⟩
  ·have l1:(cellsF h w f).length<=9:=QX (YN w f h) (Yo h3 w3);have l2:(cellsF h2 w2 f2).length<=9:=QX (YN w2 f2 h2) (Yo h23 w23);have e:((cellsF h2 w2 f2).map pairD).map (λd=>pairD (shP h w (toP d)))=((cellsF h2 w2 f2).map (shP h w)).map pairD:=by rw[QN,QN];rfl
   rw[e];refine⟨_,Q6 (j:=2) rfl,by rw[Qc,Qc,Qc];omega,?_⟩;rw[<- Jj,<- QhI];rw[Qah,Qah] at hR;exact hR
theorem Qc3:Jl ["one", "other", "told", "at", "number", "further", "factor"] ["one", "other"] (Qm Qkj):=⟨rfl,rfl,rfl,by decide +kernel,rfl,by decide +kernel,by decide +kernel⟩
theorem Quf{f   : Addr}{fd  : QL}(F:Fun K "multiplied" "multiplied" Qkj f fd)(T:GlbA mg) :
  FnOk P w K mg base CX0 1 f fd ["one", "other"] (JO true QpP):=by
 refine okQ true F Qc3 (λargs R EX h=>?_) (λcdv A outer s H E hr=>?_)
 ·obtain⟨a,b,rfl,_⟩:=h;rfl
 ·have hU:=Room.u60 hr;have hI:=Room.i60 hr;refine⟨_,QB (Qdf 2 (ZL Qeo Qhi (QY (Qb6 (Y0 Jg Q7))) (QY (ZL Qem Qdx (QY (ZL Zj ZV (QY (JU J7 Yw (by rfl) T.len Yg (Qap (qp 0) Q7))) (QY (JU J7 Yw (by rfl) T.len Yg (Qap (qp 1) Q7))))) (QP Jg)))) Qc3.nd)
   (QB (QbE Jt rfl (QbW (by rfl) T.enumerate (qv 0)) (Qai rfl (JP 3 (JP 4 Qaj Qc3.nd rfl (by first | exact Q2 rfl | exact QZ rfl)) Qc3.nd rfl (by first | exact Q2 rfl | exact QZ rfl)))
    (Q5 (QbE Jt rfl (QbW (by rfl) T.enumerate (qv 1)) (Qai rfl (JP 5 (JP 6 Qaj Qc3.nd rfl (by first | exact Q2 rfl | exact QZ rfl)) Qc3.nd rfl (by first | exact Q2 rfl | exact QZ rfl)))
    (Q5 (Ql4 2 Qm5 Qf3 (QY (ZL Zj ZV (qp 3) (qp 5))) (QY (ZL Qeo Qhi (qp 4) (qp 6))))))))
   (Q5 (Qej 2))),λargs R EX h=>?_⟩
  obtain⟨a,b,rfl,a1,a5,b1,b5,hb,hR⟩:=h;have la:=Qxm a;have lb:=Qxm b;refine⟨⟨by omega,by omega,by show 1*_<=_;omega⟩,?_⟩;have en:(((a.map Qg).length:Int)+((b.map Qg).length:Int) - 1).toNat=a.length+b.length - 1:=by omega
  rw[en,QmR a b];refine QaE (λi δ=>∃x3 x4 x5 x6,δ=[.v (.list (a.map Qg)),.v (.list (b.map Qg)),.own (mlR a b (a.length+b.length - 1) i 0),x3,x4,x5,x6]) ⟨_,_,_,_,rfl⟩ ?_ ?_
  ·rintro i d δ hd ⟨x3,x4,x5,x6,rfl⟩;obtain⟨e,he,rfl⟩:=Qbg hd;rw[Qo] at he;obtain⟨x,ex,rfl⟩:∃x,a[i]? = some x/\e=.int x:=by
    cases z:a[i]? with
    |none=>rw[z] at he;cases he
    |some x=>rw[z] at he;cases he;exact⟨x,rfl,rfl⟩
   have hi:i<a.length:=(QU.mp ex).1;have gx:a.getD i 0=x:=by rw[Qd,ex];rfl
   refine⟨rfl,QaE (λj δ=>∃x5 x6,δ=[.v (.list (a.map Qg)),.v (.list (b.map Qg)),.own (mlR a b (a.length+b.length - 1) i j),.v (.int i),.v (.int x),x5,x6]) ⟨_,_,rfl⟩ ?_ ?_⟩
   ·rintro j d δ hd2 ⟨x5,x6,rfl⟩;obtain⟨e,he2,rfl⟩:=Qbg hd2;rw[Qo] at he2;obtain⟨y,ey,rfl⟩:∃y,b[j]? = some y/\e=.int y:=by
     cases z:b[j]? with
     |none=>rw[z] at he2;cases he2
     |some x=>rw[z] at he2;cases he2;exact⟨x,rfl,rfl⟩
    have hj:j<b.length:=(QU.mp ey).1;have gy:b.getD j 0=y:=by rw[Qd,ey];rfl
    have hn:i+j<a.length+b.length - 1:=by omega
    have by_:=hb y (Q8 ey);refine⟨rfl,i+j,.int (sumN i (λi'=>cwT a b i' (i+j))+(if i<=i+j/\i+j<i+j then a.getD i 0*b.getD (i+j - i) 0 else 0)),?_,?_,.inl (.inr by_),.v (.int j),.v (.int y),?_⟩
    ·rw[QmS,<- Qah];exact Qm3 hn
    ·unfold mlR;rw[Qo,Ji hn];rfl
    ·rw[<- QpR hj hn,gx,gy];rfl
   ·rintro δ ⟨x5,x6,rfl⟩;rw[Qb0,lb,Qus];exact⟨_,_,_,_,rfl⟩
  ·rintro δ ⟨x3,x4,x5,x6,rfl⟩;rw[Qb0,la];have e:mlR a b (a.length+b.length - 1) a.length 0=(cwS a b).map Qg:=by
    unfold mlR cwS;rw[QN];refine JD λk _=>?_
    show Qg (sumN a.length (λi=>cwT a b i k)+(if a.length<=k/\k<a.length+0 then a.getD a.length 0*b.getD (k - a.length) 0 else 0))=Qg (sumN a.length λi=>cwT a b i k);rw[if_neg (by omega),Qaz]
   rw[e];exact hR
end
def Qcg:List Int->Nat
 |[]=>0
 |x::l=>if Qcg l=0 then(if x=0 then 0 else 1) else Qcg l+1
def QiH(l:List Int):List Int:=l.take (Qcg l)
def QiA:DF:=λargs R _=>∃l:List Int,args=[.v (.list (l.map Qg))]/\l.length<=900/\1<=Qcg l/\R (.list ((QiH l).map Qg))
def Qoz(a b:List Int):List Int:=(Qp (max a.length b.length)).map λk=>a.getD k 0+b.getD k 0
def QpW:DF:=λargs R _=>∃a b:List Int,args=[.v (.list (a.map Qg)),.v (.list (b.map Qg))]/\a.length<=100/\b.length<=100/\R (.list ((Qoz a b).map Qg))
def Qm0:DF:=λargs R _=>∃(h w:Nat)(f:Nat->Nat->Bool)(r c:Nat),args=[.v (bdD h w (cellsF h w f)),.v (pairD ((r:Int),(c:Int)))]/\1<=h/\h<=6/\1<=w/\w<=6/\r<h/\c<w/\f r c=true/\R (.bool true)
def QuA:DF:=λargs R _=>∃(h w:Nat)(f:Nat->Nat->Bool),args=[.v (bdD h w (cellsF h w f))]/\1<=h/\h<=6/\1<=w/\w<=6/\R (.bool true)
def Qm1:DF:=λargs R _=>∃(h w:Nat)(f:Nat->Nat->Bool)(h2 w2:Nat)(f2:Nat->Nat->Bool),args=[.v (bdD h w (cellsF h w f)),.v (bdD h2 w2 (cellsF h2 w2 f2))]/\1<=h/\h<=3/\1<=w/\w<=3/\1<=h2/\h2<=3/\1<=w2/\w2<=3/\R (.bool true)
theorem Qe6:∀l:List Int,Qcg l<=l.length
 |[]=>Qh _
 |x::l=>by
  have:=Qe6 l;unfold Qcg;rw[QF];split
  ·split<;>omega
  ·omega
theorem QcB:∀(l:List Int)(k:Nat),Qcg l<=k->l.getD k 0=0
 |[],k,_=>by rw[Qd];rfl
 |x::l,0,h=>by
  unfold Qcg at h;split at h
  ·split at h
   ·rename_i z;exact z
   ·omega
  ·omega
 |x::l,k+1,h=>by
  have e:(x::l).getD (k+1) 0=l.getD k 0:=by rw[Qd,Qd];rfl
  rw[e];refine QcB l k ?_
  unfold Qcg at h;split at h
  ·omega
  ·omega
theorem QfG:∀(l:List Int)(n:Nat),Qcg l=n+1->l.getD n 0≠0
 |[],n,h=>by cases h
 |x::l,n,h=>by
  unfold Qcg at h;split at h
  ·split at h
   ·cases h
   ·rename_i z
    obtain rfl:n=0:=by omega
    exact z
  ·rename_i z
   obtain⟨m,rfl⟩:∃m,n=m+1:=⟨n - 1,by omega⟩
   have e:(x::l).getD (m+1) 0=l.getD m 0:=by rw[Qd,Qd];rfl
   rw[e];exact QfG l m (by omega)
theorem Qh5{a b:List Int}(h:∀k,a.getD k 0=b.getD k 0):Qcg a=Qcg b:=by
 have key:∀{a b:List Int},(∀k,a.getD k 0=b.getD k 0)->Qcg a<=Qcg b:=λ{a b} h=>by
  cases e:Qcg a with
  |zero=>omega
  |succ n=>
   have q:=QfG a n e;rw[h] at q;by_cases z:Qcg b<=n
   ·exact absurd (QcB b n z) q
   ·omega
 exact QvH (key h) (key λk=>(h k).symm)
theorem QiG{a b:List Int}(h:∀k,a.getD k 0=b.getD k 0):QiH a=QiH b:=by
 have e:=Qh5 h;have la:=Qe6 a;have lb:=Qe6 b;unfold QiH;rw[<- e];refine Zw λk=>?_
 rw[Qaa,Qaa];by_cases z:k<Qcg a
 ·rw[if_pos z,if_pos z,Qe (by omega),Qe (by omega)];have:=h k;rw[Qd,Qd,Qe (by omega),Qe (by omega)] at this;exact congrArg some this
 ·rw[if_neg z,if_neg z]
theorem Qu0(l:List Int)(k:Nat):(QiH l).getD k 0=l.getD k 0:=by
 unfold QiH;by_cases z:k<Qcg l
 ·rw[Qd,Qaa,if_pos z,Qd]
 ·rw[Qd,Qaa,if_neg z,QcB l k (by omega)];rfl
theorem QuZ(l:List Int):(QiH l).length=Qcg l:=by
 unfold QiH;have:=Qe6 l;rw[YY];omega
theorem Qlq{l:List Int}{k:Nat}(h:l.getD k 0≠0):1<=Qcg l:=by
 by_cases z:Qcg l<=k
 ·exact absurd (QcB l k z) h
 ·omega
theorem Qge{n:Nat}{F:Nat->Int}{k:Nat}(h:k<n):((Qp n).map F).getD k 0=F k:=by rw[Qd,Qo,Ji h];rfl
theorem Qey{n:Nat}{F:Nat->Int}{k:Nat}(h:n<=k):((Qp n).map F).getD k 0=0:=by rw[Qd,QJ (by rw[Qc,QH];exact h)];rfl
theorem QsW(a b:List Int)(k:Nat):(Qoz a b).getD k 0=a.getD k 0+b.getD k 0:=by
 unfold Qoz;by_cases z:k<max a.length b.length
 ·rw[Qge z]
 ·rw[Qey (by omega),Qd,QJ (by omega),Qd,QJ (by omega)];rfl
def cI4(cs:List (Int×Int))(h w:Nat):List Int:=(Qp (min h w+1)).map λk=>Wc cs h h 0 k
theorem QhC(cs:List (Int×Int))(h w:Nat):QjM cs h w=(cI4 cs h w).map Qg:=by unfold QjM cI4;rw[QN];rfl
theorem Qbh(cs:List (Int×Int))(h w:Nat):(cI4 cs h w).length=min h w+1:=by unfold cI4;rw[Qc,QH]
theorem QaU{h w:Nat}{cs:List (Int×Int)}(g:GB h w cs)(k:Nat):(cI4 cs h w).getD k 0=Wc cs h h 0 k:=by
 unfold cI4;by_cases z:k<min h w+1
 ·rw[Qge z]
 ·rw[Qey (by omega)];by_cases y:0<Wc cs h h 0 k
  ·obtain⟨L,st,lk⟩:=(Qdg g).mp y;have:=Qid g st;omega
  ·have:=Qj5 g k;omega
theorem Qdm{h w:Nat}{cs:List (Int×Int)}(g:GB h w cs):1<=Qcg (cI4 cs h w):=Qlq (k:=0) (by rw[QaU g];have:=(Qdg g (k:=0)).mpr ⟨[],Std.nil,rfl⟩;omega)
theorem Qgj:∀l:List Int,Q9 (.list (l.map Qg)) (.list (l.map Qg))=true
 |[]=>rfl
 |n::l=>by
  show((n == n)&&Q9 (.list (l.map Qg)) (.list (l.map Qg)))=true;rw[Qgj l];simp
theorem QjG(l:List Int):(YT (l.map Qg)).depth<=50:=by
 have:=QeE (n:=0) (ds:=l.map Qg) λd hd=>by obtain⟨p,_,rfl⟩:=Qt.mp hd;exact Qh _
 show JN _+1<=50;omega
theorem Qx8{A B:List Nat}(f:Nat->Nat->Bool)(a6:A.length<=6)(nB:B.Nodup)(k:Nat):Wc (cellsF A.length B.length (QzV f A B)) A.length A.length 0 k=Pf f A B k:=by
 rw[QaW,QaM ⟨A.length,by omega⟩];show Pf (λr c=>f (A.getD r 0) (B.getD c 0)) (Qp A.length) (Qp B.length) k=Pf f A B k;rw[QjS f (λr=>A.getD r 0) (λc=>B.getD c 0) _ _ k,Qhp rfl,Qhp rfl];intro x hx y hy e;have hx:=QM.mp hx;have hy:=QM.mp hy;rw[Qd,Qe hx,Qd,Qe hy] at e;exact(QsD nB).mp e
theorem QBm{h w:Nat}{f:Nat->Nat->Bool}{r c:Nat}:wo (cellsF h w f) ((r:Int),(c:Int))=cellsF h w λr' c'=>f r' c' && !decide (r'=r/\c'=c):=by
 refine Qf0 ((pw_cellsF w f h).filter _) (pw_cellsF w _ h) λp=>?_
 unfold wo;rw[Qz,JK,JK];constructor
 ·rintro⟨⟨r',c',hr,hc,hf,rfl⟩,hn⟩;refine⟨r',c',hr,hc,?_,rfl⟩;have:¬(r'=r/\c'=c):=λz=>by rw[z.1,z.2] at hn;simp at hn
  rw[hf,decide_eq_false this];rfl
 ·rintro⟨r',c',hr,hc,hf,rfl⟩;obtain⟨h1,h2⟩:=JG.mp hf;refine⟨⟨r',c',hr,hc,h1,rfl⟩,?_⟩;have h2:¬(r'=r/\c'=c):=of_decide_eq_false ((Qry _).mp h2);have:¬(((r':Int),(c':Int))=((r:Int),(c:Int))):=λe=>h2 ⟨by have:(r':Int)=r:=(Zs e).1;omega,by have:(c':Int)=c:=(Zs e).2;omega⟩
  show(!decide (((r':Int),(c':Int))=((r:Int),(c:Int))))=true;rw[decide_eq_false this];rfl
theorem Qjq(h r:Nat):oth h [r]=wo1 (Qp h) r:=by
 have:=Qpt h [] r;rw[QtZ] at this;exact this
def QBD(n:Nat):PyData->PyData
 |.list ds=>.list (ds++(QR (n - ds.length) [Qg 0]).flatten)
 |_=>.none
theorem QoS(m:Nat):(QR m [Qg 0]).flatten.length=m:=by
 induction m with
 |zero=>rfl
 |succ m ih=>rw[Jq,Ju,Qr,ih];show 1+m=m+1;omega
theorem Qjk:∀{m k:Nat},k<m->(QR m [Qg 0]).flatten[k]? = some (.int 0)
 |m+1,0,_=>by rw[Jq,Ju];rfl
 |m+1,k+1,h=>by rw[Jq,Ju];exact Qjk (m:=m) (by omega)
theorem Qjp{l:List Int}{n k:Nat}(h:k<n):(l.map Qg++(QR (n - (l.map Qg).length) [Qg 0]).flatten)[k]? = some (.int (l.getD k 0)):=by
 by_cases z:k<l.length
 ·rw[Z4 (by rw[Qc];exact z),Qo,Qd,Qe z];rfl
 ·rw[ZX (by rw[Qc];omega),Qc,Qjk (by omega),Qd,QJ (by omega)];rfl
section
variable{P:QC}{w:Jf}{K:PySem.W.Frag}{mg:Str->Option Value}{base:Heap}
theorem QlP:Jl ["_law_some", "_law_found"] ["_law_some"] (Qm lCut):=⟨rfl,rfl,rfl,by decide +kernel,rfl,by decide +kernel,by decide +kernel⟩
theorem Quk{f   : Addr}{fd  : QL}(F:Fun K "_law_cut" "_law_cut" lCut f fd)(T:GlbA mg) :
  FnOk P w K mg base CX0 1 f fd ["_law_some"] (JO true QiA):=by
 refine okQ true F QlP (λargs R EX h=>?_) (λcdv A outer s H E hr=>?_)
 ·obtain⟨l,rfl,_⟩:=h;rfl
 ·have hU:=Room.u60 hr;have hI:=Room.i60 hr;refine⟨_,QB (Qdf 1 (Qad Qav Qgq (by rfl) T.list Qgt (Qap (qp 0) Q7)) QlP.nd)
   (QB (QdU Jt (Yk Qdw (Qhj hU) (QP (Yr Jk J4 (qp 1) (QY (Qth (QP Jg))) (λ_ _=>rfl))) (QP Jg) (ZW _))
    (Q5 (Qte 1)))
   (Q5 (Qej 1))),λargs R EX h=>?_⟩
  obtain⟨l,rfl,l9,l1,hR⟩:=h;refine Qi4 (λm δ=>m<=l.length/\Qcg l<=m/\δ=[.v (.list (l.map Qg)),.own ((l.take m).map Qg)]) l.length ⟨Qh _,Qe6 l,by rw[Zp];rfl⟩ ?_
  rintro m δ ⟨hm,ht,rfl⟩;have hm1:m - 1<l.length:=by omega
  have el:l.take m=l.take (m - 1)++[l[m - 1]]:=by
   conv=>lhs;rw[show m=m - 1+1 by omega,ZR,Qe hm1]
   rfl
  have gl:l.getD (m - 1) 0=l[m - 1]:=by rw[Qd,Qe hm1];rfl
  refine⟨.int l[m - 1],by rw[el,Jj];exact QjR _ _,?_⟩;refine ifC (λz=>?_) λz=>?_
  ·have z:l[m - 1]=0:=of_decide_eq_true z;have hlt:Qcg l<m:=by
    rcases Qe3 (Qcg l) m with y | y
    ·exact y
    ·have:Qcg l=(m - 1)+1:=by omega
     exact absurd (gl.trans z) (QfG l _ this)
   refine⟨λq=>by rw[el,Jj] at q;simp at q,m - 1,by omega,by omega,by omega,?_⟩;rw[el,Jj];show[Sl.v (.list (l.map Qg)),.own (((l.take (m - 1)).map Qg++[Qg l[m - 1]]).dropLast)]=_;rw[List.dropLast_concat]
  ·have z:l[m - 1]≠0:=of_decide_eq_false z;have hq:Qcg l=m:=by
    rcases Qe3 (Qcg l) m with y | y
    ·exact absurd (gl ▸ QcB l (m - 1) (by omega)) z
    ·omega
   have hR:R (.list ((l.take (Qcg l)).map Qg)):=hR;rw[hq] at hR;exact hR
theorem QpL:(["_law_some", "_law_size"]:List Str).Nodup:=by decide +kernel
theorem QpK:(["_law_k", "_law_wide"]:List Str).Nodup:=by decide +kernel
theorem Qig:Jl ["_law_one", "_law_other", "_law_size", "_law_wide"] ["_law_one", "_law_other"] (Qm lSum):=⟨rfl,rfl,rfl,by decide +kernel,rfl,by decide +kernel,by decide +kernel⟩
theorem Quh{f   : Addr}{fd  : QL}(F:Fun K "_law_sum" "_law_sum" lSum f fd)(T:GlbA mg) :
  FnOk P w K mg base CX0 1 f fd ["_law_one", "_law_other"] (JO true QpW):=by
 refine okQ true F Qig (λargs R EX h=>?_) (λcdv A outer s H E hr=>?_)
 ·obtain⟨a,b,rfl,_⟩:=h;rfl
 ·have hU:=Room.u60 hr;have hI:=Room.i60 hr;refine⟨_,QB (Za 2 (JB (JU (QhA rfl) Qri (by rfl) T.max QnE (Qap (QY (JU J7 Yw (by rfl) T.len Yg (Qap (qp 0) Q7))) (Qap (QY (JU J7 Yw (by rfl) T.len Yg (Qap (qp 1) Q7))) Q7)))) Qig.nd)
   (QB (Za 3 (JB (YL ["_law_some", "_law_size"] [none,some 2] (QaT (QY (Qb6 (Y0 (qv 0) (Y0 (qv 1) Q7))))) (λcl ex s3 H3 C=>⟨(ZK 0 QpL rfl (Q2 rfl) (QZ rfl)),Yy,(JB (ZL Zj ZV (QY (Qad Qav Qgq (by rfl) T.list Qgt (Qap (qp 0) Q7))) (QY (ZL Qeo Qhi (QY (Qb6 (Y0 Jg Q7))) (QY (ZL Qem Qdx (qp 1) (QY (JU J7 Yw (by rfl) T.len Yg (Qap (qp 0) Q7)))))))))⟩))) Qig.nd)
   (Q5 (Z1 (YL ["_law_k", "_law_wide"] [none,some 3] (QbF (by rfl) T.range (qp 2)) (λcl ex s3 H3 C=>⟨(ZK 0 QpK rfl (Q2 rfl) (QZ rfl)),Yy,(JB (ZL Zj ZV (QP (Yr Jk J4 (QP (Yr Jk J4 (qp 1) (QP Jg) (λ_ _=>rfl))) (qp 0) (λ_ _=>rfl))) (QP (Yr Jk J4 (QP (Yr Jk J4 (qp 1) (QP Jg) (λ_ _=>rfl))) (qp 0) (λ_ _=>rfl)))))⟩))))),λargs R EX h=>?_⟩
  obtain⟨a,b,rfl,a1,b1,hR⟩:=h;have la:=Qxm a;have lb:=Qxm b;refine Qux (k:=((max a.length b.length:Nat):Int)) (by split<;>omega) ?_
  generalize hn:max a.length b.length=n;have an:a.length<=n:=by omega
  have bn:b.length<=n:=by omega
  have n1:n<=100:=by omega
  refine Qaq (QBD n) (λd hd k2 hk=>?_) ?_
  ·obtain⟨l,ll,rfl⟩:∃l:List Int,l.length<=n/\d=.list (l.map Qg):=by
    rcases Qy.mp hd with z | z
    ·exact⟨a,an,z⟩
    ·exact⟨b,bn,Qx.mp z⟩
   have ll2:=Qxm l;have em:((n:Int) - ((l.map Qg).length:Int)).toNat=n - (l.map Qg).length:=by omega
   refine⟨⟨by omega,by omega,by show 1*_<=_;omega⟩,?_⟩;rw[em];refine⟨?_,hk⟩;rw[QoS];omega
  ·refine⟨⟨by omega,by omega⟩,Qaq (λd=>match d with | .int k=>.int (a.getD k.toNat 0+b.getD k.toNat 0) | _=>.none) (λd hd k2 hk=>?_) ?_⟩
   ·obtain⟨k,hk0⟩:=Jx.mp hd;obtain⟨hkn,rfl⟩:=Qeg hk0;rw[QV] at hkn;have hk:k2 (.int (a.getD (0+(k:Int)).toNat 0+b.getD (0+(k:Int)).toNat 0)):=hk;rw[show(0+(k:Int)).toNat=k by omega] at hk;refine⟨_,Q6 (j:=0) rfl,.int (a.getD k 0),by rw[Y4];exact Q6 (Qjp (by omega)),_,Q6 (j:=1) rfl,.int (b.getD k 0),by rw[Y4];exact Q6 (Qjp (by omega)),hk⟩
   ·have e:(Qji 0 ((n:Nat):Int).toNat).map (λd=>match d with | .int k=>Qg (a.getD k.toNat 0+b.getD k.toNat 0) | _=>.none)=(Qoz a b).map Qg:=by
     unfold Qji Qoz;rw[QN,QN,QV,hn];refine JD λk _=>?_
     show Qg (a.getD (0+(k:Int)).toNat 0+b.getD (0+(k:Int)).toNat 0)=_;rw[show(0+(k:Int)).toNat=k by omega];rfl
    rw[e];exact hR
end
section
variable{P:QC}{w:Jf}{K:PySem.W.Frag}{mg:Str->Option Value}{base:Heap}
theorem YC:Jl ["_law_pot_here", "_law_most", "_law_high", "_law_wide", "_law_way", "_law_thick", "_law_cells", "_law_row", "_law_column", "_law_drawn", "_law_some"] ["_law_pot_here", "_law_most"] (Qm Qfo):=⟨rfl,rfl,rfl,by decide +kernel,rfl,by decide +kernel,by decide +kernel⟩
theorem QmB{f f1  : Addr}{fd fd1:QL}(F:Fun K "_law_board" "_law_board" Qfo f fd)(T:GlbA mg)
  (m1:mg "_law_take" = some (.ref f1))(G1:FnOk P w K mg base CX0 1 f1 fd1 ["_law_pot_here", "_law_far"] (JO true Qov))(b1:Binds K fd1 ["_law_pot_here", "_law_far"] [])(k1:PySem.W.keepIn K (.ref f1)=true) :
  FnOk P w K mg base CX0 2 f fd ["_law_pot_here", "_law_most"] (JO false QiB):=by
 refine okQ false F YC (λargs R EX h=>?_) (λcdv A outer s H E hr=>?_)
 ·obtain⟨m,rfl,_⟩:=h;rfl
 ·have hU:=Room.u60 hr;have hI:=Room.i60 hr;refine⟨_,QB (Za 2 (JB (ZL Zj ZV (QP Jg) (QY (J3 G1 (hr.mono (by decide)) (by rfl) m1 k1 b1 JI (QcH 0 (Zf (qv 1) Jb)))))) YC.nd)
   (QB (Za 3 (JB (ZL Zj ZV (QP Jg) (QY (J3 G1 (hr.mono (by decide)) (by rfl) m1 k1 b1 JI (QcH 0 (Zf (qv 1) Jb)))))) YC.nd)
   (QB (Za 4 (JB (J3 G1 (hr.mono (by decide)) (by rfl) m1 k1 b1 JI (QcH 0 (Zf Jg Jb)))) YC.nd)
   (QB (Za 5 (JB (ZL Zj ZV (QP Jg) (QY (J3 G1 (hr.mono (by decide)) (by rfl) m1 k1 b1 JI (QcH 0 (Zf Jg Jb)))))) YC.nd)
   (QB (Qdf 6 (Qb6 Q7) YC.nd)
   (QB (QbE Jt rfl (QbF (by rfl) T.range (qp 2)) (ZK 7 YC.nd rfl (by first | exact Q2 rfl | exact QZ rfl))
    (Q5 (QbE Jt rfl (QbF (by rfl) T.range (qp 3)) (ZK 8 YC.nd rfl (by first | exact Q2 rfl | exact QZ rfl))
    (QB (Za 9 (JB (QeY Qpv QbK (QY (J3 G1 (hr.mono (by decide)) (by rfl) m1 k1 b1 JI (QcH 0 (Zf Jg Jb)))) (qp 5) (ZW _))) YC.nd)
   (QB (Za 10 (JB (ZL Zj ZV (QY (ZL Qeo Qhi (QY (Qb6 (Y0 (qv 9) Q7))) (QP Jg))) (QY (Qb6 (Y0 Ql7 (Y0 Ql7 (Y0 (JB (QeY Qpv QbK (qp 8) (qp 7) (ZW _))) (Y0 (JB (QeY Qdw (Qhj hU) (QY (ZL Qhh QmK (QY (ZL Zj ZV (qp 7) (qp 8))) (QP Jg))) (QP Jg) (ZW _))) (Y0 (JB (QeY Qt1 QbK (qp 7) (qp 8) (ZW _))) Q7))))))))) YC.nd)
   (Q5 (QbD (Qei (QP (Yr Jk J4 (qp 10) (qp 4) (λ_ _=>rfl)))) (Q5 (QrR 6 (JB (QaH (Y0 (qv 7) (Y0 (qv 8) Q7)))))) Yl)))))))
   (Q5 (Z1 (QaH (Y0 (qv 2) (Y0 (qv 3) (Y0 (JB (Qad Yd Qb2 (by rfl) T.tuple Qag (Qap (qp 6) Q7))) Q7))))))))))),λargs R EX h=>?_⟩
  obtain⟨m,rfl,m1,m6,hR⟩:=h;refine⟨_,rfl,by omega,by omega,λrh rh0 rh1=>⟨_,rfl,by omega,by omega,λrw0 rw1 rw2=>?_⟩⟩;refine⟨_,rfl,by decide,by decide,λway way0 way1=>⟨_,rfl,by decide,by decide,λth th0 th1=>?_⟩⟩;obtain⟨h,hh⟩:∃h:Nat,(h:Int)=1+rh:=⟨(1+rh).toNat,by omega⟩
  obtain⟨w,hw⟩:∃w:Nat,(w:Int)=1+rw0:=⟨(1+rw0).toNat,by omega⟩
  rw[<- hh,<- hw];refine⟨⟨by omega,by omega⟩,Qgg (λi δ=>∃f ds x1 x2 x3 x4,δ=[.pot,.v (.int m),.v (.int h),.v (.int w),.v (.int way),.v (.int (1+th)),.own ds,x1,x2,x3,x4]/\ds=(cellsF i w f).map pairD) ⟨λ_ _=>false,_,_,_,_,_,rfl,rfl⟩ ?_ ?_⟩
  ·rintro i δ hi ⟨f,ds,x1,x2,x3,x4,rfl,rfl⟩;refine⟨⟨by omega,by omega⟩,Qgg (λj δ=>∃f ds x2 x3 x4,δ=[.pot,.v (.int m),.v (.int h),.v (.int w),.v (.int way),.v (.int (1+th)),.own ds,.v (.int (0+(i:Int))),x2,x3,x4]/\ds=(cellsF i w f++Qde i j f).map pairD) ⟨f,_,_,_,_,rfl,by rw[show Qde i 0 f=[] from rfl,ZB]⟩ ?_ ?_⟩
   ·rintro j δ hj ⟨f,ds,x2,x3,x4,rfl,rfl⟩;refine⟨_,rfl,by decide,by decide,λdr dr0 dr1=>?_⟩;refine⟨⟨by decide,by decide,by show 1*5<=_;decide⟩,by show(0:Int)<2;decide,by show 5+5<=_;decide,?_⟩;refine QzX way0 (by show way<10;exact way1) λd hd=>?_
    obtain⟨b,rfl⟩:∃b,d=.bool b:=QaV (p:=λd=>∃b,d=Qam b) ⟨_,rfl⟩ (QaV ⟨_,rfl⟩ (QaV ⟨_,rfl⟩ (QaV ⟨_,rfl⟩ (QaV ⟨_,rfl⟩ (QaV ⟨_,rfl⟩ (QaV ⟨_,rfl⟩ (QaV ⟨_,rfl⟩ (QaV ⟨_,rfl⟩ (QaV ⟨_,rfl⟩ Qx4))))))))) d hd
    refine⟨trivial,?_⟩;have ec:cellsF i w (QsO f i j b)++Qde i (j+1) (QsO f i j b)=cellsF i w f++Qde i j f++(if b=true then[((i:Int),(j:Int))] else[]):=by
     rw[QkK (Qh _),QlU,QoN (Qh _),<- QeP,show QsO f i j b i j=b from if_pos ⟨rfl,rfl⟩]
    cases b with
    |false=>
     refine⟨QsO f i j false,_,_,_,_,rfl,?_⟩;rw[ec,if_neg (by decide),ZB]
    |true=>
     have l1:=YN w f i;have l2:=QfR i j f;have l3:i*w<=6*6:=Yo (by omega) (by omega);refine⟨by rw[Qc,Qr];omega,QsO f i j true,_,_,_,_,rfl,?_⟩;rw[ec,if_pos rfl,Jj (l₁:=cellsF i w f++Qde i j f),show(0:Int)+(i:Int)=(i:Int) by omega,show(0:Int)+(j:Int)=(j:Int) by omega];rfl
   ·rintro δ ⟨f,ds,x2,x3,x4,rfl,rfl⟩;exact⟨f,_,_,_,_,_,rfl,by rw[YJ,QV]⟩
  ·rintro δ ⟨f,ds,x1,x2,x3,x4,rfl,rfl⟩;rw[QV];exact hR h w f (by omega) (by omega) (by omega) (by omega)
theorem Qg3:Jl ["_law_script", "_law_k", "_law_pot_here", "_law_board_here", "_law_at"] ["_law_script"] (Qm sLaw):=⟨rfl,rfl,rfl,by decide +kernel,rfl,by decide +kernel,by decide +kernel⟩
theorem Qxc{f f1 f2 f3 f4 f5 f6 f7  : Addr}{fd fd1 fd2 fd3 fd4 fd5 fd6 fd7:QL}(F:Fun K "law" "law" sLaw f fd)(T:GlbA mg)
  (m1:mg "_law_cell_at" = some (.ref f1))(G1:FnOk P w K mg base CX0 1 f1 fd1 ["_law_script", "_law_k"] (QcE K))(b1:Binds K fd1 ["_law_script", "_law_k"] [])(k1:PySem.W.keepIn K (.ref f1)=true)
  (m2:mg "_law_pot" = some (.ref f2))(G2:FnOk P w K mg base CX0 1 f2 fd2 ["_law_cell"] (JO true Qzy))(b2:Binds K fd2 ["_law_cell"] [])(k2:PySem.W.keepIn K (.ref f2)=true)
  (m3:mg "_law_board" = some (.ref f3))(G3:FnOk P w K mg base CX0 2 f3 fd3 ["_law_pot_here", "_law_most"] (JO false QiB))(b3:Binds K fd3 ["_law_pot_here", "_law_most"] [])(k3:PySem.W.keepIn K (.ref f3)=true)
  (m4:mg "_law_take" = some (.ref f4))(G4:FnOk P w K mg base CX0 1 f4 fd4 ["_law_pot_here", "_law_far"] (JO true Qov))(b4:Binds K fd4 ["_law_pot_here", "_law_far"] [])(k4:PySem.W.keepIn K (.ref f4)=true)
  (m5:mg "_law_cell_right" = some (.ref f5))(G5:FnOk P w K mg base CX0 7 f5 fd5 ["_law_board_here", "_law_cell"] (JO false Qm0))(b5:Binds K fd5 ["_law_board_here", "_law_cell"] [])(k5:PySem.W.keepIn K (.ref f5)=true)
  (m6:mg "_law_pieces_right" = some (.ref f6))(G6:FnOk P w K mg base CX0 4 f6 fd6 ["_law_board_here"] (JO false QuA))(b6:Binds K fd6 ["_law_board_here"] [])(k6:PySem.W.keepIn K (.ref f6)=true)
  (m7:mg "_law_both_right" = some (.ref f7))(G7:FnOk P w K mg base CX0 6 f7 fd7 ["_law_one", "_law_other"] (JO false Qm1))(b7:Binds K fd7 ["_law_one", "_law_other"] [])(k7:PySem.W.keepIn K (.ref f7)=true) :
  FnOk P w K mg base CX0 8 f fd ["_law_script"] (Qe9 K):=by
 refine QBE F Qg3 (λcdv A outer s H E hr=>?_);have hU:=Room.u60 hr;have hI:=Room.i60 hr;refine⟨_,QB (QbE Jt rfl (QbF (by rfl) T.range (QY (JU (QhA rfl) QnA (by rfl) T.max QnE (Qap (QP Jg) (Qap (QY (JU (Qhz rfl) Qnz (by rfl) T.min Qsn (Qap (QY (Qwt 0 (by rfl) T.len)) (Qap (QP Jg) Q7)))) Q7))))) (ZK 1 Qg3.nd rfl (by first | exact Q2 rfl | exact QZ rfl))
    (QB (Qtd 2 (J3 G2 (hr.mono (by decide)) (by rfl) m2 k2 b2 JI (Zf (JB (Qwu 0 G1 (hr.mono (by decide)) (by rfl) m1 k1 b1 (qp 1))) Jb)) Qg3.nd)
   (QB (Za 3 (JZ G3 (hr.mono (by decide)) (by rfl) m3 k3 b3 JI (QcH 2 (Zf Jg Jb))) Qg3.nd)
   (QB (Za 4 (JB (J3 G4 (hr.mono (by decide)) (by rfl) m4 k4 b4 JI (QcH 2 (Zf (JB (ZL Zj ZV (QY (JU J7 Yw (by rfl) T.len Yg (Qap (QP (Yr Jk J4 (qp 3) (QP Jg) (λ_ _=>rfl))) Q7))) (QP Jg))) Jb)))) Qg3.nd)
   (QB (QbD (Ql6 (Qjn (Yk Qpv QbK (qp 4) (QY (JU J7 Yw (by rfl) T.len Yg (Qap (QP (Yr Jk J4 (qp 3) (QP Jg) (λ_ _=>rfl))) Q7))) (ZW _)) (QfT (Qa5 (QbC (QP (JZ G5 (hr.mono (by decide)) (by rfl) m5 k5 b5 JI (Zf (qv 3) (Zf (Yr Jk J4 (QP (Yr Jk J4 (qp 3) (QP Jg) (λ_ _=>rfl))) (qp 4) (λ_ _=>rfl)) Jb))))))))) (Q5 (YD Ql7)) Yl)
   (Q5 (QbD (Ql6 (Qik (Qa5 (QbC (QP (JZ G6 (hr.mono (by decide)) (by rfl) m6 k6 b6 JI (Zf (qv 3) Jb))))) (Qeh (Qa5 (QbC (QP (JZ G7 (hr.mono (by decide)) (by rfl) m7 k7 b7 JI (Zf (JZ G3 (hr.mono (by decide)) (by rfl) m3 k3 b3 JI (QcH 2 (Zf Jg Jb))) (Zf (JZ G3 (hr.mono (by decide)) (by rfl) m3 k3 b3 JI (QcH 2 (Zf Jg Jb))) Jb))))))))) (Q5 (YD Ql7)) Yl)))))))
   (Q5 (YD Ql7)),?_⟩
 intro n0 n63;refine⟨⟨by split<;>split<;>omega,by split<;>split<;>omega⟩,Qgg (λi δ=>∃x1 x2 x3 x4,δ=[.scr,x1,x2,x3,x4]) ⟨_,_,_,_,rfl⟩ ?_ ?_⟩
 ·rintro i δ hi ⟨x1,x2,x3,x4,rfl⟩;refine⟨by omega,λc=>⟨c,rfl,λn1=>?_⟩⟩;refine⟨6,rfl,by decide,by decide,λh w f h1 h6 w1 w6=>?_⟩;have ln:(cellsF h w f).length<=36:=QX (YN w f h) (Yo (show h<=6 by omega) (show w<=6 by omega));have lm:((cellsF h w f).map pairD).length=(cellsF h w f).length:=Qc _;refine⟨_,Q6 (j:=2) rfl,_,rfl,by omega,by omega,λa a0 a1=>?_⟩;refine⟨_,Q6 (j:=2) rfl,ifC (λz=>?_) λz=>?_⟩
  ·have z:=of_decide_eq_true z;obtain⟨k,rfl⟩:∃k:Nat,a=k:=⟨a.toNat,by omega⟩
   obtain⟨p,hp⟩:∃p,(cellsF h w f)[k]? = some p:=⟨_,Qe (by omega)⟩
   obtain⟨r,c,hr,hc,hf,rfl⟩:=JK.mp (Q8 hp);refine⟨_,Q6 (j:=2) rfl,pairD ((r:Int),(c:Int)),Q6 (by rw[Qo,hp];rfl),h,w,f,r,c,rfl,h1,by omega,w1,by omega,hr,hc,hf,?_⟩;refine⟨h,w,f,rfl,h1,by omega,w1,by omega,3,rfl,by decide,by decide,λa b f1 a1 a3 b1 b3=>⟨3,rfl,by decide,by decide,λa' b' f2 c1 c3 d1 d3=>?_⟩⟩;exact⟨a,b,f1,a',b',f2,rfl,a1,by omega,b1,by omega,c1,by omega,d1,by omega,_,_,_,_,rfl⟩
  ·refine⟨h,w,f,rfl,h1,by omega,w1,by omega,3,rfl,by decide,by decide,λa b f1 a1 a3 b1 b3=>⟨3,rfl,by decide,by decide,λa' b' f2 c1 c3 d1 d3=>?_⟩⟩;exact⟨a,b,f1,a',b',f2,rfl,a1,by omega,b1,by omega,c1,by omega,d1,by omega,_,_,_,_,rfl⟩
 ·rintro δ ⟨x1,x2,x3,x4,rfl⟩;rfl
end
section
variable{P:QC}{w:Jf}{K:PySem.W.Frag}{mg:Str->Option Value}{base:Heap}
theorem Qwc:Jl ["lines"] ["lines"] (Qm sHow):=⟨rfl,rfl,rfl,by decide +kernel,rfl,by decide +kernel,by decide +kernel⟩
theorem Qxd{f   : Addr}{fd  : QL}(F:Fun K "how_many_lines" "how_many_lines" sHow f fd)(T:GlbA mg) :
  FnOk P w K mg base CX0 1 f fd ["lines"] (JO false Qz8):=by
 refine okQ false F Qwc (λargs R EX h=>?_) (λcdv A outer s H E hr=>?_)
 ·obtain⟨rows,ms,rfl,_⟩:=h;rfl
 ·have hU:=Room.u60 hr;have hI:=Room.i60 hr;refine⟨_,Q5 (Z1 (ZL Zj ZV (QY (JU J7 Yw (by rfl) T.len Yg (Qap (QP (Yr Jk J4 (qp 0) (QP Jg) (λ_ _=>rfl))) Q7))) (QY (JU J7 Yw (by rfl) T.len Yg (Qap (QP (Yr Jk J4 (qp 0) (QP Jg) (λ_ _=>rfl))) Q7))))),λargs R EX h=>?_⟩;obtain⟨rows,ms,rfl,hR⟩:=h;refine⟨_,Q6 (j:=0) rfl,_,Q6 (j:=1) rfl,?_⟩;show R (.int (((rows.map Qg).length:Int)+((ms.map λ(x:Nat)=>Qg x).length:Int)));rw[Qc,Qc];exact hR
theorem QpO:(["rows", "row"]:List Str).Nodup:=by decide +kernel
theorem QfP:Jl ["high", "lots", "row"] ["high"] (Qm Qkl):=⟨rfl,rfl,rfl,by decide +kernel,rfl,by decide +kernel,by decide +kernel⟩
theorem Quj{f   : Addr}{fd  : QL}(F:Fun K "lots_of_rows" "lots_of_rows" Qkl f fd)(T:GlbA mg) :
  FnOk P w K mg base CX0 1 f fd ["high"] (JO false Qiv):=by
 refine okQ false F QfP (λargs R EX h=>?_) (λcdv A outer s H E hr=>?_)
 ·obtain⟨h,rfl,_⟩:=h;rfl
 ·have hU:=Room.u60 hr;have hI:=Room.i60 hr;refine⟨_,QB (Za 1 (JB (Qb6 (Y0 (JB (QaH Q7)) Q7))) QfP.nd)
   (QB (QbE Jt rfl (QbF (by rfl) T.range (qp 0)) (ZK 2 QfP.nd rfl (by first | exact Q2 rfl | exact QZ rfl))
    (Q5 (Za 1 (JB (ZL Zj ZV (qp 1) (QY (YL ["rows", "row"] [none,some 2] (QaT (qp 1)) (λcl ex s3 H3 C=>⟨(ZK 0 QpO rfl (Q2 rfl) (QZ rfl)),Yy,(JB (ZL Zj ZV (qp 0) (QY (QaH (Y0 (qv 1) Q7)))))⟩))))) QfP.nd)))
   (Q5 (YD (qv 1)))),λargs R EX h=>?_⟩
  obtain⟨h,rfl,h6,hR⟩:=h;refine⟨⟨by omega,by omega⟩,Qgg (λi δ=>∃x2,δ=[.v (.int h),.v (.list ((lotsN i).map tN)),x2]) ⟨_,rfl⟩ ?_ ?_⟩
  ·rintro i δ hi ⟨x2,rfl⟩;rw[QV] at hi;have l1:=Qer i;have l2:=Qzw (show i<=6 by omega);refine Qaq (λd=>tN (Qdd d++[(0+(i:Int))])) (λd hd k2 hk=>?_) ?_
   ·obtain⟨r,hr,rfl⟩:=Qt.mp hd;have hk:k2 (tN (Qdd (tN r)++[(0+(i:Int))])):=hk;rw[QdR] at hk;have rl:=(Qf9 hr).2.2;refine⟨by rw[Qc];show _+1<=_;omega,?_⟩;rw[show r.map Qg++[Qg (0+(i:Int))]=(r++[(0+(i:Int))]).map Qg by rw[Jj];rfl];exact hk
   ·refine⟨by rw[Qc,Qc,Qc];omega,.v (.int (0+(i:Int))),?_⟩;have e:((lotsN i).map tN).map (λd=>tN (Qdd d++[(0+(i:Int))]))=((lotsN i).map λr=>r++[(i:Int)]).map tN:=by
     rw[QN,QN];refine JD λr _=>?_
     show tN (Qdd (tN r)++[(0+(i:Int))])=tN (r++[(i:Int)]);rw[QdR,show(0:Int)+(i:Int)=(i:Int) by omega]
    rw[e,<- Jj];rfl
  ·rintro δ ⟨x2,rfl⟩;rw[QV];exact hR
theorem Qkv:(["rows", "board"]:List Str).Nodup:=by decide +kernel
theorem QlR:Jl ["board"] ["board"] (Qm sFew):=⟨rfl,rfl,rfl,by decide +kernel,rfl,by decide +kernel,by decide +kernel⟩
theorem QmC{f f1 f2 f3  : Addr}{fd fd1 fd2 fd3:QL}(F:Fun K "fewest_lines" "fewest_lines" sFew f fd)(T:GlbA mg)
  (m1:mg "lines_with" = some (.ref f1))(G1:FnOk P w K mg base CX0 1 f1 fd1 ["board", "rows"] (JO false lwD))(b1:Binds K fd1 ["board", "rows"] [])(k1:PySem.W.keepIn K (.ref f1)=true)
  (m2:mg "lots_of_rows" = some (.ref f2))(G2:FnOk P w K mg base CX0 1 f2 fd2 ["high"] (JO false Qiv))(b2:Binds K fd2 ["high"] [])(k2:PySem.W.keepIn K (.ref f2)=true)
  (m3:mg "how_many_lines" = some (.ref f3))(G3:FnOk P w K mg base CX0 1 f3 fd3 ["lines"] (JO false Qz8))(b3:Binds K fd3 ["lines"] [])(k3:PySem.W.keepIn K (.ref f3)=true) :
  FnOk P w K mg base CX0 3 f fd ["board"] (JO false Qni):=by
 refine okQ false F QlR (λargs R EX h=>?_) (λcdv A outer s H E hr=>?_)
 ·obtain⟨h,w,cs,rfl,_⟩:=h;rfl
 ·have hU:=Room.u60 hr;have hI:=Room.i60 hr;refine⟨_,Q5 (YD (Qws G3 (hr.mono (by decide)) (by rfl) T.min (by rfl) m3 b3 (QY (YL ["rows", "board"] [none,some 0] (QaT (QP (JZ G2 (hr.mono (by decide)) (by rfl) m2 k2 b2 JI (Zf (Yr Jk J4 (qp 0) (QP Jg) (λ_ _=>rfl)) Jb)))) (λcl ex s3 H3 C=>⟨(ZK 0 Qkv rfl (Q2 rfl) (QZ rfl)),Yy,(JZ G1 (hr.mono (by decide)) (by rfl) m1 k1 b1 JI (Zf (qv 1) (Zf (qv 0) Jb)))⟩))))),λargs R EX h=>?_⟩;obtain⟨h,w,cs,rfl,g,hR⟩:=h;have h6:=g.bds.1;have l1:=Qer h;have l0:0<2^h:=Qcz h;refine⟨_,Q6 (j:=0) rfl,h,rfl,h6,?_⟩;refine Qaq (λd=>lnK (Qdd d) (colK cs (Qdd d))) (λd hd k2 hk=>?_) ?_
  ·obtain⟨r,hr,rfl⟩:=Qt.mp hd;have hk:k2 (lnK (Qdd (tN r)) (colK cs (Qdd (tN r)))):=hk;rw[QdR] at hk;exact⟨_,_,_,r,rfl,QBO g,hk⟩
  ·have e:((lotsN h).map tN).map (λd=>lnK (Qdd d) (colK cs (Qdd d)))=(lotsN h).map λr=>lnK r (colK cs r):=by
    rw[QN];exact JD λr _=>by show lnK (Qdd (tN r)) (colK cs (Qdd (tN r)))=_;rw[QdR]
   rw[e];refine Qut (λi=>((Qu1 cs ((lotsN h).getD i []):Nat):Int)) (λz=>by have:=congrArg List.length z;rw[Qc] at this;have:(lotsN h).length=0:=this;omega) (λi d hd=>?_) λd hd=>?_
   ·rw[Qo] at hd;obtain⟨r,hr,rfl⟩:∃r,(lotsN h)[i]? = some r/\d=lnK r (colK cs r):=by
     cases z:(lotsN h)[i]? with
     |none=>rw[z] at hd;cases hd
     |some r=>rw[z] at hd;cases hd;exact⟨r,rfl,rfl⟩
    refine⟨r,_,rfl,?_⟩;show Qg _=Qg ((Qu1 cs ((lotsN h).getD i []):Nat):Int);rw[Qd,hr];show Qg _=Qg ((r.length+(colK cs r).length:Nat):Int);rw[Qah]
   ·rw[Qc,Qo] at hd;have hd:((lotsN h)[Qyx cs h]?).map (λr=>lnK r (colK cs r))=some d:=hd;have fr:QuL cs h=((lotsN h)[Qyx cs h]?).getD []:=by unfold QuL;rw[Qd]
    cases z:(lotsN h)[Qyx cs h]? with
    |none=>rw[z] at hd;cases hd
    |some r=>
     rw[z] at hd fr;cases hd;have fr:QuL cs h=r:=fr;rw[fr] at hR;exact hR
end
def Qif:DF:=λargs R _=>∃(h w m:Nat)(cs L:List (Int×Int)),args=[.v (bdD h w cs)]/\GB h w cs/\Great cs h w m/\(evS cs m)[0]? = some L/\R (.tuple [stT L,lnK (QuL cs h) (colK cs (QuL cs h))])
theorem Qna{cs:List (Int×Int)}{h w m n:Nat}(a:Great cs h w m)(b:Great cs h w n):m=n:=QvH (b.2.2 m a.1 a.2.1) (a.2.2 n b.1 b.2.1)
theorem Qgd{h w:Nat}{cs:List (Int×Int)}(g:GB h w cs){m:Nat}(gm:Great cs h w m):∃L,(evS cs m)[0]? = some L/\Std cs L/\L.length=m:=by
 have:=gm.2.1;rw[Qdl g] at this;have hl:0<(evS cs m).length:=by omega
 have e:(evS cs m)[0]? = some (evS cs m)[0]:=Qe hl;obtain⟨st,lk⟩:=(Qdz g.r0 m _).mp (Q8 e);exact⟨_,e,st,lk⟩
theorem QrC(P:Nat->Prop):∀n:Nat,(∃k,k<=n/\P k)->∃m,m<=n/\P m/\∀k,k<=n->P k->k<=m
 |0,⟨k,hk,hp⟩=>by
  obtain rfl:k=0:=by omega
  exact⟨0,Qh _,hp,λk hk _=>hk⟩
 |n+1,⟨k,hk,hp⟩=>by
  by_cases z:P (n+1)
  ·exact⟨n+1,Qh _,z,λk hk _=>hk⟩
  ·have hk2:k<=n:=by
    rcases Qe3 k (n+1) with y | y
    ·omega
    ·obtain rfl:k=n+1:=by omega
     exact absurd hp z
   obtain⟨m,h1,h2,h3⟩:=QrC P n ⟨k,hk2,hp⟩;refine⟨m,by omega,h2,λk hk hp=>?_⟩;rcases Qe3 k (n+1) with y | y
   ·exact h3 k (by omega) hp
   ·obtain rfl:k=n+1:=by omega
    exact absurd hp z
theorem Qex{h w:Nat}{cs:List (Int×Int)}(g:GB h w cs):∃m,Great cs h w m:=
 let ⟨m,h1,h2,h3⟩:=QrC (λk=>0<Wc cs h h 0 k) (min h w) ⟨0,Jc _,by rw[Qdl g];show(0:Int)<((1:Nat):Int);decide⟩
 ⟨m,h1,h2,h3⟩
section
variable{P:QC}{w:Jf}{K:PySem.W.Frag}{mg:Str->Option Value}{base:Heap}
theorem Qs3:Jl ["board"] ["board"] (Qm Qkf):=⟨rfl,rfl,rfl,by decide +kernel,rfl,by decide +kernel,by decide +kernel⟩
theorem Qub{f f1 f2 f3  : Addr}{fd fd1 fd2 fd3:QL}(F:Fun K "showing" "showing" Qkf f fd)(T:GlbA mg)
  (m1:mg "stand_at" = some (.ref f1))(G1:FnOk P w K mg base CX0 4 f1 fd1 ["board", "size", "number"] (JO false QfL))(b1:Binds K fd1 ["board", "size", "number"] [])(k1:PySem.W.keepIn K (.ref f1)=true)
  (m2:mg "greatest_size" = some (.ref f2))(G2:FnOk P w K mg base CX0 4 f2 fd2 ["board"] (JO false Qnb))(b2:Binds K fd2 ["board"] [])(k2:PySem.W.keepIn K (.ref f2)=true)
  (m3:mg "fewest_lines" = some (.ref f3))(G3:FnOk P w K mg base CX0 3 f3 fd3 ["board"] (JO false Qni))(b3:Binds K fd3 ["board"] [])(k3:PySem.W.keepIn K (.ref f3)=true) :
  FnOk P w K mg base CX0 5 f fd ["board"] (JO false Qif):=by
 refine okQ false F Qs3 (λargs R EX h=>?_) (λcdv A outer s H E hr=>?_)
 ·obtain⟨h,w,m,cs,L,rfl,_⟩:=h;rfl
 ·have hU:=Room.u60 hr;have hI:=Room.i60 hr;refine⟨_,Q5 (Z1 (QaH (Y0 (JZ G1 (hr.mono (by decide)) (by rfl) m1 k1 b1 JI (Zf (qv 0) (Zf (JZ G2 (hr.mono (by decide)) (by rfl) m2 k2 b2 JI (Zf (qv 0) Jb)) (Zf Jg Jb)))) (Y0 (JZ G3 (hr.mono (by decide)) (by rfl) m3 k3 b3 JI (Zf (qv 0) Jb)) Q7)))),λargs R EX h=>?_⟩;obtain⟨h,w,m,cs,L,rfl,g,gm,eL,hR⟩:=h;refine⟨_,_,_,rfl,g.bds,λm2 gm2=>?_⟩;obtain rfl:=Qna gm gm2;refine⟨h,w,cs,m,0,L,rfl,g,gm.1,eL,?_⟩;exact⟨_,_,_,rfl,g,hR⟩
end
theorem Qe8{F:Nat->Int}{n m:Nat}(h:n<=m)(z:∀i,n<=i->i<m->F i=0):sumN m F=sumN n F:=by
 obtain⟨k,rfl⟩:∃k,m=n+k:=⟨m - n,by omega⟩
 clear h;induction k with
 |zero=>rfl
 |succ k ih=>
  show sumN (n+k) F+F (n+k)=_;rw[z (n+k) (by omega) (by omega),ih λi h1 h2=>z i h1 (by omega)];omega
theorem Qgf{l:List Int}{k:Nat}(h:l.length<=k):l.getD k 0=0:=by rw[Qd,QJ h];rfl
theorem cw_get{a b:List Int}(a1:1<=a.length)(b1:1<=b.length)(k:Nat):(cwS a b).getD k 0=sumN (k+1) λj=>a.getD j 0*b.getD (k - j) 0:=by
 have e1:(sumN a.length λi=>cwT a b i k)=sumN (max a.length (k+1)) λi=>cwT a b i k:=(Qe8 (by omega) λi h1 h2=>by
  unfold cwT;split
  ·rw[Qgf h1];omega
  ·rfl).symm
 have e2:(sumN (k+1) λj=>a.getD j 0*b.getD (k - j) 0)=sumN (max a.length (k+1)) λi=>cwT a b i k:=by
  rw[Qe8 (n:=k+1) (m:=max a.length (k+1)) (F:=λi=>cwT a b i k) (by omega) λi h1 h2=>by unfold cwT;rw[if_neg (by omega)]];refine Z0 λj hj=>?_
  unfold cwT;rw[if_pos (by omega)]
 unfold cwS;by_cases z:k<a.length+b.length - 1
 ·rw[Qge z,e1,e2]
 ·rw[Qey (by omega)]
  symm
  refine QdO λj hj=>?_
  by_cases y:j<a.length
  ·rw[Qgf (l:=b) (by omega)];omega
  ·rw[Qgf (l:=a) (by omega)];omega
theorem QlD{h w:Nat}{M:List (Int×Int)}(pw:M.Pairwise plt)(hb:∀p∈M,0<=p.1/\p.1<h/\0<=p.2/\p.2<w):M=cellsF h w λr c=>decide (((r:Int),(c:Int))∈M):=by
 refine Zy (le:=plt) (λa b _ _ h1 h2=>by rcases h1 with x | x<;>rcases h2 with y | y<;>omega) pw (pw_cellsF w _ h) ((Je (pw.imp plt_ne) (nd_cellsF h w _)).mpr λp=>?_);rw[JK];constructor
 ·intro hp;have b:=hb p hp;refine⟨p.1.toNat,p.2.toNat,by omega,by omega,?_,?_⟩
  ·rw[decide_eq_true_eq,Zx b.1,Zx b.2.2.1];exact hp
  ·rw[Zx b.1,Zx b.2.2.1]
 ·rintro⟨r,c,_,_,hf,rfl⟩;exact of_decide_eq_true hf
def inLs(S:List (List (Int×Int)))(r c:Nat):Bool:=S.any λL=>decide (((r:Int),(c:Int))∈L)
theorem QcK{S:List (List (Int×Int))}{r c:Nat}:inLs S r c=true↔∃L∈S,((r:Int),(c:Int))∈L:=by
 unfold inLs;rw[Yj];exact⟨λ⟨L,h,q⟩=>⟨L,h,of_decide_eq_true q⟩,λ⟨L,h,q⟩=>⟨L,h,decide_eq_true q⟩⟩
theorem QbH{cs L:List (Int×Int)}(h:Pce cs L){p:Int×Int}(hp:p∈L):p∈cs:=by
 obtain⟨x,hx,q⟩:=h.has;exact((q p).mp hp).right
theorem Qhd{cs L M:List (Int×Int)}(hL:Pce cs L)(hM:Pce cs M)(ne:L≠M){p q:Int×Int}(hp:p∈L)(hq:q∈M):Qcc p q=false:=by
 cases e:Qcc p q with
 |false=>rfl
 |true=>
  obtain⟨x,_,hx⟩:=hL.has;exact absurd (hL.same hM ((hx q).mpr (((hx p).mp hp).step (QbH hM hq) e)) hq) ne
theorem Qvg{r c d:Nat}:Qcc ((r:Int),(c:Int)) ((r:Int),(d:Int))=true:=by unfold Qcc;simp
theorem Qvi{r q c:Nat}:Qcc ((r:Int),(c:Int)) ((q:Int),(c:Int))=true:=by unfold Qcc;simp
theorem Qvj{h w:Nat}(h6:h<=6){cs L:List (Int×Int)}{S:List (List (Int×Int))}(hL:Pce cs L)(hS:∀M∈S,Pce cs M/\L≠M)(k:Nat):Wc (cellsF h w (inLs (S++[L]))) h h 0 k=sumN (k+1) λj=>Wc (cellsF h w (inLs S)) h h 0 j*Wc (cellsF h w (inLs [L])) h h 0 (k - j):=by
 have e:(sumN (k+1) λj=>Wc (cellsF h w (inLs S)) h h 0 j*Wc (cellsF h w (inLs [L])) h h 0 (k - j))=sumN (k+1) λj=>Pf (inLs S) (Qp h) (Qp w) j*Pf (inLs [L]) (Qp h) (Qp w) (k - j):=Z0 λj _=>by rw[QaW,QaW,QaM ⟨h,by omega⟩]
 rw[e,QaW,QaM ⟨h,by omega⟩,<- Qgx]
 ·refine Qbi λr _ c _=>?_
  unfold inLs;rw[List.any_append]
 ·intro r _;by_cases z:∀c∈Qp w,inLs [L] r c=false
  ·exact .inl z
  ·refine .inr λd _=>?_
   obtain⟨c,hc⟩:∃c,inLs [L] r c=true:=by
    refine YB λq=>z λc _=>?_
    cases e:inLs [L] r c with
    |false=>rfl
    |true=>exact absurd ⟨c,e⟩ q
   obtain⟨L',hL',m1⟩:=QcK.mp hc;rw[Qx.mp hL'] at m1;cases e:inLs S r d with
   |false=>rfl
   |true=>
    obtain⟨M,hM,m2⟩:=QcK.mp e;have:=Qhd hL (hS M hM).1 (hS M hM).2 m1 m2;rw[Qvg] at this;cases this
 ·intro c _;by_cases z:∀r∈Qp h,inLs [L] r c=false
  ·exact .inl z
  ·refine .inr λq _=>?_
   obtain⟨r,hr⟩:∃r,inLs [L] r c=true:=by
    refine YB λq=>z λr _=>?_
    cases e:inLs [L] r c with
    |false=>rfl
    |true=>exact absurd ⟨r,e⟩ q
   obtain⟨L',hL',m1⟩:=QcK.mp hr;rw[Qx.mp hL'] at m1;cases e:inLs S q c with
   |false=>rfl
   |true=>
    obtain⟨M,hM,m2⟩:=QcK.mp e;have:=Qhd hL (hS M hM).1 (hS M hM).2 m1 m2;rw[Qvi] at this;cases this
theorem QmV{T:List (List (Int×Int))}(h:T.Pairwise QkZ):T.Nodup:=QgO (R:=QkZ) (S:=λa b=>a≠b) (λ{S T} z (e:S=T)=>Qiy S (by rw[<- e] at z;exact z)) h
theorem Qhc{cs:List (Int×Int)}{S T:List (List (Int×Int))}(hs:∀L∈S,Pce cs L)(ht:∀L∈T,Pce cs L)(cS:∀y∈cs,∃L∈S,y∈L)(cT:∀y∈cs,∃L∈T,y∈L)(nS:S.Nodup)(nT:T.Nodup):S.Perm T:=by
 have sub:∀{S T:List (List (Int×Int))},(∀L∈S,Pce cs L)->(∀L∈T,Pce cs L)->(∀y∈cs,∃L∈T,y∈L)->∀L∈S,L∈T:=λ{S T} hs ht cT L hL=>by
  obtain⟨a,ha,hh⟩:=(hs L hL).has;obtain⟨M,hM,am⟩:=cT a ha;rw[(hs L hL).same (ht M hM) ((hh a).mpr (.refl ha)) am];exact hM
 exact(Je nS nT).mpr λL=>⟨sub hs ht cT L,sub ht hs cS L⟩
theorem QiD{cs:List (Int×Int)}:∀{T:List (List (Int×Int))},(∀L∈T,Pce cs L)->T.Nodup->T.flatten.Nodup
 |[],_,_=>List.nodup_nil
 |L::T,h,nd=>by
  have nd:=Zn.mp nd;rw[Ju];refine Zv.mpr ⟨(h L (.head _)).srt.imp plt_ne,QiD (λM hM=>h M (.tail _ hM)) nd.2,λa ha b hb e=>?_⟩;obtain⟨M,hM,hm⟩:=Qe4.mp hb;rw[<- e] at hm;have:=(h L (.head _)).same (h M (.tail _ hM)) ha hm;rw[this] at nd;exact nd.1 hM
theorem Qlt:∀T:List (List (Int×Int)),(T.map λL=>((L.length:Nat):Int)).sum=((T.flatten.length:Nat):Int)
 |[]=>rfl
 |L::T=>by rw[JF,QbQ,Qlt T,Ju,Qr];omega
theorem Qpr{cs:List (Int×Int)}{T:List (List (Int×Int))}(srt:cs.Pairwise plt)(h:∀L∈T,Pce cs L)(c:∀y∈cs,∃L∈T,y∈L)(nd:T.Nodup):(T.map λL=>((L.length:Nat):Int)).sum=((cs.length:Nat):Int):=by
 rw[Qlt];have:T.flatten.Perm cs:=(Je (QiD h nd) (srt.imp plt_ne)).mpr λp=>by
  rw[Qe4];exact⟨λ⟨L,hL,hp⟩=>QbH (h L hL) hp,λhp=>c p hp⟩
 rw[this.length_eq]
theorem Qps{cs:List (Int×Int)}{T:List (List (Int×Int))}(srt:cs.Pairwise plt)(h:∀L∈T,Pce cs L)(c:∀y∈cs,∃L∈T,y∈L)(nd:T.Nodup):T.length<=cs.length:=by
 have:T.flatten.Perm cs:=(Je (QiD h nd) (srt.imp plt_ne)).mpr λp=>by
  rw[Qe4];exact⟨λ⟨L,hL,hp⟩=>QbH (h L hL) hp,λhp=>c p hp⟩
 rw[<- this.length_eq];clear this c nd;induction T with
 |nil=>exact Qh _
 |cons L T ih=>
  have:=ih λM hM=>h M (.tail _ hM)
  have l1:=Qn5.mpr (h L (.head _)).ne;rw[Ju,Qr,QF];omega
def sw4(p:Int×Int):Int×Int:=(p.2,p.1)
def swL(h w:Nat)(L:List (Int×Int)):List (Int×Int):=cellsF w h λr c=>decide (((c:Int),(r:Int))∈L)
theorem Qep{h w:Nat}{L:List (Int×Int)}(hb:∀p∈L,0<=p.1/\p.1<h/\0<=p.2/\p.2<w){p:Int×Int}:p∈swL h w L↔sw4 p∈L:=by
 unfold swL;rw[JK];constructor
 ·rintro⟨r,c,_,_,q,rfl⟩;exact of_decide_eq_true q
 ·intro hp;have b:=hb _ hp;have b1:0<=p.2/\p.2<h:=⟨b.1,b.2.1⟩;have b2:0<=p.1/\p.1<w:=⟨b.2.2.1,b.2.2.2⟩;obtain⟨x,y⟩:=p;have b1:0<=y/\y<h:=b1;have b2:0<=x/\x<w:=b2;refine⟨x.toNat,y.toNat,by omega,by omega,decide_eq_true ?_,?_⟩
  ·rw[Zx b1.1,Zx b2.1];exact hp
  ·rw[Zx b1.1,Zx b2.1]
theorem Qf7{h w:Nat}{f:Nat->Nat->Bool}{p:Int×Int}:p∈cellsF w h (tF f)↔sw4 p∈cellsF h w f:=by
 rw[JK,JK];constructor
 ·rintro⟨r,c,hr,hc,hf,rfl⟩;exact⟨c,r,hc,hr,hf,rfl⟩
 ·rintro⟨r,c,hr,hc,hf,e⟩;obtain⟨a,b⟩:=p;have e1:b=(r:Int):=(Zs e).1;have e2:a=(c:Int):=(Zs e).2;subst e1 e2;exact⟨c,r,hc,hr,hf,rfl⟩
theorem Qx5(p q:Int×Int):Qcc (sw4 p) (sw4 q)=Qcc p q:=by
 show(decide (p.2=q.2)||decide (p.1=q.1))=(decide (p.1=q.1)||decide (p.2=q.2));rw[Bool.or_comm]
theorem QrN{cs ds:List (Int×Int)}(h:∀p,p∈cs->sw4 p∈ds){a b:Int×Int}(r:Rch cs a b):Rch ds (sw4 a) (sw4 b):=by
 induction r with
 |refl ha=>exact .refl (h _ ha)
 |step _ hc ad ih=>exact ih.step (h _ hc) (by rw[Qx5];exact ad)
theorem QtX{h w:Nat}{f:Nat->Nat->Bool}{L:List (Int×Int)}(hL:Pce (cellsF h w f) L):Pce (cellsF w h (tF f)) (swL h w L):=by
 have hb:∀p∈L,0<=p.1/\p.1<h/\0<=p.2/\p.2<w:=λp hp=>Zh (QbH hL hp)
 obtain⟨x,hx,q⟩:=hL.has;refine⟨pw_cellsF _ _ _,sw4 x,Qf7.mpr hx,λy=>?_⟩;rw[Qep hb,q];constructor
 ·intro r;exact QrN (ds:=cellsF w h (tF f)) (λp hp=>Qf7.mpr hp) r
 ·intro r;exact QrN (ds:=cellsF h w f) (λp hp=>Qf7.mp hp) r
theorem QsV{h w:Nat}{L:List (Int×Int)}(nd:L.Nodup)(hb:∀p∈L,0<=p.1/\p.1<h/\0<=p.2/\p.2<w):(swL h w L).length=L.length:=by
 have n2:(L.map sw4).Nodup:=JR.mpr (nd.imp λ{a b} hne e=>hne (QdK (Zs e).2 (Zs e).1));have:(swL h w L).Perm (L.map sw4):=(Je (nd_cellsF _ _ _) n2).mpr λp=>by
  show p∈swL h w L↔_;rw[Qep hb,Qt];exact⟨λhp=>⟨_,hp,rfl⟩,λ⟨q,hq,e⟩=>by rw[<- e];exact hq⟩
 rw[this.length_eq,Qc]
theorem Qll{h w:Nat}{f:Nat->Nat->Bool}{T U:List (List (Int×Int))}(hT:∀L∈T,Pce (cellsF h w f) L)(cT:∀y∈cellsF h w f,∃L∈T,y∈L)(nT:T.Nodup)(hU:∀L∈U,Pce (cellsF w h (tF f)) L)(cU:∀y∈cellsF w h (tF f),∃L∈U,y∈L)(nU:U.Nodup):(U.map λL=>((L.length:Nat):Int)).Perm (T.map λL=>((L.length:Nat):Int)):=by
 have bd:∀L∈T,∀p∈L,0<=p.1/\p.1<h/\0<=p.2/\p.2<w:=λL hL p hp=>Zh (QbH (hT L hL) hp)
 have p:U.Perm (T.map (swL h w)):=by
  refine Qhc hU (λL hL=>?_) cU (λy hy=>?_) nU ?_
  ·obtain⟨M,hM,rfl⟩:=Qt.mp hL;exact QtX (hT M hM)
  ·obtain⟨L,hL,q⟩:=cT _ (Qf7.mp hy);exact⟨_,Qt.mpr ⟨L,hL,rfl⟩,(Qep (bd L hL)).mpr q⟩
  ·refine JR.mpr (Yz (λ{a b} ha hb hne e=>hne ?_) nT);refine Qf0 (hT a ha).srt (hT b hb).srt λy=>?_
   have e1:=Qep (bd a ha) (p:=sw4 y);have e2:=Qep (bd b hb) (p:=sw4 y);rw[e] at e1;exact e1.symm.trans e2
 refine(p.map _).trans ?_
 rw[QN];refine List.Perm.of_eq (JD λL hL=>?_);show(((swL h w L).length:Nat):Int)=_;rw[QsV ((hT L hL).srt.imp plt_ne) (bd L hL)]
theorem QbP{f:Nat->Nat->Bool}{R C:List Nat}{k:Nat}:∀{S:List Nat},(∀r∈S,∀c∈C,f r c=false)->Pf f (S++R) C k=Pf f R C k
 |[],_=>rfl
 |r::S,h=>by
  rw[List.cons_append,Qgy (h r (.head _)),QbP λr' hr'=>h r' (.tail _ hr')]
theorem QhL{f:Nat->Nat->Bool}{R C D:List Nat}{k:Nat}(nR:R.Nodup)(nDC:(D++C).Nodup)(h:∀r∈R,∀c∈D,f r c=false):Pf f R (D++C) k=Pf f R C k:=by
 rw[Qdn f (D++C) R k nDC nR,Qdn f C R k (Zv.mp nDC).2.1 nR];exact QbP λc hc r hr=>h r hr c hc
theorem QcG(a b:Nat):(Qp (a+b)).Perm ((Qp b).map (a+·)++Qp a):=by
 rw[List.range_add];exact Qcr
theorem QoD(a b:Nat):((Qp b).map (a+·)).Nodup:=JR.mpr (JQ.imp λh e=>h (by omega))
theorem Qsr(a b:Nat):((Qp b).map (a+·)++Qp a).Nodup:=(QcG a b).nodup_iff.mp JQ
theorem QnX{h w:Nat}{f:Nat->Nat->Bool}{h2 w2:Nat}{g:Nat->Nat->Bool}(h3:h<=3)(h23:h2<=3)(k:Nat):Wc (cellsF (h+h2) (w+w2) (QkN h w f g)) (h+h2) (h+h2) 0 k=sumN (k+1) λj=>Wc (cellsF h w f) h h 0 j*Wc (cellsF h2 w2 g) h2 h2 0 (k - j):=by
 have eA:∀j,Pf (λr c=>decide (r<h/\c<w)&&f r c) (Qp (h+h2)) (Qp (w+w2)) j=Wc (cellsF h w f) h h 0 j:=λj=>by
  rw[QaW,QaM ⟨h,by omega⟩,QeL _ _ _ _ j (QcG w w2),Qd1 _ j (QcG h h2) JQ (Qsr w w2),QbP λr hr c hc=>?_,QhL JQ (Qsr w w2) λr hr c hc=>?_]
  ·refine Qbi λr hr c hc=>?_
   rw[decide_eq_true ⟨QM.mp hr,QM.mp hc⟩];rfl
  ·obtain⟨x,_,rfl⟩:=Qt.mp hc;rw[decide_eq_false (by omega)];rfl
  ·obtain⟨x,_,rfl⟩:=Qt.mp hr;rw[decide_eq_false (by omega)];rfl
 have eB:∀j,Pf (λr c=>decide (h<=r/\w<=c)&&g (r - h) (c - w)) (Qp (h+h2)) (Qp (w+w2)) j=Wc (cellsF h2 w2 g) h2 h2 0 j:=λj=>by
  have p1:=(QcG h h2).trans Qcr;have p2:=(QcG w w2).trans Qcr;have n2:=p2.nodup_iff.mp JQ;rw[QaW,QaM ⟨h2,by omega⟩,QeL _ _ _ _ j p2,Qd1 _ j p1 JQ n2,QbP λr hr c hc=>?_,QhL (QoD h h2) n2 λr hr c hc=>?_]
  ·have:=QjS (λr c=>decide (h<=r/\w<=c)&&g (r - h) (c - w)) (h+·) (w+·) (Qp h2) (Qp w2) j λx _ y _ e=>by omega
   rw[<- this];refine Qbi λr _ c _=>?_
   show(decide (h<=h+r/\w<=w+c)&&g (h+r - h) (w+c - w))=g r c;rw[decide_eq_true (by omega),ZO,ZO];rfl
  ·have:=QM.mp hc;rw[decide_eq_false (by omega)];rfl
  ·have:=QM.mp hr;rw[decide_eq_false (by omega)];rfl
 have e:(sumN (k+1) λj=>Wc (cellsF h w f) h h 0 j*Wc (cellsF h2 w2 g) h2 h2 0 (k - j))=sumN (k+1) λj=>Pf (λr c=>decide (r<h/\c<w)&&f r c) (Qp (h+h2)) (Qp (w+w2)) j*Pf (λr c=>decide (h<=r/\w<=c)&&g (r - h) (c - w)) (Qp (h+h2)) (Qp (w+w2)) (k - j):=Z0 λj _=>by rw[eA,eB]
 rw[e,QaW,QaM ⟨h+h2,by omega⟩,<- Qgx]
 ·refine Qbi λr _ c _=>?_
  unfold QkN;by_cases z:r<h
  ·rw[if_pos z,decide_eq_false (p:=h<=r/\w<=c) (by omega),QhT,Qi1];by_cases y:c<w
   ·rw[decide_eq_true y,decide_eq_true (p:=r<h/\c<w) ⟨z,y⟩]
   ·rw[decide_eq_false y,decide_eq_false (p:=r<h/\c<w) λq=>y q.2]
  ·rw[if_neg z,decide_eq_false (p:=r<h/\c<w) (λq=>z q.1),QhT,Qi2];by_cases y:w<=c
   ·rw[decide_eq_true y,decide_eq_true (p:=h<=r/\w<=c) ⟨by omega,y⟩]
   ·rw[decide_eq_false y,decide_eq_false (p:=h<=r/\w<=c) λq=>y q.2]
 ·intro r _;by_cases z:r<h
  ·exact .inl λc _=>by rw[decide_eq_false (by omega)];rfl
  ·exact .inr λc _=>by rw[decide_eq_false (by omega)];rfl
 ·intro c _;by_cases z:c<w
  ·exact .inl λr _=>by rw[decide_eq_false (by omega)];rfl
  ·exact .inr λr _=>by rw[decide_eq_false (by omega)];rfl
theorem QfJ{F:Nat->Int}:∀{n:Nat},(∀i,i<n->0<=F i)->(0<sumN n F↔∃i,i<n/\0<F i)
 |0,_=>⟨λh=>absurd h (by show ¬(0:Int)<0;omega),λ⟨i,h,_⟩=>by omega⟩
 |n+1,h=>by
  have ih:=QfJ (F:=F) (n:=n) λi hi=>h i (by omega)
  have hn:=h n (by omega);have nn:0<=sumN n F:=by
   clear ih hn;induction n with
   |zero=>exact QgP _
   |succ n ih=>
    have:=ih λi hi=>h i (by omega)
    have:=h n (by omega);show 0<=sumN n F+F n;omega
  show 0<sumN n F+F n↔_;constructor
  ·intro q;by_cases z:0<F n
   ·exact⟨n,by omega,z⟩
   ·obtain⟨i,hi,p⟩:=ih.mp (by omega);exact⟨i,by omega,p⟩
  ·rintro⟨i,hi,p⟩;by_cases z:i=n
   ·subst z;omega
   ·have:=ih.mpr ⟨i,by omega,p⟩;omega
theorem QkC{h w:Nat}{f:Nat->Nat->Bool}{h2 w2:Nat}{g:Nat->Nat->Bool}(h3:h<=3)(w3:w<=3)(h23:h2<=3)(w23:w2<=3){a b:Nat}(ga:Great (cellsF h w f) h w a)(gb:Great (cellsF h2 w2 g) h2 w2 b):Great (cellsF (h+h2) (w+w2) (QkN h w f g)) (h+h2) (w+w2) (a+b):=by
 have g1:=Qn7 (h:=h) (w:=w) f (by omega) (by omega);have g2:=Qn7 (h:=h2) (w:=w2) g (by omega) (by omega);have nn:∀k j,0<=Wc (cellsF h w f) h h 0 j*Wc (cellsF h2 w2 g) h2 h2 0 (k - j):=λk j=>Int.mul_nonneg (Qj5 g1 j) (Qj5 g2 (k - j))
 refine⟨by have:=ga.1;have:=gb.1;omega,?_,λk _ hk=>?_⟩
 ·rw[QnX h3 h23];refine(QfJ λj _=>nn _ j).mpr ⟨a,by omega,?_⟩;rw[ZO];exact Int.mul_pos ga.2.1 gb.2.1
 ·rw[QnX h3 h23] at hk;obtain⟨j,hj,p⟩:=(QfJ λj _=>nn _ j).mp hk;have p1:0<Wc (cellsF h w f) h h 0 j:=by
   rcases Int.lt_or_le 0 (Wc (cellsF h w f) h h 0 j) with z | z
   ·exact z
   ·have:=Qj5 g1 j;rw[show Wc (cellsF h w f) h h 0 j=0 by omega,Int.zero_mul] at p;omega
  have p2:0<Wc (cellsF h2 w2 g) h2 h2 0 (k - j):=by
   rcases Int.lt_or_le 0 (Wc (cellsF h2 w2 g) h2 h2 0 (k - j)) with z | z
   ·exact z
   ·have:=Qj5 g2 (k - j);rw[show Wc (cellsF h2 w2 g) h2 h2 0 (k - j)=0 by omega,Int.mul_zero] at p;omega
  obtain⟨L,st,lk⟩:=(Qdg g1).mp p1;obtain⟨M,sm,lm⟩:=(Qdg g2).mp p2;have:=Qhq g1 ga st;have:=Qhq g2 gb sm;omega
theorem Qvh{h w:Nat}{p q:Int×Int}(h1:p.1<h)(h2:p.2<w)(k1:(h:Int)<=q.1)(k2:(w:Int)<=q.2):Qcc p q=false:=by
 unfold Qcc;rw[decide_eq_false (by omega),decide_eq_false (by omega)];rfl
theorem QnF{h w:Nat}{f:Nat->Nat->Bool}{h2 w2:Nat}{g:Nat->Nat->Bool}{S T U:List (List (Int×Int))}(hS:∀L∈S,Pce (cellsF h w f) L)(cS:∀y∈cellsF h w f,∃L∈S,y∈L)(nS:S.Nodup)(hT:∀L∈T,Pce (cellsF h2 w2 g) L)(cT:∀y∈cellsF h2 w2 g,∃L∈T,y∈L)(nT:T.Nodup)(hU:∀L∈U,Pce (cellsF (h+h2) (w+w2) (QkN h w f g)) L)(cU:∀y∈cellsF (h+h2) (w+w2) (QkN h w f g),∃L∈U,y∈L)(nU:U.Nodup):U.length=S.length+T.length:=by
 have bc:=QhI h w f h2 w2 g;rw[bc] at hU cU;have m1:∀{p:Int×Int},p∈cellsF h w f->p∈cellsF h w f++(cellsF h2 w2 g).map (shP h w):=λhp=>JT _ hp
 have m2:∀{p:Int×Int},p∈cellsF h2 w2 g->shP h w p∈cellsF h w f++(cellsF h2 w2 g).map (shP h w):=λhp=>Qu _ (Qt.mpr ⟨_,hp,rfl⟩)
 have far:∀{p q:Int×Int},p∈cellsF h w f->q∈cellsF h2 w2 g->Qcc p (shP h w q)=false:=λ{p q} hp hq=>by
  have a:=Zh hp;have b:=Zh hq;exact Qvh (h:=h) (w:=w) a.2.1 a.2.2.2 (show(h:Int)<=(h:Int)+q.1 by omega) (show(w:Int)<=(w:Int)+q.2 by omega)
 have r1:∀{a b:Int×Int},Rch (cellsF h w f++(cellsF h2 w2 g).map (shP h w)) a b->a∈cellsF h w f->Rch (cellsF h w f) a b:=λ{a b} r ha=>by
  induction r with
  |refl _=>exact .refl ha
  |step _ hc ad ih=>
   rcases Q0.mp hc with z | z
   ·exact ih.step z ad
   ·obtain⟨q,hq,rfl⟩:=Qt.mp z;rw[far ih.right hq] at ad;cases ad
 have sadj:∀p q,Qcc (shP h w p) (shP h w q)=Qcc p q:=λp q=>by
  unfold Qcc shP
  congr 1
  ·exact decide_eq_decide.mpr ⟨λe=>by have e:(h:Int)+p.1=(h:Int)+q.1:=e;omega,λe=>by show(h:Int)+p.1=(h:Int)+q.1;omega⟩
  ·exact decide_eq_decide.mpr ⟨λe=>by have e:(w:Int)+p.2=(w:Int)+q.2:=e;omega,λe=>by show(w:Int)+p.2=(w:Int)+q.2;omega⟩
 have sinj:∀{p q:Int×Int},shP h w p=shP h w q->p=q:=λ{p q} e=>by
  have e1:(h:Int)+p.1=(h:Int)+q.1:=(Zs e).1;have e2:(w:Int)+p.2=(w:Int)+q.2:=(Zs e).2;exact QdK (by omega) (by omega)
 have r2:∀{a b:Int×Int},Rch (cellsF h2 w2 g) a b->Rch (cellsF h w f++(cellsF h2 w2 g).map (shP h w)) (shP h w a) (shP h w b):=λ{a b} r=>by
  induction r with
  |refl ha=>exact .refl (m2 ha)
  |step _ hc ad ih=>exact ih.step (m2 hc) (by rw[sadj];exact ad)
 have r3:∀{x y:Int×Int},Rch (cellsF h w f++(cellsF h2 w2 g).map (shP h w)) x y->∀a,a∈cellsF h2 w2 g->x=shP h w a->∃b,y=shP h w b/\Rch (cellsF h2 w2 g) a b:=λ{x y} r=>by
  induction r with
  |refl _=>exact λa ha e=>⟨a,e,.refl ha⟩
  |step _ hc ad ih=>
   intro a ha e;obtain⟨b,rfl,rb⟩:=ih a ha e;rcases Q0.mp hc with z | z
   ·have:=far z rb.right;rw[Qd0 ad] at this;cases this
   ·obtain⟨q,hq,rfl⟩:=Qt.mp z;exact⟨q,rfl,rb.step hq (by rw[<- sadj];exact ad)⟩
 have p:U.Perm (S++T.map λL=>L.map (shP h w)):=by
  refine Qhc hU (λL hL=>?_) cU (λy hy=>?_) nU (Zv.mpr ⟨nS,JR.mpr (nT.imp λ{a b} hne e=>hne ?_),λa ha b hb e=>?_⟩)
  ·rcases Q0.mp hL with z | z
   ·obtain⟨x,hx,q⟩:=(hS L z).has;refine⟨(hS L z).srt,x,m1 hx,λy=>?_⟩;rw[q];exact⟨λr=>r.mono λ_ hp=>m1 hp,λr=>r1 r hx⟩
   ·obtain⟨M,hM,rfl⟩:=Qt.mp z;obtain⟨x,hx,q⟩:=(hT M hM).has;refine⟨JR.mpr ((hT M hM).srt.imp λ{a b} hp=>?_),shP h w x,m2 hx,λy=>?_⟩
    ·show(h:Int)+a.1<(h:Int)+b.1∨((h:Int)+a.1=(h:Int)+b.1/\(w:Int)+a.2<(w:Int)+b.2);rcases hp with x | x
     ·exact .inl (by omega)
     ·exact .inr ⟨by omega,by omega⟩
    ·rw[Qt];constructor
     ·rintro⟨b,hb,rfl⟩;exact r2 ((q b).mp hb)
     ·intro r;obtain⟨b,rfl,rb⟩:=r3 r x hx rfl;exact⟨b,(q b).mpr rb,rfl⟩
  ·rcases Q0.mp hy with z | z
   ·obtain⟨L,hL,q⟩:=cS y z;exact⟨L,JT _ hL,q⟩
   ·obtain⟨b,hb,rfl⟩:=Qt.mp z;obtain⟨L,hL,q⟩:=cT b hb;exact⟨_,Qu _ (Qt.mpr ⟨L,hL,rfl⟩),Qt.mpr ⟨b,q,rfl⟩⟩
  ·obtain⟨M,hM,rfl⟩:=Qt.mp hb;obtain⟨x,hx,q⟩:=(hS a ha).has;have xa:=(q x).mpr (.refl hx);rw[e] at xa;obtain⟨y,hy,rfl⟩:=Qt.mp xa;have a:=Zh hx;have b:=Zh (QbH (hT M hM) hy);have:(h:Int)+y.1<h:=a.2.1;omega
  ·exact(List.map_inj_right (f:=shP h w) λ_ _ e=>sinj e).mp e
 rw[p.length_eq,Qr,Qc]
theorem Qwd{h w:Nat}(f:Nat->Nat->Bool)(h6:h<=6)(w6:w<=6):SB2 (cellsF h w f):=⟨pw_cellsF w f h,QX (YN w f h) (Yo h6 w6),λp hp=>by have:=Zh hp;omega⟩
theorem Qx7{h w:Nat}(h6:h<=6)(k:Nat):Wc (cellsF h w (inLs [])) h h 0 k=([1]:List Int).getD k 0:=by
 rw[QaW,QaM ⟨h,by omega⟩];have:=QbP (f:=inLs []) (R:=[]) (C:=Qp w) (k:=k) (S:=Qp h) λ_ _ _ _=>rfl
 rw[ZB] at this;rw[this];cases k<;>rfl
theorem QBC{h w:Nat}{L:List (Int×Int)}(pw:L.Pairwise plt)(hb:∀p∈L,0<=p.1/\p.1<h/\0<=p.2/\p.2<w):L=cellsF h w (inLs [L]):=by
 refine(QlD pw hb).trans (QaP λr c _ _=>?_);show _=([L].any _);simp
theorem Qop{h w:Nat}{cs:List (Int×Int)}(g:GB h w cs)(k:Nat):Wc cs h h 0 k<=200000:=by
 rw[Qdl g];have:=(Qnj g k).length_eq;have l2:=Zi (λL=>L.length == k) (Qbt cs h);have:=g.few;omega
theorem Qsi{h w:Nat}{cs:List (Int×Int)}(g:GB h w cs){l:List Int}(hl:∀k,l.getD k 0=Wc cs h h 0 k):∀y∈l,-(2^64)<y/\y<2^64:=λy hy=>by
 obtain⟨i,hi⟩:=Jx.mp hy;have e:l.getD i 0=y:=by rw[Qd,hi];rfl
 rw[hl] at e;have:=Qj5 g i;have:=Qop g i;omega
def QzT:PyData->PyData
 |.tuple ds=>.int ds.length
 |_=>.none
theorem QmY(T:List (List (Int×Int))):(T.map stT).map QzT=(T.map λL=>((L.length:Nat):Int)).map Qg:=by
 rw[QN,QN];refine JD λL _=>?_
 show Qg (((L.map pairD).length:Nat):Int)=_;rw[Qc];rfl
theorem Qxp{a b:List Int}(p:a.Perm b)(pa:a.Pairwise (·<=·))(pb:b.Pairwise (·<=·)):a=b:=Zy (le:=(·<=·)) (λa b _ _ h1 h2=>QvK h1 h2) pa pb p
theorem Qr4{a b:List Int}(e:a=b):(!Q9 (.list (a.map Qg)) (.list (b.map Qg)))=false:=by rw[e,Qgj];rfl
section
variable{P:QC}{w:Jf}{K:PySem.W.Frag}{mg:Str->Option Value}{base:Heap}
theorem QpN:(["_law_piece"]:List Str).Nodup:=by decide +kernel
theorem QpM:(["_law_piece"]:List Str).Nodup:=by decide +kernel
theorem Qc4:Jl ["_law_board_here", "_law_found", "_law_some", "_law_piece", "_law_sizes"] ["_law_board_here"] (Qm lPcs):=⟨rfl,rfl,rfl,by decide +kernel,rfl,by decide +kernel,by decide +kernel⟩
theorem Qui{f f1 f2 f3 f4 f5  : Addr}{fd fd1 fd2 fd3 fd4 fd5:QL}(F:Fun K "_law_pieces_right" "_law_pieces_right" lPcs f fd)(T:GlbA mg)
  (m1:mg "pieces" = some (.ref f1))(G1:FnOk P w K mg base CX0 3 f1 fd1 ["board"] (JO true Qf1))(b1:Binds K fd1 ["board"] [])(k1:PySem.W.keepIn K (.ref f1)=true)
  (m2:mg "multiplied" = some (.ref f2))(G2:FnOk P w K mg base CX0 1 f2 fd2 ["one", "other"] (JO true QpP))(b2:Binds K fd2 ["one", "other"] [])(k2:PySem.W.keepIn K (.ref f2)=true)
  (m3:mg "_law_cut" = some (.ref f3))(G3:FnOk P w K mg base CX0 1 f3 fd3 ["_law_some"] (JO true QiA))(b3:Binds K fd3 ["_law_some"] [])(k3:PySem.W.keepIn K (.ref f3)=true)
  (m4:mg "counts" = some (.ref f4))(G4:FnOk P w K mg base CX0 3 f4 fd4 ["board"] (JO true Qcn))(b4:Binds K fd4 ["board"] [])(k4:PySem.W.keepIn K (.ref f4)=true)
  (m5:mg "turned" = some (.ref f5))(G5:FnOk P w K mg base CX0 2 f5 fd5 ["board"] (JO false QsP))(b5:Binds K fd5 ["board"] [])(k5:PySem.W.keepIn K (.ref f5)=true) :
  FnOk P w K mg base CX0 4 f fd ["_law_board_here"] (JO false QuA):=by
 refine okQ false F Qc4 (λargs R EX h=>?_) (λcdv A outer s H E hr=>?_)
 ·obtain⟨h,w,f,rfl,_⟩:=h;rfl
 ·have hU:=Room.u60 hr;have hI:=Room.i60 hr;refine⟨_,QB (Za 1 (JB (Qb6 (Y0 Jg Q7))) Qc4.nd)
   (QB (Za 2 (JB (J3 G1 (hr.mono (by decide)) (by rfl) m1 k1 b1 JI (Zf (qv 0) Jb))) Qc4.nd)
   (QB (QbE Jt rfl (QaT (qv 2)) (ZK 3 Qc4.nd rfl (by first | exact Q2 rfl | exact QZ rfl))
    (Q5 (Za 1 (JB (J3 G2 (hr.mono (by decide)) (by rfl) m2 k2 b2 JI (Zf (qv 1) (Zf (JB (J3 G3 (hr.mono (by decide)) (by rfl) m3 k3 b3 JI (Zf (JB (J3 G4 (hr.mono (by decide)) (by rfl) m4 k4 b4 JI (Zf (JB (QaH (Y0 (Yr Jk J4 (qp 0) (QP Jg) (λ_ _=>rfl)) (Y0 (Yr Jk J4 (qp 0) (QP Jg) (λ_ _=>rfl)) (Y0 (qv 3) Q7))))) Jb))) Jb))) Jb)))) Qc4.nd)))
   (QB (Za 4 (JB (JU Qft Qny (by rfl) T.sorted QcN (Qap (QY (YL ["_law_piece"] [none] (QaT (qp 2)) (λcl ex s3 H3 C=>⟨(ZK 0 QpN rfl (Q2 rfl) (QZ rfl)),Yy,(JB (JU J7 Yw (by rfl) T.len Yg (Qap (qp 0) Q7)))⟩))) Q7))) Qc4.nd)
   (QB (QbD (Ql6 (Qik (Yk Qen (Qit hU) (QY (JU (Qhw rfl) Qsj (by rfl) T.sum Qsm (Qap (qp 4) Q7))) (QY (JU J7 Yw (by rfl) T.len Yg (Qap (QP (Yr Jk J4 (qp 0) (QP Jg) (λ_ _=>rfl))) Q7))) (ZW _)) (Qeh (Yk Qen (Qit hU) (QY (JU Qft Qny (by rfl) T.sorted QcN (Qap (QY (YL ["_law_piece"] [none] (QaT (QY (J3 G1 (hr.mono (by decide)) (by rfl) m1 k1 b1 JI (Zf (JZ G5 (hr.mono (by decide)) (by rfl) m5 k5 b5 JI (Zf (qv 0) Jb)) Jb)))) (λcl ex s3 H3 C=>⟨(ZK 0 QpM rfl (Q2 rfl) (QZ rfl)),Yy,(JB (JU J7 Yw (by rfl) T.len Yg (Qap (qp 0) Q7)))⟩))) Q7))) (qp 4) (ZW _))))) (Q5 (YD Ql7)) Yl)
   (Q5 (Z1 (QeY Qdw (Qhj hU) (QY (J3 G3 (hr.mono (by decide)) (by rfl) m3 k3 b3 JI (Zf (qv 1) Jb))) (QY (J3 G3 (hr.mono (by decide)) (by rfl) m3 k3 b3 JI (Zf (JB (J3 G4 (hr.mono (by decide)) (by rfl) m4 k4 b4 JI (Zf (qv 0) Jb))) Jb))) (ZW _)))))))),λargs R EX h=>?_⟩
  obtain⟨h,w,f,rfl,h1,h6,w1,w6,hR⟩:=h;have g:=Qn7 (h:=h) (w:=w) f h6 w6;refine⟨_,_,_,rfl,Qwd f h6 w6,λT hT cT oT=>?_⟩;have nT:=QmV oT;have lT:T.length<=36:=QX (Qps (pw_cellsF w f h) hT cT nT) (QX (YN w f h) (Yo h6 w6));refine QaE (λi δ=>∃(a:List Int)(x3:Sl),δ=[.v (bdD h w (cellsF h w f)),.v (.list (a.map Qg)),.v (.list (T.map stT)),x3,.no]/\1<=a.length/\a.length<=1+6*i/\∀k,a.getD k 0=Wc (cellsF h w (inLs (T.take i))) h h 0 k) ⟨[1],_,rfl,by decide,by decide,λk=>(Qx7 h6 k).symm⟩ ?_ ?_
  ·rintro i d δ hd ⟨a,x3,rfl,a1,a6,ha⟩;rw[Qo] at hd;obtain⟨L,eL,rfl⟩:∃L,T[i]? = some L/\d=stT L:=by
    cases e:T[i]? with
    |none=>rw[e] at hd;cases hd
    |some p=>rw[e] at hd;cases hd;exact⟨p,rfl,rfl⟩
   have hi:i<T.length:=(QU.mp eL).1;have pL:=hT L (Q8 eL);have bL:∀p∈L,0<=p.1/\p.1<h/\0<=p.2/\p.2<w:=λp hp=>Zh (QbH pL hp)
   have fL:=QBC pL.srt bL;have gL:GB h w L:=by rw[fL];exact Qn7 _ h6 w6
   have cg:∀k,(QiH (cI4 L h w)).getD k 0=Wc L h h 0 k:=λk=>by rw[Qu0,QaU gL]
   have cl:=QuZ (cI4 L h w);have ct:=Qdm gL;have cle:=Qe6 (cI4 L h w);rw[Qbh] at cle;refine⟨_,Q6 (j:=0) rfl,_,Q6 (j:=1) rfl,h,w,L,rfl,h6,w6,λp hp=>(bL p hp).2.2,cI4 L h w,by rw[QhC],by rw[Qbh];omega,ct,a,QiH (cI4 L h w),rfl,a1,by omega,by omega,by omega,Qsi gL cg,cwS a (QiH (cI4 L h w)),.v (stT L),rfl,?_,?_,λk=>?_⟩
   ·unfold cwS;rw[Qc,QH];omega
   ·unfold cwS;rw[Qc,QH];omega
   ·have tk:T.take (i+1)=T.take i++[L]:=by rw[ZR,eL];rfl
    rw[cw_get a1 (by omega),tk,Qvj h6 pL (λM hM=>⟨hT M (Qla hM),λe=>?_⟩) k]
    ·refine Z0 λj _=>?_
     rw[ha,cg,<- fL]
    ·obtain⟨j,hj⟩:=Jx.mp hM;rw[Qaa] at hj;split at hj
     ·rename_i hji
      rw[<- e] at hj;have pw:=Z3.mp nT;obtain⟨q1,q2⟩:=QU.mp hj;obtain⟨q3,q4⟩:=QU.mp eL;exact pw j i q1 q3 hji (q2.trans q4.symm)
     ·cases hj
  ·rintro δ ⟨a,x3,rfl,a1,a6,ha⟩;rw[Qc,Zp] at ha;rw[Qc] at a6;have hall:cellsF h w (inLs T)=cellsF h w f:=QaP λr c hr hc=>by
    rw[J6,QcK];constructor
    ·rintro⟨L,hL,m⟩;obtain⟨r',c',_,_,q,e⟩:=JK.mp (QbH (hT L hL) m);have e1:(r:Int)=(r':Int):=(Zs e).1;have e2:(c:Int)=(c':Int):=(Zs e).2;rw[show r=r' by omega,show c=c' by omega];exact q
    ·intro q;exact cT _ (JK.mpr ⟨r,c,hr,hc,q,rfl⟩)
   rw[hall] at ha;have lnT:(T.map λL=>((L.length:Nat):Int)).length<64:=by rw[Qc];omega
   refine Qaq QzT (λd hd k2 hk=>?_) ?_
   ·obtain⟨L,_,rfl⟩:=Qt.mp hd;exact hk
   rw[QmY];refine(QlG (Qfu _) lnT λms pm pw=>?_).1;have sm:ms.sum=((cellsF h w f).length:Int):=by
    have:=Qoy (F:=id) pm;rw[Qdo,Qdo] at this;rw[this,Qpr (pw_cellsF w f h) hT cT nT]
   refine Qlx ms rfl ⟨_,Q6 (j:=2) rfl,ifF ?_ ?_⟩
   ·show(!decide (ms.sum=(((cellsF h w f).map pairD).length:Int)))=false;rw[Qc,sm,decide_eq_true rfl];rfl
   refine⟨h,w,f,rfl,h6,w6,_,_,_,rfl,Qwd (tF f) w6 h6,λU hU cU oU=>?_⟩;have nU:=QmV oU;have pU:=Qll hT cT nT hU cU nU;refine Qaq QzT (λd hd k2 hk=>?_) ?_
   ·obtain⟨L,_,rfl⟩:=Qt.mp hd;exact hk
   rw[QmY];refine(QlG (Qfu _) (by rw[pU.length_eq];exact lnT) λms2 pm2 pw2=>?_).1;refine⟨⟨Qaf _,Qaf _,.inl (QjG _)⟩,ifF (Qr4 (Qxp (pm2.trans (pU.trans pm.symm)) pw2 pw)) ?_⟩;have at1:1<=Qcg a:=Qlq (k:=0) (by rw[ha];have:=(Qdg g (k:=0)).mpr ⟨[],Std.nil,rfl⟩;omega);refine⟨a,rfl,by omega,at1,h,w,_,rfl,h6,w6,λp hp=>(Zh hp).2.2,cI4 (cellsF h w f) h w,by rw[QhC],by rw[Qbh];omega,Qdm g,⟨Qaf _,Qaf _,.inl (QjG _)⟩,?_⟩;show R (.bool (Q9 (.list ((QiH a).map Qg)) (.list ((QiH (cI4 (cellsF h w f) h w)).map Qg))));rw[QiG (a:=a) (b:=cI4 (cellsF h w f) h w) λk=>by rw[ha,QaU g],Qgj];exact hR
end
section
variable{P:QC}{w:Jf}{K:PySem.W.Frag}{mg:Str->Option Value}{base:Heap}
theorem Qjh:Jl ["_law_one", "_law_other", "_law_both"] ["_law_one", "_law_other"] (Qm QkA):=⟨rfl,rfl,rfl,by decide +kernel,rfl,by decide +kernel,by decide +kernel⟩
theorem QpD{f f1 f2 f3 f4 f5 f6  : Addr}{fd fd1 fd2 fd3 fd4 fd5 fd6:QL}(F:Fun K "_law_both_right" "_law_both_right" QkA f fd)(T:GlbA mg)
  (m1:mg "beside" = some (.ref f1))(G1:FnOk P w K mg base CX0 1 f1 fd1 ["one", "other"] (JO false QiQ))(b1:Binds K fd1 ["one", "other"] [])(k1:PySem.W.keepIn K (.ref f1)=true)
  (m2:mg "_law_cut" = some (.ref f2))(G2:FnOk P w K mg base CX0 1 f2 fd2 ["_law_some"] (JO true QiA))(b2:Binds K fd2 ["_law_some"] [])(k2:PySem.W.keepIn K (.ref f2)=true)
  (m3:mg "counts" = some (.ref f3))(G3:FnOk P w K mg base CX0 3 f3 fd3 ["board"] (JO true Qcn))(b3:Binds K fd3 ["board"] [])(k3:PySem.W.keepIn K (.ref f3)=true)
  (m4:mg "multiplied" = some (.ref f4))(G4:FnOk P w K mg base CX0 1 f4 fd4 ["one", "other"] (JO true QpP))(b4:Binds K fd4 ["one", "other"] [])(k4:PySem.W.keepIn K (.ref f4)=true)
  (m5:mg "showing" = some (.ref f5))(G5:FnOk P w K mg base CX0 5 f5 fd5 ["board"] (JO false Qif))(b5:Binds K fd5 ["board"] [])(k5:PySem.W.keepIn K (.ref f5)=true)
  (m6:mg "pieces" = some (.ref f6))(G6:FnOk P w K mg base CX0 3 f6 fd6 ["board"] (JO true Qf1))(b6:Binds K fd6 ["board"] [])(k6:PySem.W.keepIn K (.ref f6)=true) :
  FnOk P w K mg base CX0 6 f fd ["_law_one", "_law_other"] (JO false Qm1):=by
 refine okQ false F Qjh (λargs R EX h=>?_) (λcdv A outer s H E hr=>?_)
 ·obtain⟨h,w,f,h2,w2,f2,rfl,_⟩:=h;rfl
 ·have hU:=Room.u60 hr;have hI:=Room.i60 hr;refine⟨_,QB (Za 2 (JZ G1 (hr.mono (by decide)) (by rfl) m1 k1 b1 JI (Zf (qv 0) (Zf (qv 1) Jb))) Qjh.nd)
   (QB (QbD (Yk Qen (Qit hU) (QY (J3 G2 (hr.mono (by decide)) (by rfl) m2 k2 b2 JI (Zf (JB (J3 G3 (hr.mono (by decide)) (by rfl) m3 k3 b3 JI (Zf (qv 2) Jb))) Jb))) (QY (J3 G2 (hr.mono (by decide)) (by rfl) m2 k2 b2 JI (Zf (JB (J3 G4 (hr.mono (by decide)) (by rfl) m4 k4 b4 JI (Zf (JB (J3 G3 (hr.mono (by decide)) (by rfl) m3 k3 b3 JI (Zf (qv 0) Jb))) (Zf (JB (J3 G3 (hr.mono (by decide)) (by rfl) m3 k3 b3 JI (Zf (qv 1) Jb))) Jb)))) Jb))) (ZW _)) (Q5 (YD Ql7)) Yl)
   (QB (QbD (Yk Qen (Qit hU) (QY (JU J7 Yw (by rfl) T.len Yg (Qap (QP (Yr Jk J4 (QP (JZ G5 (hr.mono (by decide)) (by rfl) m5 k5 b5 JI (Zf (qv 2) Jb))) (QP Jg) (λ_ _=>rfl))) Q7))) (QY (ZL Zj ZV (QY (JU J7 Yw (by rfl) T.len Yg (Qap (QP (Yr Jk J4 (QP (JZ G5 (hr.mono (by decide)) (by rfl) m5 k5 b5 JI (Zf (qv 0) Jb))) (QP Jg) (λ_ _=>rfl))) Q7))) (QY (JU J7 Yw (by rfl) T.len Yg (Qap (QP (Yr Jk J4 (QP (JZ G5 (hr.mono (by decide)) (by rfl) m5 k5 b5 JI (Zf (qv 1) Jb))) (QP Jg) (λ_ _=>rfl))) Q7))))) (ZW _)) (Q5 (YD Ql7)) Yl)
   (Q5 (Z1 (QeY Qdw (Qhj hU) (QY (JU J7 Yw (by rfl) T.len Yg (Qap (QY (J3 G6 (hr.mono (by decide)) (by rfl) m6 k6 b6 JI (Zf (qv 2) Jb))) Q7))) (QY (ZL Zj ZV (QY (JU J7 Yw (by rfl) T.len Yg (Qap (QY (J3 G6 (hr.mono (by decide)) (by rfl) m6 k6 b6 JI (Zf (qv 0) Jb))) Q7))) (QY (JU J7 Yw (by rfl) T.len Yg (Qap (QY (J3 G6 (hr.mono (by decide)) (by rfl) m6 k6 b6 JI (Zf (qv 1) Jb))) Q7))))) (ZW _)))))),λargs R EX h=>?_⟩
  obtain⟨h,w,f,h2,w2,f2,rfl,h1,h3,w1,w3,h21,h23,w21,w23,hR⟩:=h;have g:=Qn7 (h:=h+h2) (w:=w+w2) (QkN h w f f2) (by omega) (by omega);have g1:=Qn7 (h:=h) (w:=w) f (by omega) (by omega);have g2:=Qn7 (h:=h2) (w:=w2) f2 (by omega) (by omega);refine⟨h,w,f,h2,w2,f2,rfl,h3,w3,h23,w23,?_⟩;have l1:=Qbh (cellsF h w f) h w;have l2:=Qbh (cellsF h2 w2 f2) h2 w2;have cv:∀k,(cI4 (cellsF (h+h2) (w+w2) (QkN h w f f2)) (h+h2) (w+w2)).getD k 0=(cwS (cI4 (cellsF h w f) h w) (cI4 (cellsF h2 w2 f2) h2 w2)).getD k 0:=λk=>by
   rw[QaU g,QnX h3 h23,cw_get (by omega) (by omega)];exact Z0 λj _=>by rw[QaU g1,QaU g2]
  refine⟨h+h2,w+w2,_,rfl,by omega,by omega,λp hp=>(Zh hp).2.2,cI4 (cellsF (h+h2) (w+w2) (QkN h w f f2)) (h+h2) (w+w2),by rw[QhC],by rw[Qbh];omega,Qdm g,?_⟩;refine⟨h,w,_,rfl,by omega,by omega,λp hp=>(Zh hp).2.2,h2,w2,_,rfl,by omega,by omega,λp hp=>(Zh hp).2.2,cI4 (cellsF h w f) h w,cI4 (cellsF h2 w2 f2) h2 w2,by rw[QhC,QhC],by omega,by omega,by omega,by omega,Qsi g2 λk=>QaU g2 k,?_⟩;refine⟨_,rfl,by unfold cwS;rw[Qc,QH];omega,by rw[<- Qh5 cv];exact Qdm g,⟨Qaf _,Qaf _,.inl (QjG _)⟩,ifF (Qr4 (QiG cv)) ?_⟩;obtain⟨a,ga⟩:=Qex g1;obtain⟨b,gb⟩:=Qex g2;have gm:=QkC h3 w3 h23 w23 ga gb;obtain⟨L,eL,_,lk⟩:=Qgd g gm;obtain⟨La,ea,_,la⟩:=Qgd g1 ga;obtain⟨Lb,eb,_,lb⟩:=Qgd g2 gb;refine⟨h+h2,w+w2,a+b,_,L,rfl,g,gm,eL,_,Q6 (j:=0) rfl,h,w,a,_,La,rfl,g1,ga,ea,_,Q6 (j:=0) rfl,h2,w2,b,_,Lb,rfl,g2,gb,eb,_,Q6 (j:=0) rfl,ifF ?_ ?_⟩
  ·show(!decide ((((L.map pairD).length:Nat):Int)=(((La.map pairD).length:Nat):Int)+(((Lb.map pairD).length:Nat):Int)))=false;rw[Qc,Qc,Qc,decide_eq_true (by omega)];rfl
  refine⟨_,_,_,rfl,Qwd _ (by omega) (by omega),λU hU cU oU=>⟨_,_,_,rfl,Qwd _ (by omega) (by omega),λS hS cS oS=>⟨_,_,_,rfl,Qwd _ (by omega) (by omega),λV hV cV oV=>?_⟩⟩⟩;have e:=QnF hS cS (QmV oS) hV cV (QmV oV) hU cU (QmV oU);show R (.bool (decide ((((U.map stT).length:Nat):Int)=(((S.map stT).length:Nat):Int)+(((V.map stT).length:Nat):Int))));rw[Qc,Qc,Qc,decide_eq_true (by omega)];exact hR
end
section
variable{P:QC}{w:Jf}{K:PySem.W.Frag}{mg:Str->Option Value}{base:Heap}
theorem QdQ:Jl ["_law_board_here", "_law_cell", "_law_due", "_law_less"] ["_law_board_here", "_law_cell"] (Qm Qkz):=⟨rfl,rfl,rfl,by decide +kernel,rfl,by decide +kernel,by decide +kernel⟩
theorem QpC{f f1 f2 f3 f4 f5  : Addr}{fd fd1 fd2 fd3 fd4 fd5:QL}(F:Fun K "_law_cell_right" "_law_cell_right" Qkz f fd)(T:GlbA mg)
  (m1:mg "counts" = some (.ref f1))(G1:FnOk P w K mg base CX0 3 f1 fd1 ["board"] (JO true Qcn))(b1:Binds K fd1 ["board"] [])(k1:PySem.W.keepIn K (.ref f1)=true)
  (m2:mg "without" = some (.ref f2))(G2:FnOk P w K mg base CX0 5 f2 fd2 ["board", "cell"] (JO false QfE))(b2:Binds K fd2 ["board", "cell"] [])(k2:PySem.W.keepIn K (.ref f2)=true)
  (m3:mg "struck" = some (.ref f3))(G3:FnOk P w K mg base CX0 6 f3 fd3 ["board", "cell"] (JO false Qic))(b3:Binds K fd3 ["board", "cell"] [])(k3:PySem.W.keepIn K (.ref f3)=true)
  (m4:mg "_law_cut" = some (.ref f4))(G4:FnOk P w K mg base CX0 1 f4 fd4 ["_law_some"] (JO true QiA))(b4:Binds K fd4 ["_law_some"] [])(k4:PySem.W.keepIn K (.ref f4)=true)
  (m5:mg "_law_sum" = some (.ref f5))(G5:FnOk P w K mg base CX0 1 f5 fd5 ["_law_one", "_law_other"] (JO true QpW))(b5:Binds K fd5 ["_law_one", "_law_other"] [])(k5:PySem.W.keepIn K (.ref f5)=true) :
  FnOk P w K mg base CX0 7 f fd ["_law_board_here", "_law_cell"] (JO false Qm0):=by
 refine okQ false F QdQ (λargs R EX h=>?_) (λcdv A outer s H E hr=>?_)
 ·obtain⟨h,w,f,r,c,rfl,_⟩:=h;rfl
 ·have hU:=Room.u60 hr;have hI:=Room.i60 hr;refine⟨_,QB (Za 2 (JB (J3 G1 (hr.mono (by decide)) (by rfl) m1 k1 b1 JI (Zf (JZ G2 (hr.mono (by decide)) (by rfl) m2 k2 b2 JI (Zf (qv 0) (Zf (qv 1) Jb))) Jb))) QdQ.nd)
   (QB (Za 3 (JB (Qb6 (Y0 Jg Q7))) QdQ.nd)
   (QB (QbD (Ql6 (Qjn (Yk Qmu QbK (QP (Yr Jk J4 (qp 0) (QP Jg) (λ_ _=>rfl))) (QP Jg) (ZW _)) (QfT (Yk Qmu QbK (QP (Yr Jk J4 (qp 0) (QP Jg) (λ_ _=>rfl))) (QP Jg) (ZW _))))) (Q5 (Za 3 (JB (J3 G1 (hr.mono (by decide)) (by rfl) m1 k1 b1 JI (Zf (JZ G3 (hr.mono (by decide)) (by rfl) m3 k3 b3 JI (Zf (qv 0) (Zf (qv 1) Jb))) Jb))) QdQ.nd)) Yl)
   (Q5 (Z1 (QeY Qdw (Qhj hU) (QY (J3 G4 (hr.mono (by decide)) (by rfl) m4 k4 b4 JI (Zf (JB (J3 G1 (hr.mono (by decide)) (by rfl) m1 k1 b1 JI (Zf (qv 0) Jb))) Jb))) (QY (J3 G4 (hr.mono (by decide)) (by rfl) m4 k4 b4 JI (Zf (JB (J3 G5 (hr.mono (by decide)) (by rfl) m5 k5 b5 JI (Zf (qv 2) (Zf (JB (ZL Zj ZV (QY (Qb6 (Y0 Jg Q7))) (qp 3))) Jb)))) Jb))) (ZW _)))))),λargs R EX h=>?_⟩
  obtain⟨h,w,f,r,c,rfl,h1,h6,w1,w6,hr,hc,hf,hR⟩:=h;have g:=Qn7 (h:=h) (w:=w) f h6 w6;have mp:((r:Int),(c:Int))∈cellsF h w f:=JK.mpr ⟨r,c,hr,hc,hf,rfl⟩;have gw:=QAa g ((r:Int),(c:Int));have dc:∀k,Wc (cellsF h w f) h h 0 k=Wc (wo (cellsF h w f) ((r:Int),(c:Int))) h h 0 k+(if k=0 then 0 else Pf f (oth h [r]) (oth w [c]) (k - 1)):=λk=>by
   rw[QBm,QaW,QaW,QaM ⟨h,by omega⟩,Qjq,Qjq];exact QAx JQ JQ (QM.mpr hr) (QM.mpr hc) hf k
  have fin:∀less:List Int,less.length<=20->(∀k,less.getD k 0=Pf f (oth h [r]) (oth w [c]) k)->∀k,(Qoz (cI4 (wo (cellsF h w f) ((r:Int),(c:Int))) h w) (0::less)).getD k 0=(cI4 (cellsF h w f) h w).getD k 0:=λless _ hl k=>by
   rw[QsW,QaU gw,QaU g,dc k]
   congr 1
   cases k with
   |zero=>rfl
   |succ k=>
    rw[if_neg (by omega),Ze,<- hl k,Qd,Qd];rfl
  have oh:(oth h [r]).length+1=h:=by rw[Qjq];have:=Qga (C:=Qp h) JQ (QM.mpr hr);rwa [QH] at this
  have ow:(oth w [c]).length+1=w:=by rw[Qjq];have:=Qga (C:=Qp w) JQ (QM.mpr hc);rwa [QH] at this
  have nw:(oth w [c]).Nodup:=JQ.filter _;have l0:=Qbh (wo (cellsF h w f) ((r:Int),(c:Int))) h w;refine⟨h,w,_,_,rfl,g.bds,mp,h,w,_,rfl,h6,w6,λp hp=>(gw.bds.2.2 p hp).2.2,?_⟩;rw[QhC];have go:∀less:List Int,less.length<=20->(∀k,less.getD k 0=Pf f (oth h [r]) (oth w [c]) k)->QuU (dOp eqD (Qgm QiA (sV (Qgm Qcn (sV (QxI 0) Qvw)) Qvw)) (Qgm QiA (sV (Qgm QpW (sV (QxI 2) (sV (dOp QBg (QAk (QkF (dC (Qg 0)) QAj)) (dPk 3)) Qvw))) Qvw))) (Qp8 false R XF) [.v (bdD h w (cellsF h w f)),.v (pairD ((r:Int),(c:Int))),.v (.list ((cI4 (wo (cellsF h w f) ((r:Int),(c:Int))) h w).map Qg)),.v (.list (less.map Qg))]:=λless ll hl=>by
   have fe:=fin less ll hl;refine⟨h,w,_,rfl,h6,w6,λp hp=>(Zh hp).2.2,cI4 (cellsF h w f) h w,by rw[QhC],by rw[Qbh];omega,Qdm g,?_⟩;refine⟨by show 1+_<=_;rw[Qc];omega,cI4 (wo (cellsF h w f) ((r:Int),(c:Int))) h w,0::less,rfl,by omega,by rw[QF];omega,?_⟩;have ls:(Qoz (cI4 (wo (cellsF h w f) ((r:Int),(c:Int))) h w) (0::less)).length<=900:=by unfold Qoz;rw[Qc,QH,QF];omega
   refine⟨_,rfl,ls,by rw[Qh5 fe];exact Qdm g,⟨Qaf _,Qaf _,.inl (QjG _)⟩,?_⟩;show R (.bool (Q9 (.list ((QiH (cI4 (cellsF h w f) h w)).map Qg)) (.list ((QiH (Qoz (cI4 (wo (cellsF h w f) ((r:Int),(c:Int))) h w) (0::less))).map Qg))));rw[QiG fe,Qgj];exact hR
  refine⟨_,Q6 (j:=0) rfl,?_⟩;have one:h=1∨w=1->∀k,([1]:List Int).getD k 0=Pf f (oth h [r]) (oth w [c]) k:=λz k=>by
   cases k with
   |zero=>rw[Yn];rfl
   |succ k=>
    have e:([1]:List Int).getD (k+1) 0=0:=rfl;rw[e];rcases z with z | z
    ·rw[QiX f _ _ _ (by omega)]
    ·rw[QgA f _ _ _ nw (by omega)]
  refine ifC (λz=>?_) λz=>go [1] (by decide) (one (.inl (by have:=of_decide_eq_false z;omega)))
  refine⟨_,Q6 (j:=1) rfl,ifC (λz2=>?_) λz2=>go [1] (by decide) (one (.inr (by have:=of_decide_eq_false z2;omega)))⟩;have h2:1<h:=by have:=of_decide_eq_true z;omega
  have w2:1<w:=by have:=of_decide_eq_true z2;omega
  refine⟨h,w,f,r,c,rfl,h2,h6,w2,w6,hr,hc,hf,(oth h [r]).length,(oth w [c]).length,_,rfl,by omega,by omega,λp hp=>(Zh hp).2.2,?_⟩;rw[QhC];refine go _ (by rw[Qbh];omega) λk=>?_
  rw[QaU (Qn7 _ (by omega) (by omega)),Qx8 f (by omega) nw]
end
end Rk
def PySem.W.Fast.tw13933115664132448857:Nat:=0
def PySem.W.Fast.tw4030942258531047062:Nat:=0
def PySem.W.Fast.tw7467042927387050365:Nat:=0
def PySem.W.Fast.tw864007239834243899:Nat:=0
def PySem.W.Fast.tw8641234087562933516:Nat:=0
def PySem.W.Fast.tw18153199448093052221:Nat:=0
def PySem.W.Fast.tw9725167626957901725:Nat:=0
def PySem.W.Fast.tw16367609963682138779:Nat:=0
def PySem.W.Fast.tw1539254305770263829:Nat:=0
def PySem.W.Fast.tw9004072506214684625:Nat:=0
def PySem.W.Fast.tw8615556637795479447:Nat:=0
def PySem.W.Fast.tw9748338020358832320:Nat:=0
def PySem.W.Fast.tw3667793986691659112:Nat:=0
def PySem.W.Fast.tw16854899573817282301:Nat:=0
def PySem.W.Fast.tw15367984356908740650:Nat:=0
def PySem.W.Fast.tw3928256904946660778:Nat:=0
def PySem.W.Fast.tw10858263407647479125:Nat:=0
def PySem.W.Fast.tw12375313965771853950:Nat:=0
def PySem.W.Fast.tw2971860905655362457:Nat:=0
def PySem.W.Fast.tw9135050542485679134:Nat:=0
def PySem.W.Fast.tw13041965126002860900:Nat:=0
def PySem.W.Fast.tw12707407189561168418:Nat:=0
def PySem.W.Fast.tw6160463325762110360:Nat:=0
def PySem.W.Fast.tw17450687697404428267:Nat:=0
def PySem.W.Fast.tw16685370162204648824:Nat:=0
def PySem.W.Fast.tw6712094461644422450:Nat:=0
def PySem.W.Fast.tw13752420581039676311:Nat:=0
def PySem.W.Fast.tw3505553202425799512:Nat:=0
def PySem.W.Fast.tw18078841713192430283:Nat:=0
def PySem.W.Fast.tw13175118918331004979:Nat:=0
def PySem.W.Fast.tw3640685363380983181:Nat:=0
def PySem.W.Fast.tw4723076796244966023:Nat:=0
def PySem.W.Fast.tw8401760786713848164:Nat:=0
def PySem.W.Fast.tw2244235251556245609:Nat:=0
def PySem.W.Fast.tw3656671131826752573:Nat:=0
def PySem.W.Fast.tw16480602271905946286:Nat:=0
def PySem.W.Fast.tw5944458795703071275:Nat:=0
def PySem.W.Fast.tw14784617481632738612:Nat:=0
def PySem.W.Fast.tw16766907119353053731:Nat:=0
def PySem.W.Fast.tw1575935045261787292:Nat:=0
def PySem.W.Fast.tw13137075168882899907:Nat:=0
def PySem.W.Fast.tw13346875714427432404:Nat:=0
def PySem.W.Fast.tw11547243482308454269:Nat:=0
def PySem.W.Fast.tw12244989562989137189:Nat:=0
def PySem.W.Fast.tw7603275609719870793:Nat:=0
def PySem.W.Fast.tw7466829179716963699:Nat:=0
def PySem.W.Fast.tw1330256965247252778:Nat:=0
def PySem.W.Fast.tw15559825353414606158:Nat:=0
def PySem.W.Fast.tw681191203761174241:Nat:=0
def PySem.W.Fast.tw3746571198424055127:Nat:=0
def PySem.W.Fast.tw4844474831766708385:Nat:=0
def PySem.W.Fast.tw2215880193197001914:Nat:=0
def PySem.W.Fast.tw15584318893993152479:Nat:=0
def PySem.W.Fast.tw4289216356657147899:Nat:=0
def PySem.W.Fast.tw17187881582316050581:Nat:=0
def PySem.W.Fast.tw9151256542221042236:Nat:=0
def PySem.W.Fast.tw5066511245801670195:Nat:=0
def PySem.W.Fast.tw16697993788727602356:Nat:=0
def PySem.W.Fast.tw183060620023098722:Nat:=0
def PySem.W.Fast.tw15628647433457122082:Nat:=0
def PySem.W.Fast.tw1525471608154927411:Nat:=0
def PySem.W.Fast.tw10911592030738357289:Nat:=0
def PySem.W.Fast.tw8921474288808866869:Nat:=0
def PySem.W.Fast.tw6584903698388568119:Nat:=0
def PySem.W.Fast.tw8081178720485197003:Nat:=0
def PySem.W.Fast.tw10712722264335476233:Nat:=0
def PySem.W.Fast.tw7931298809506726407:Nat:=0
def PySem.W.Fast.tw2613916235929067153:Nat:=0
def PySem.W.Fast.tw12742167287002792215:Nat:=0
def PySem.W.Fast.tw4768983055523911730:Nat:=0
def PySem.W.Fast.tw15805037658756934837:Nat:=0
def PySem.W.Fast.tw12068763243928680963:Nat:=0
def PySem.W.Fast.tw13669213561240554251:Nat:=0
def PySem.W.Fast.tw3618110773532098086:Nat:=0
def PySem.W.Fast.tw9349770826905489949:Nat:=0
def PySem.W.Fast.tw7334452972910675211:Nat:=0
def PySem.W.Fast.tw12148004227223016988:Nat:=0
def PySem.W.Fast.tw17807530142617145501:Nat:=0
def PySem.W.Fast.tw17907764648186560880:Nat:=0
def PySem.W.Fast.tw13615402467414043229:Nat:=0
def PySem.W.Fast.tw6724200925967751140:Nat:=0
def PySem.W.Fast.tw5718484901436739953:Nat:=0
def PySem.W.Fast.tw255157130484299277:Nat:=0
def PySem.W.Fast.tw7738184046077317791:Nat:=0
def PySem.W.Fast.tw17958280617879778589:Nat:=0
def PySem.W.Fast.tw5224373585927058747:Nat:=0
def PySem.W.Fast.tw8104657922016174608:Nat:=0
def PySem.W.Fast.tw12290575008569203924:Nat:=0
def PySem.W.Fast.tw1915789160223892980:Nat:=0
def PySem.W.Fast.tw2155123532934702450:Nat:=0
def PySem.W.Fast.tw1976922133898314316:Nat:=0
def PySem.W.Fast.tw790006074051013302:Nat:=0
def PySem.W.Fast.tw16989855465156165490:Nat:=0
def PySem.W.Fast.tw1927191931420230841:Nat:=0
def PySem.W.Fast.tw1209323955961819183:Nat:=0
def PySem.W.Fast.tw2410136078103107242:Nat:=0
def PySem.W.Fast.tw843554880496447294:Nat:=0
def PySem.W.Fast.tw3870300550594546245:Nat:=0
def PySem.W.Fast.tw15912494723219191701:Nat:=0
def PySem.W.Fast.tw3774470704446596814:Nat:=0
def PySem.W.Fast.tw153025493201727935:Nat:=0
def PySem.W.Fast.tw3356333198309396770:Nat:=0
def PySem.W.Fast.tw2686782032042352662:Nat:=0
def PySem.W.Fast.tw16655785311178848229:Nat:=0
def PySem.W.Fast.tw14524277154897017212:Nat:=0
def PySem.W.Fast.tw15637120234702768065:Nat:=0
def PySem.W.Fast.tw11467312218036036680:Nat:=0
def PySem.W.Fast.tw8562588265686686197:Nat:=0
def PySem.W.Fast.tw11252308412629530012:Nat:=0
def PySem.W.Fast.tw11693978138953527576:Nat:=0
def PySem.W.Fast.tw5153124043808727608:Nat:=0
def PySem.W.Fast.tw4992291502506369163:Nat:=0
def PySem.W.Fast.tw11197088769829623107:Nat:=0
def PySem.W.Fast.tw12658165469285588162:Nat:=0
def PySem.W.Fast.tw16898763846854862418:Nat:=0
def PySem.W.Fast.tw8237106041534696678:Nat:=0
def PySem.W.Fast.tw200883346738905518:Nat:=0
def PySem.W.Fast.tw14804228031501488088:Nat:=0
def PySem.W.Fast.tw15057953603762988969:Nat:=0
def PySem.W.Fast.tw1516684288451635666:Nat:=0
def PySem.W.Fast.tw2161853893236938080:Nat:=0
def PySem.W.Fast.tw10662593521841739802:Nat:=0
def PySem.W.Fast.tw3786004203467562775:Nat:=0
def PySem.W.Fast.tw12201408340426454558:Nat:=0
def PySem.W.Fast.tw15421834089439223129:Nat:=0
def PySem.W.Fast.tw6143562767995369949:Nat:=0
def PySem.W.Fast.tw11083562328380977062:Nat:=0
def PySem.W.Fast.tw6807441294609003098:Nat:=0
def PySem.W.Fast.tw2858308125096518426:Nat:=0
def PySem.W.Fast.tw3638039318586944413:Nat:=0
def PySem.W.Fast.tw11661492437531634891:Nat:=0
def PySem.W.Fast.tw5586296485517321673:Nat:=0
def PySem.W.Fast.tw8711379518633897850:Nat:=0
def PySem.W.Fast.tw16457562336400949937:Nat:=0
def PySem.W.Fast.tw5381099208770240157:Nat:=0
def PySem.W.Fast.tw12012406442831375864:Nat:=0
def PySem.W.Fast.tw9404701696643112623:Nat:=0
def PySem.W.Fast.tw4299371042782082507:Nat:=0
def PySem.W.Fast.tw194277825672171399:Nat:=0
def PySem.W.Fast.tw8315928103411385375:Nat:=0
def PySem.W.Fast.tw12253896101600322443:Nat:=0
def PySem.W.Fast.tw14273724477086120902:Nat:=0
def PySem.W.Fast.tw14062843097884202715:Nat:=0
def PySem.W.Fast.tw15210058742565125210:Nat:=0
def PySem.W.Fast.tw6445702817200467771:Nat:=0
def PySem.W.Fast.tw1813158399020935917:Nat:=0
def PySem.W.Fast.tw5469633766805090644:Nat:=0
def PySem.W.Fast.tw6617905723470946897:Nat:=0
def PySem.W.Fast.tw7062137755253484247:Nat:=0
def PySem.W.Fast.tw7837672777984061559:Nat:=0
def PySem.W.Fast.tw11942869745503718824:Nat:=0
def PySem.W.Fast.tw2120953809373553579:Nat:=0
def PySem.W.Fast.tw10935560690311835505:Nat:=0
def PySem.W.Fast.tw15267457977532880738:Nat:=0
def PySem.W.Fast.tw16795911436511067750:Nat:=0
def PySem.W.Fast.tw11729241416084755435:Nat:=0
def PySem.W.Fast.tw8346976510713401970:Nat:=0
def PySem.W.Fast.tw2985693489113528099:Nat:=0
def PySem.W.Fast.tw7073486648918747443:Nat:=0
def PySem.W.Fast.tw15539015087795715063:Nat:=0
def PySem.W.Fast.tw8145703295842010875:Nat:=0
def PySem.W.Fast.tw16383950375785020445:Nat:=0
def PySem.W.Fast.tw15411834857006817426:Nat:=0
def PySem.W.Fast.tw9492617206090601947:Nat:=0
def PySem.W.Fast.tw17527391144576112810:Nat:=0
def PySem.W.Fast.tw8831199282776056659:Nat:=0
def PySem.W.Fast.tw16368240759268175514:Nat:=0
def PySem.W.Fast.tw8322336959794723833:Nat:=0
def PySem.W.Fast.tw12119131340363950554:Nat:=0
def PySem.W.Fast.tw10273748507984888656:Nat:=0
def PySem.W.Fast.tw9464587678931360083:Nat:=0
def PySem.W.Fast.tw73832757444751563:Nat:=0
def PySem.W.Fast.tw15337500372675997102:Nat:=0
def PySem.W.Fast.tw12343416111051849205:Nat:=0
def PySem.W.Fast.tw3474302211038432030:Nat:=0
def PySem.W.Fast.tw4417880157640896385:Nat:=0
def PySem.W.Fast.tw79526902609408650:Nat:=0
def PySem.W.Fast.tw1868664329847029303:Nat:=0
def PySem.W.Fast.tw4141141520807045208:Nat:=0
def PySem.W.Fast.tw12602641960960682077:Nat:=0
def PySem.W.Fast.tw12132098011231297117:Nat:=0
def PySem.W.Fast.tw18110882806237775383:Nat:=0
def PySem.W.Fast.tw16555565620558940720:Nat:=0
def PySem.W.Fast.tw9073786710863758219:Nat:=0
def PySem.W.Fast.tw7382748128025164298:Nat:=0
def PySem.W.Fast.tw18285943640037128237:Nat:=0
def PySem.W.Fast.tw14707657667080847147:Nat:=0
def PySem.W.Fast.tw16676425141050512205:Nat:=0
def PySem.W.Fast.tw15265230467673281941:Nat:=0
def PySem.W.Fast.tw16442073707969789927:Nat:=0
def PySem.W.Fast.tw16493408333122565028:Nat:=0
def PySem.W.Fast.tw43507850451354027:Nat:=0
def PySem.W.Fast.tw8581119385465840668:Nat:=0
def PySem.W.Fast.tw14655154939807510317:Nat:=0
def PySem.W.Fast.tw13957871356801946574:Nat:=0
def PySem.W.Fast.tw3140780041035702656:Nat:=0
def PySem.W.Fast.tw9647624127852429945:Nat:=0
def PySem.W.Fast.tw3146584069306747369:Nat:=0
def PySem.W.Fast.tw5356750970425910529:Nat:=0
def PySem.W.Fast.tw1586736605174022214:Nat:=0
def PySem.W.Fast.tw15251438915025176041:Nat:=0
def PySem.W.Fast.tw11965613242909691923:Nat:=0
def PySem.W.Fast.tw7202971725267822202:Nat:=0
def PySem.W.Fast.tw16698985409665512848:Nat:=0
def PySem.W.Fast.tw12657935718170007934:Nat:=0
def PySem.W.Fast.tw5158476481244908479:Nat:=0
def PySem.W.Fast.tw4081438915806425398:Nat:=0
def PySem.W.Fast.tw8404954141718065544:Nat:=0
def PySem.W.Fast.tw12058664212353337469:Nat:=0
def PySem.W.Fast.tw17812496720737773534:Nat:=0
def PySem.W.Fast.tw768192301489432435:Nat:=0
def PySem.W.Fast.tw8603950628281648236:Nat:=0
def PySem.W.Fast.tw7632899521859589734:Nat:=0
def PySem.W.Fast.tw14154371020485166277:Nat:=0
def PySem.W.Fast.tw7791199632234827167:Nat:=0
def PySem.W.Fast.tw3470548543505963106:Nat:=0
def PySem.W.Fast.tw1703783534066585973:Nat:=0
namespace Rk
open L2
theorem Qx3{l:PySem.W.OpenLaw}{w:Jf}{K:PySem.W.Frag}{h:Heap}{mg:Str->Option Value}{fa f1 f2 f3 f4 f5 f6 f7 f8 f9 f10 f11 f12 f13 f14 f15 f16 f17 f18 f19 f20 f21 f22 f23 f24 f25 f26 f27 f28 f29 f30 f31 f32 f33 f34 f35 f36 f37 f38 f39 f40 f41 f42 f43 f44:Addr}(X:K.In h)(G:h.Ns mainGlobals mg)(hfa:mg "law" = some (.ref fa))
  {od1 an1 od2 an2 od3 an3 od4 an4 od5 an5 od6 an6 od7 an7 od8 an8 od9 an9 od10 an10 od11 an11 od12 an12 od13 an13 od14 an14 od15 an15 od16 an16 od17 an17 od18 an18 od19 an19 od20 an20 od21 an21 od22 an22 od23 an23 od24 an24 od25 an25 od26 an26 od27 an27 od28 an28 od29 an29 od30 an30 od31 an31 od32 an32 od33 an33 od34 an34 od35 an35 od36 an36 od37 an37 od38 an38 od39 an39 od40 an40 od41 an41 od42 an42 od43 an43 od44 an44:Option Addr} {sl1 sl2 sl3 sl4 sl5 sl6 sl7 sl8 sl9 sl10 sl11 sl12 sl13 sl14 sl15 sl16 sl17 sl18 sl19 sl20 sl21 sl22 sl23 sl24 sl25 sl26 sl27 sl28 sl29 sl30 sl31 sl32 sl33 sl34 sl35 sl36 sl37 sl38 sl39 sl40 sl41 sl42 sl43 sl44:Array (Option Value)} {oc1 kV1 dc1 pm1 cd1 ct1 oc2 kV2 dc2 pm2 cd2 ct2 oc3 kV3 dc3 pm3 cd3 ct3 oc4 kV4 dc4 pm4 cd4 ct4 oc5 kV5 dc5 pm5 cd5 ct5 oc6 kV6 dc6 pm6 cd6 ct6 oc7 kV7 dc7 pm7 cd7 ct7 oc8 kV8 dc8 pm8 cd8 ct8 oc9 kV9 dc9 pm9 cd9 ct9 oc10 kV10 dc10 pm10 cd10 ct10 oc11 kV11 dc11 pm11 cd11 ct11 oc12 kV12 dc12 pm12 cd12 ct12 oc13 kV13 dc13 pm13 cd13 ct13 oc14 kV14 dc14 pm14 cd14 ct14 oc15 kV15 dc15 pm15 cd15 ct15 oc16 kV16 dc16 pm16 cd16 ct16 oc17 kV17 dc17 pm17 cd17 ct17 oc18 kV18 dc18 pm18 cd18 ct18 oc19 kV19 dc19 pm19 cd19 ct19 oc20 kV20 dc20 pm20 cd20 ct20 oc21 kV21 dc21 pm21 cd21 ct21 oc22 kV22 dc22 pm22 cd22 ct22 oc23 kV23 dc23 pm23 cd23 ct23 oc24 kV24 dc24 pm24 cd24 ct24 oc25 kV25 dc25 pm25 cd25 ct25 oc26 kV26 dc26 pm26 cd26 ct26 oc27 kV27 dc27 pm27 cd27 ct27 oc28 kV28 dc28 pm28 cd28 ct28 oc29 kV29 dc29 pm29 cd29 ct29 oc30 kV30 dc30 pm30 cd30 ct30 oc31 kV31 dc31 pm31 cd31 ct31 oc32 kV32 dc32 pm32 cd32 ct32 oc33 kV33 dc33 pm33 cd33 ct33 oc34 kV34 dc34 pm34 cd34 ct34 oc35 kV35 dc35 pm35 cd35 ct35 oc36 kV36 dc36 pm36 cd36 ct36 oc37 kV37 dc37 pm37 cd37 ct37 oc38 kV38 dc38 pm38 cd38 ct38 oc39 kV39 dc39 pm39 cd39 ct39 oc40 kV40 dc40 pm40 cd40 ct40 oc41 kV41 dc41 pm41 cd41 ct41 oc42 kV42 dc42 pm42 cd42 ct42 oc43 kV43 dc43 pm43 cd43 ct43 oc44 kV44 dc44 pm44 cd44 ct44:Value}
  (a1:PySem.W.nsIn K mainGlobals "is_whole" = some (some (.ref f1))) (l1:K.lookup f1=some ⟨oc1,od1,.func (PySem.W.fnOf "is_whole" "is_whole" (Jo Qfb) (Jh Qfb) (Qm Qfb) .none kV1 dc1 pm1 an1 cd1 ct1),sl1⟩) (c1:PySem.W.codeIn K cd1 "is_whole" = true) (k1:PySem.W.keepIn K (.ref f1)=true)
  (a2:PySem.W.nsIn K mainGlobals "is_whole_within" = some (some (.ref f2)))(l2:K.lookup f2=some ⟨oc2,od2,.func (PySem.W.fnOf "is_whole_within" "is_whole_within" (Jo Qc5) (Jh Qc5) (Qm Qc5) .none kV2 dc2 pm2 an2 cd2 ct2),sl2⟩)(c2:PySem.W.codeIn K cd2 "is_whole_within" = true)(k2:PySem.W.keepIn K (.ref f2)=true)
  (a3:PySem.W.nsIn K mainGlobals "is_rising" = some (some (.ref f3)))(l3:K.lookup f3=some ⟨oc3,od3,.func (PySem.W.fnOf "is_rising" "is_rising" (Jo Qc7) (Jh Qc7) (Qm Qc7) .none kV3 dc3 pm3 an3 cd3 ct3),sl3⟩)(c3:PySem.W.codeIn K cd3 "is_rising" = true)(k3:PySem.W.keepIn K (.ref f3)=true)
  (a4:PySem.W.nsIn K mainGlobals "is_place" = some (some (.ref f4)))(l4:K.lookup f4=some ⟨oc4,od4,.func (PySem.W.fnOf "is_place" "is_place" (Jo Qfd) (Jh Qfd) (Qm Qfd) .none kV4 dc4 pm4 an4 cd4 ct4),sl4⟩)(c4:PySem.W.codeIn K cd4 "is_place" = true)(k4:PySem.W.keepIn K (.ref f4)=true)
  (a5:PySem.W.nsIn K mainGlobals "turned" = some (some (.ref f5)))(l5:K.lookup f5=some ⟨oc5,od5,.func (PySem.W.fnOf "turned" "turned" (Jo Qke) (Jh Qke) (Qm Qke) .none kV5 dc5 pm5 an5 cd5 ct5),sl5⟩)(c5:PySem.W.codeIn K cd5 "turned" = true)(k5:PySem.W.keepIn K (.ref f5)=true)
  (a6:PySem.W.nsIn K mainGlobals "picked" = some (some (.ref f6)))(l6:K.lookup f6=some ⟨oc6,od6,.func (PySem.W.fnOf "picked" "picked" (Jo Qc9) (Jh Qc9) (Qm Qc9) .none kV6 dc6 pm6 an6 cd6 ct6),sl6⟩)(c6:PySem.W.codeIn K cd6 "picked" = true)(k6:PySem.W.keepIn K (.ref f6)=true)
  (a7:PySem.W.nsIn K mainGlobals "is_lines" = some (some (.ref f7)))(l7:K.lookup f7=some ⟨oc7,od7,.func (PySem.W.fnOf "is_lines" "is_lines" (Jo Qff) (Jh Qff) (Qm Qff) .none kV7 dc7 pm7 an7 cd7 ct7),sl7⟩)(c7:PySem.W.codeIn K cd7 "is_lines" = true)(k7:PySem.W.keepIn K (.ref f7)=true)
  (a8:PySem.W.nsIn K mainGlobals "is_numbers_rising" = some (some (.ref f8)))(l8:K.lookup f8=some ⟨oc8,od8,.func (PySem.W.fnOf "is_numbers_rising" "is_numbers_rising" (Jo Qki) (Jh Qki) (Qm Qki) .none kV8 dc8 pm8 an8 cd8 ct8),sl8⟩)(c8:PySem.W.codeIn K cd8 "is_numbers_rising" = true)(k8:PySem.W.keepIn K (.ref f8)=true)
  (a9:PySem.W.nsIn K mainGlobals "without_lines" = some (some (.ref f9)))(l9:K.lookup f9=some ⟨oc9,od9,.func (PySem.W.fnOf "without_lines" "without_lines" (Jo sWl) (Jh sWl) (Qm sWl) .none kV9 dc9 pm9 an9 cd9 ct9),sl9⟩)(c9:PySem.W.codeIn K cd9 "without_lines" = true)(k9:PySem.W.keepIn K (.ref f9)=true)
  (a10:PySem.W.nsIn K mainGlobals "others" = some (some (.ref f10)))(l10:K.lookup f10=some ⟨oc10,od10,.func (PySem.W.fnOf "others" "others" (Jo sOth) (Jh sOth) (Qm sOth) .none kV10 dc10 pm10 an10 cd10 ct10),sl10⟩)(c10:PySem.W.codeIn K cd10 "others" = true)(k10:PySem.W.keepIn K (.ref f10)=true)
  (a11:PySem.W.nsIn K mainGlobals "without" = some (some (.ref f11)))(l11:K.lookup f11=some ⟨oc11,od11,.func (PySem.W.fnOf "without" "without" (Jo sWo) (Jh sWo) (Qm sWo) .none kV11 dc11 pm11 an11 cd11 ct11),sl11⟩)(c11:PySem.W.codeIn K cd11 "without" = true)(k11:PySem.W.keepIn K (.ref f11)=true)
  (a12:PySem.W.nsIn K mainGlobals "struck" = some (some (.ref f12)))(l12:K.lookup f12=some ⟨oc12,od12,.func (PySem.W.fnOf "struck" "struck" (Jo Qc6) (Jh Qc6) (Qm Qc6) .none kV12 dc12 pm12 an12 cd12 ct12),sl12⟩)(c12:PySem.W.codeIn K cd12 "struck" = true)(k12:PySem.W.keepIn K (.ref f12)=true)
  (a13:PySem.W.nsIn K mainGlobals "refuse_no_cell" = some (some (.ref f13)))(l13:K.lookup f13=some ⟨oc13,od13,.func (PySem.W.fnOf "refuse_no_cell" "refuse_no_cell" (Jo Qkh) (Jh Qkh) (Qm Qkh) .none kV13 dc13 pm13 an13 cd13 ct13),sl13⟩)(c13:PySem.W.codeIn K cd13 "refuse_no_cell" = true)(k13:PySem.W.keepIn K (.ref f13)=true)
  (a14:PySem.W.nsIn K mainGlobals "beside" = some (some (.ref f14)))(l14:K.lookup f14=some ⟨oc14,od14,.func (PySem.W.fnOf "beside" "beside" (Jo Qdc) (Jh Qdc) (Qm Qdc) .none kV14 dc14 pm14 an14 cd14 ct14),sl14⟩)(c14:PySem.W.codeIn K cd14 "beside" = true)(k14:PySem.W.keepIn K (.ref f14)=true)
  (a15:PySem.W.nsIn K mainGlobals "multiplied" = some (some (.ref f15)))(l15:K.lookup f15=some ⟨oc15,od15,.func (PySem.W.fnOf "multiplied" "multiplied" (Jo Qkj) (Jh Qkj) (Qm Qkj) .none kV15 dc15 pm15 an15 cd15 ct15),sl15⟩)(c15:PySem.W.codeIn K cd15 "multiplied" = true)(k15:PySem.W.keepIn K (.ref f15)=true)
  (a16:PySem.W.nsIn K mainGlobals "pieces" = some (some (.ref f16)))(l16:K.lookup f16=some ⟨oc16,od16,.func (PySem.W.fnOf "pieces" "pieces" (Jo Qc8) (Jh Qc8) (Qm Qc8) .none kV16 dc16 pm16 an16 cd16 ct16),sl16⟩)(c16:PySem.W.codeIn K cd16 "pieces" = true)(k16:PySem.W.keepIn K (.ref f16)=true)
  (a17:PySem.W.nsIn K mainGlobals "piece_with" = some (some (.ref f17)))(l17:K.lookup f17=some ⟨oc17,od17,.func (PySem.W.fnOf "piece_with" "piece_with" (Jo sPw) (Jh sPw) (Qm sPw) .none kV17 dc17 pm17 an17 cd17 ct17),sl17⟩)(c17:PySem.W.codeIn K cd17 "piece_with" = true)(k17:PySem.W.keepIn K (.ref f17)=true)
  (a18:PySem.W.nsIn K mainGlobals "meets_one" = some (some (.ref f18)))(l18:K.lookup f18=some ⟨oc18,od18,.func (PySem.W.fnOf "meets_one" "meets_one" (Jo Qfe) (Jh Qfe) (Qm Qfe) .none kV18 dc18 pm18 an18 cd18 ct18),sl18⟩)(c18:PySem.W.codeIn K cd18 "meets_one" = true)(k18:PySem.W.keepIn K (.ref f18)=true)
  (a19:PySem.W.nsIn K mainGlobals "counts" = some (some (.ref f19)))(l19:K.lookup f19=some ⟨oc19,od19,.func (PySem.W.fnOf "counts" "counts" (Jo Qda) (Jh Qda) (Qm Qda) .none kV19 dc19 pm19 an19 cd19 ct19),sl19⟩)(c19:PySem.W.codeIn K cd19 "counts" = true)(k19:PySem.W.keepIn K (.ref f19)=true)
  (a20:PySem.W.nsIn K mainGlobals "most_size" = some (some (.ref f20)))(l20:K.lookup f20=some ⟨oc20,od20,.func (PySem.W.fnOf "most_size" "most_size" (Jo Qkk) (Jh Qkk) (Qm Qkk) .none kV20 dc20 pm20 an20 cd20 ct20),sl20⟩)(c20:PySem.W.codeIn K cd20 "most_size" = true)(k20:PySem.W.keepIn K (.ref f20)=true)
  (a21:PySem.W.nsIn K mainGlobals "stand_at" = some (some (.ref f21)))(l21:K.lookup f21=some ⟨oc21,od21,.func (PySem.W.fnOf "stand_at" "stand_at" (Jo QbU) (Jh QbU) (Qm QbU) .none kV21 dc21 pm21 an21 cd21 ct21),sl21⟩)(c21:PySem.W.codeIn K cd21 "stand_at" = true)(k21:PySem.W.keepIn K (.ref f21)=true)
  (a22:PySem.W.nsIn K mainGlobals "refuse_no_size" = some (some (.ref f22)))(l22:K.lookup f22=some ⟨oc22,od22,.func (PySem.W.fnOf "refuse_no_size" "refuse_no_size" (Jo Qfc) (Jh Qfc) (Qm Qfc) .none kV22 dc22 pm22 an22 cd22 ct22),sl22⟩)(c22:PySem.W.codeIn K cd22 "refuse_no_size" = true)(k22:PySem.W.keepIn K (.ref f22)=true)
  (a23:PySem.W.nsIn K mainGlobals "followers" = some (some (.ref f23)))(l23:K.lookup f23=some ⟨oc23,od23,.func (PySem.W.fnOf "followers" "followers" (Jo sFol) (Jh sFol) (Qm sFol) .none kV23 dc23 pm23 an23 cd23 ct23),sl23⟩)(c23:PySem.W.codeIn K cd23 "followers" = true)(k23:PySem.W.keepIn K (.ref f23)=true)
  (a24:PySem.W.nsIn K mainGlobals "row_behind" = some (some (.ref f24)))(l24:K.lookup f24=some ⟨oc24,od24,.func (PySem.W.fnOf "row_behind" "row_behind" (Jo Qkg) (Jh Qkg) (Qm Qkg) .none kV24 dc24 pm24 an24 cd24 ct24),sl24⟩)(c24:PySem.W.codeIn K cd24 "row_behind" = true)(k24:PySem.W.keepIn K (.ref f24)=true)
  (a25:PySem.W.nsIn K mainGlobals "cell_at" = some (some (.ref f25)))(l25:K.lookup f25=some ⟨oc25,od25,.func (PySem.W.fnOf "cell_at" "cell_at" (Jo Qdb) (Jh Qdb) (Qm Qdb) .none kV25 dc25 pm25 an25 cd25 ct25),sl25⟩)(c25:PySem.W.codeIn K cd25 "cell_at" = true)(k25:PySem.W.keepIn K (.ref f25)=true)
  (a26:PySem.W.nsIn K mainGlobals "ways_behind" = some (some (.ref f26)))(l26:K.lookup f26=some ⟨oc26,od26,.func (PySem.W.fnOf "ways_behind" "ways_behind" (Jo Qkd) (Jh Qkd) (Qm Qkd) .none kV26 dc26 pm26 an26 cd26 ct26),sl26⟩)(c26:PySem.W.codeIn K cd26 "ways_behind" = true)(k26:PySem.W.keepIn K (.ref f26)=true)
  (a27:PySem.W.nsIn K mainGlobals "ways_to_go_on" = some (some (.ref f27)))(l27:K.lookup f27=some ⟨oc27,od27,.func (PySem.W.fnOf "ways_to_go_on" "ways_to_go_on" (Jo Qkc) (Jh Qkc) (Qm Qkc) .none kV27 dc27 pm27 an27 cd27 ct27),sl27⟩)(c27:PySem.W.codeIn K cd27 "ways_to_go_on" = true)(k27:PySem.W.keepIn K (.ref f27)=true)
  (a28:PySem.W.nsIn K mainGlobals "ways_with_row" = some (some (.ref f28)))(l28:K.lookup f28=some ⟨oc28,od28,.func (PySem.W.fnOf "ways_with_row" "ways_with_row" (Jo sRow) (Jh sRow) (Qm sRow) .none kV28 dc28 pm28 an28 cd28 ct28),sl28⟩)(c28:PySem.W.codeIn K cd28 "ways_with_row" = true)(k28:PySem.W.keepIn K (.ref f28)=true)
  (a29:PySem.W.nsIn K mainGlobals "how_many_lines" = some (some (.ref f29)))(l29:K.lookup f29=some ⟨oc29,od29,.func (PySem.W.fnOf "how_many_lines" "how_many_lines" (Jo sHow) (Jh sHow) (Qm sHow) .none kV29 dc29 pm29 an29 cd29 ct29),sl29⟩)(c29:PySem.W.codeIn K cd29 "how_many_lines" = true)(k29:PySem.W.keepIn K (.ref f29)=true)
  (a30:PySem.W.nsIn K mainGlobals "showing" = some (some (.ref f30)))(l30:K.lookup f30=some ⟨oc30,od30,.func (PySem.W.fnOf "showing" "showing" (Jo Qkf) (Jh Qkf) (Qm Qkf) .none kV30 dc30 pm30 an30 cd30 ct30),sl30⟩)(c30:PySem.W.codeIn K cd30 "showing" = true)(k30:PySem.W.keepIn K (.ref f30)=true)
  (a31:PySem.W.nsIn K mainGlobals "greatest_size" = some (some (.ref f31)))(l31:K.lookup f31=some ⟨oc31,od31,.func (PySem.W.fnOf "greatest_size" "greatest_size" (Jo Qfg) (Jh Qfg) (Qm Qfg) .none kV31 dc31 pm31 an31 cd31 ct31),sl31⟩)(c31:PySem.W.codeIn K cd31 "greatest_size" = true)(k31:PySem.W.keepIn K (.ref f31)=true)
  (a32:PySem.W.nsIn K mainGlobals "fewest_lines" = some (some (.ref f32)))(l32:K.lookup f32=some ⟨oc32,od32,.func (PySem.W.fnOf "fewest_lines" "fewest_lines" (Jo sFew) (Jh sFew) (Qm sFew) .none kV32 dc32 pm32 an32 cd32 ct32),sl32⟩)(c32:PySem.W.codeIn K cd32 "fewest_lines" = true)(k32:PySem.W.keepIn K (.ref f32)=true)
  (a33:PySem.W.nsIn K mainGlobals "lots_of_rows" = some (some (.ref f33)))(l33:K.lookup f33=some ⟨oc33,od33,.func (PySem.W.fnOf "lots_of_rows" "lots_of_rows" (Jo Qkl) (Jh Qkl) (Qm Qkl) .none kV33 dc33 pm33 an33 cd33 ct33),sl33⟩)(c33:PySem.W.codeIn K cd33 "lots_of_rows" = true)(k33:PySem.W.keepIn K (.ref f33)=true)
  (a34:PySem.W.nsIn K mainGlobals "lines_with" = some (some (.ref f34)))(l34:K.lookup f34=some ⟨oc34,od34,.func (PySem.W.fnOf "lines_with" "lines_with" (Jo sLW) (Jh sLW) (Qm sLW) .none kV34 dc34 pm34 an34 cd34 ct34),sl34⟩)(c34:PySem.W.codeIn K cd34 "lines_with" = true)(k34:PySem.W.keepIn K (.ref f34)=true)
  (a35:PySem.W.nsIn K mainGlobals "_law_cell_at" = some (some (.ref f35)))(l35:K.lookup f35=some ⟨oc35,od35,.func (PySem.W.fnOf "_law_cell_at" "_law_cell_at" (Jo Qdi) (Jh Qdi) (Qm Qdi) .none kV35 dc35 pm35 an35 cd35 ct35),sl35⟩)(c35:PySem.W.codeIn K cd35 "_law_cell_at" = true)(k35:PySem.W.keepIn K (.ref f35)=true)
  (a36:PySem.W.nsIn K mainGlobals "_law_pot" = some (some (.ref f36)))(l36:K.lookup f36=some ⟨oc36,od36,.func (PySem.W.fnOf "_law_pot" "_law_pot" (Jo lPot) (Jh lPot) (Qm lPot) .none kV36 dc36 pm36 an36 cd36 ct36),sl36⟩)(c36:PySem.W.codeIn K cd36 "_law_pot" = true)(k36:PySem.W.keepIn K (.ref f36)=true)
  (a37:PySem.W.nsIn K mainGlobals "_law_take" = some (some (.ref f37)))(l37:K.lookup f37=some ⟨oc37,od37,.func (PySem.W.fnOf "_law_take" "_law_take" (Jo Qky) (Jh Qky) (Qm Qky) .none kV37 dc37 pm37 an37 cd37 ct37),sl37⟩)(c37:PySem.W.codeIn K cd37 "_law_take" = true)(k37:PySem.W.keepIn K (.ref f37)=true)
  (a38:PySem.W.nsIn K mainGlobals "_law_board" = some (some (.ref f38)))(l38:K.lookup f38=some ⟨oc38,od38,.func (PySem.W.fnOf "_law_board" "_law_board" (Jo Qfo) (Jh Qfo) (Qm Qfo) .none kV38 dc38 pm38 an38 cd38 ct38),sl38⟩)(c38:PySem.W.codeIn K cd38 "_law_board" = true)(k38:PySem.W.keepIn K (.ref f38)=true)
  (a39:PySem.W.nsIn K mainGlobals "_law_cut" = some (some (.ref f39)))(l39:K.lookup f39=some ⟨oc39,od39,.func (PySem.W.fnOf "_law_cut" "_law_cut" (Jo lCut) (Jh lCut) (Qm lCut) .none kV39 dc39 pm39 an39 cd39 ct39),sl39⟩)(c39:PySem.W.codeIn K cd39 "_law_cut" = true)(k39:PySem.W.keepIn K (.ref f39)=true)
  (a40:PySem.W.nsIn K mainGlobals "_law_sum" = some (some (.ref f40)))(l40:K.lookup f40=some ⟨oc40,od40,.func (PySem.W.fnOf "_law_sum" "_law_sum" (Jo lSum) (Jh lSum) (Qm lSum) .none kV40 dc40 pm40 an40 cd40 ct40),sl40⟩)(c40:PySem.W.codeIn K cd40 "_law_sum" = true)(k40:PySem.W.keepIn K (.ref f40)=true)
  (a41:PySem.W.nsIn K mainGlobals "_law_cell_right" = some (some (.ref f41)))(l41:K.lookup f41=some ⟨oc41,od41,.func (PySem.W.fnOf "_law_cell_right" "_law_cell_right" (Jo Qkz) (Jh Qkz) (Qm Qkz) .none kV41 dc41 pm41 an41 cd41 ct41),sl41⟩)(c41:PySem.W.codeIn K cd41 "_law_cell_right" = true)(k41:PySem.W.keepIn K (.ref f41)=true)
  (a42:PySem.W.nsIn K mainGlobals "_law_pieces_right" = some (some (.ref f42)))(l42:K.lookup f42=some ⟨oc42,od42,.func (PySem.W.fnOf "_law_pieces_right" "_law_pieces_right" (Jo lPcs) (Jh lPcs) (Qm lPcs) .none kV42 dc42 pm42 an42 cd42 ct42),sl42⟩)(c42:PySem.W.codeIn K cd42 "_law_pieces_right" = true)(k42:PySem.W.keepIn K (.ref f42)=true)
  (a43:PySem.W.nsIn K mainGlobals "_law_both_right" = some (some (.ref f43)))(l43:K.lookup f43=some ⟨oc43,od43,.func (PySem.W.fnOf "_law_both_right" "_law_both_right" (Jo QkA) (Jh QkA) (Qm QkA) .none kV43 dc43 pm43 an43 cd43 ct43),sl43⟩)(c43:PySem.W.codeIn K cd43 "_law_both_right" = true)(k43:PySem.W.keepIn K (.ref f43)=true)
  (a44:PySem.W.nsIn K mainGlobals "law" = some (some (.ref f44)))(l44:K.lookup f44=some ⟨oc44,od44,.func (PySem.W.fnOf "law" "law" (Jo sLaw) (Jh sLaw) (Qm sLaw) .none kV44 dc44 pm44 an44 cd44 ct44),sl44⟩)(c44:PySem.W.codeIn K cd44 "law" = true)(k44:PySem.W.keepIn K (.ref f44)=true)
  (z1:PySem.W.nsIn K mainGlobals "isinstance" = some none)
  (z2:PySem.W.nsIn K mainGlobals "int" = some none)
  (z3:PySem.W.nsIn K mainGlobals "bool" = some none)
  (z4:PySem.W.nsIn K mainGlobals "str" = some none)
  (z5:PySem.W.nsIn K mainGlobals "tuple" = some none)
  (z6:PySem.W.nsIn K mainGlobals "list" = some none)
  (z7:PySem.W.nsIn K mainGlobals "all" = some none)
  (z8:PySem.W.nsIn K mainGlobals "len" = some none)
  (z9:PySem.W.nsIn K mainGlobals "zip" = some none)
  (z10:PySem.W.nsIn K mainGlobals "enumerate" = some none)
  (z11:PySem.W.nsIn K mainGlobals "range" = some none)
  (z12:PySem.W.nsIn K mainGlobals "max" = some none)
  (z13:PySem.W.nsIn K mainGlobals "min" = some none)
  (z14:PySem.W.nsIn K mainGlobals "sorted" = some none)
  (z15:PySem.W.nsIn K mainGlobals "sum" = some none)
  (z16:PySem.W.nsIn K mainGlobals "set" = some none)
  (z17:PySem.W.nsIn K mainGlobals "any" = some none)
  (z18:PySem.W.nsIn K mainGlobals "reversed" = some none)
  (z19:PySem.W.nsIn K mainGlobals "divmod" = some none)
  {tA:_} (aA:PySem.W.nsIn K mainGlobals "MOST_LINES" = some (some (.int 6 tA)))
  :
  ∃fd:QL,(∀(s:Shared)(v:Value),Qom s fd ⟨[v],[]⟩ [("_law_script",v)])/\∀base:Heap,K.In base->base.Ns mainGlobals mg->FnOk l.prog w K mg base CX0 8 fa fd ["_law_script"] (Dl.Qe9 K):=by
 have e:=hfa.symm.trans (PySem.W.mg_of X G a44);cases e;have T:=(⟨(PySem.W.mg_none_of X G z1),(PySem.W.mg_none_of X G z2),(PySem.W.mg_none_of X G z3),(PySem.W.mg_none_of X G z4),(PySem.W.mg_none_of X G z5),(PySem.W.mg_none_of X G z6),(PySem.W.mg_none_of X G z7),(PySem.W.mg_none_of X G z8),(PySem.W.mg_none_of X G z9),(PySem.W.mg_none_of X G z10),(PySem.W.mg_none_of X G z11),(PySem.W.mg_none_of X G z12),(PySem.W.mg_none_of X G z13),(PySem.W.mg_none_of X G z14),(PySem.W.mg_none_of X G z15),(PySem.W.mg_none_of X G z16),(PySem.W.mg_none_of X G z17),(PySem.W.mg_none_of X G z18),(PySem.W.mg_none_of X G z19)⟩:GlbA mg);have F1:=Zb (st:=Qfb) l1 c1 k1;have b1:=F1.binds (ps:=["thing"]) λ_ _ _ _ _ _ us hl=>match us,hl with | [_],_=>rfl
 have m1:=PySem.W.mg_of X G a1;have F2:=Zb (st:=Qc5) l2 c2 k2;have b2:=F2.binds (ps:=["thing", "least", "most"]) λ_ _ _ _ _ _ us hl=>match us,hl with | [_,_,_],_=>rfl
 have m2:=PySem.W.mg_of X G a2;have F3:=Zb (st:=Qc7) l3 c3 k3;have b3:=F3.binds (ps:=["things"]) λ_ _ _ _ _ _ us hl=>match us,hl with | [_],_=>rfl
 have m3:=PySem.W.mg_of X G a3;have F4:=Zb (st:=Qfd) l4 c4 k4;have b4:=F4.binds (ps:=["high", "wide", "thing"]) λ_ _ _ _ _ _ us hl=>match us,hl with | [_,_,_],_=>rfl
 have m4:=PySem.W.mg_of X G a4;have F5:=Zb (st:=Qke) l5 c5 k5;have b5:=F5.binds (ps:=["board"]) λ_ _ _ _ _ _ us hl=>match us,hl with | [_],_=>rfl
 have m5:=PySem.W.mg_of X G a5;have F6:=Zb (st:=Qc9) l6 c6 k6;have b6:=F6.binds (ps:=["board", "rows", "columns"]) λ_ _ _ _ _ _ us hl=>match us,hl with | [_,_,_],_=>rfl
 have m6:=PySem.W.mg_of X G a6;have F7:=Zb (st:=Qff) l7 c7 k7;have b7:=F7.binds (ps:=["board", "thing"]) λ_ _ _ _ _ _ us hl=>match us,hl with | [_,_],_=>rfl
 have m7:=PySem.W.mg_of X G a7;have F8:=Zb (st:=Qki) l8 c8 k8;have b8:=F8.binds (ps:=["many", "thing"]) λ_ _ _ _ _ _ us hl=>match us,hl with | [_,_],_=>rfl
 have m8:=PySem.W.mg_of X G a8;have F9:=Zb (st:=sWl) l9 c9 k9;have b9:=F9.binds (ps:=["board", "lines"]) λ_ _ _ _ _ _ us hl=>match us,hl with | [_,_],_=>rfl
 have m9:=PySem.W.mg_of X G a9;have F10:=Zb (st:=sOth) l10 c10 k10;have b10:=F10.binds (ps:=["many", "numbers"]) λ_ _ _ _ _ _ us hl=>match us,hl with | [_,_],_=>rfl
 have m10:=PySem.W.mg_of X G a10;have F11:=Zb (st:=sWo) l11 c11 k11;have b11:=F11.binds (ps:=["board", "cell"]) λ_ _ _ _ _ _ us hl=>match us,hl with | [_,_],_=>rfl
 have m11:=PySem.W.mg_of X G a11;have F12:=Zb (st:=Qc6) l12 c12 k12;have b12:=F12.binds (ps:=["board", "cell"]) λ_ _ _ _ _ _ us hl=>match us,hl with | [_,_],_=>rfl
 have m12:=PySem.W.mg_of X G a12;have F13:=Zb (st:=Qkh) l13 c13 k13;have b13:=F13.binds (ps:=["board", "cell"]) λ_ _ _ _ _ _ us hl=>match us,hl with | [_,_],_=>rfl
 have m13:=PySem.W.mg_of X G a13;have F14:=Zb (st:=Qdc) l14 c14 k14;have b14:=F14.binds (ps:=["one", "other"]) λ_ _ _ _ _ _ us hl=>match us,hl with | [_,_],_=>rfl
 have m14:=PySem.W.mg_of X G a14;have F15:=Zb (st:=Qkj) l15 c15 k15;have b15:=F15.binds (ps:=["one", "other"]) λ_ _ _ _ _ _ us hl=>match us,hl with | [_,_],_=>rfl
 have m15:=PySem.W.mg_of X G a15;have F16:=Zb (st:=Qc8) l16 c16 k16;have b16:=F16.binds (ps:=["board"]) λ_ _ _ _ _ _ us hl=>match us,hl with | [_],_=>rfl
 have m16:=PySem.W.mg_of X G a16;have F17:=Zb (st:=sPw) l17 c17 k17;have b17:=F17.binds (ps:=["cell", "cells"]) λ_ _ _ _ _ _ us hl=>match us,hl with | [_,_],_=>rfl
 have m17:=PySem.W.mg_of X G a17;have F18:=Zb (st:=Qfe) l18 c18 k18;have b18:=F18.binds (ps:=["cell", "cells"]) λ_ _ _ _ _ _ us hl=>match us,hl with | [_,_],_=>rfl
 have m18:=PySem.W.mg_of X G a18;have F19:=Zb (st:=Qda) l19 c19 k19;have b19:=F19.binds (ps:=["board"]) λ_ _ _ _ _ _ us hl=>match us,hl with | [_],_=>rfl
 have m19:=PySem.W.mg_of X G a19;have F20:=Zb (st:=Qkk) l20 c20 k20;have b20:=F20.binds (ps:=["board"]) λ_ _ _ _ _ _ us hl=>match us,hl with | [_],_=>rfl
 have m20:=PySem.W.mg_of X G a20;have F21:=Zb (st:=QbU) l21 c21 k21;have b21:=F21.binds (ps:=["board", "size", "number"]) λ_ _ _ _ _ _ us hl=>match us,hl with | [_,_,_],_=>rfl
 have m21:=PySem.W.mg_of X G a21;have F22:=Zb (st:=Qfc) l22 c22 k22;have b22:=F22.binds (ps:=["board", "size"]) λ_ _ _ _ _ _ us hl=>match us,hl with | [_,_],_=>rfl
 have m22:=PySem.W.mg_of X G a22;have F23:=Zb (st:=sFol) l23 c23 k23;have b23:=F23.binds (ps:=["board", "start"]) λ_ _ _ _ _ _ us hl=>match us,hl with | [_,_],_=>rfl
 have m23:=PySem.W.mg_of X G a23;have F24:=Zb (st:=Qkg) l24 c24 k24;have b24:=F24.binds (ps:=["start"]) λ_ _ _ _ _ _ us hl=>match us,hl with | [_],_=>rfl
 have m24:=PySem.W.mg_of X G a24;have F25:=Zb (st:=Qdb) l25 c25 k25;have b25:=F25.binds (ps:=["board", "table", "start", "more", "number"]) λ_ _ _ _ _ _ us hl=>match us,hl with | [_,_,_,_,_],_=>rfl
 have m25:=PySem.W.mg_of X G a25;have F26:=Zb (st:=Qkd) l26 c26 k26;have b26:=F26.binds (ps:=["table", "start", "more"]) λ_ _ _ _ _ _ us hl=>match us,hl with | [_,_,_],_=>rfl
 have m26:=PySem.W.mg_of X G a26;have F27:=Zb (st:=Qkc) l27 c27 k27;have b27:=F27.binds (ps:=["board"]) λ_ _ _ _ _ _ us hl=>match us,hl with | [_],_=>rfl
 have m27:=PySem.W.mg_of X G a27;have F28:=Zb (st:=sRow) l28 c28 k28;have b28:=F28.binds (ps:=["below", "columns", "taken"]) λ_ _ _ _ _ _ us hl=>match us,hl with | [_,_,_],_=>rfl
 have m28:=PySem.W.mg_of X G a28;have F29:=Zb (st:=sHow) l29 c29 k29;have b29:=F29.binds (ps:=["lines"]) λ_ _ _ _ _ _ us hl=>match us,hl with | [_],_=>rfl
 have m29:=PySem.W.mg_of X G a29;have F30:=Zb (st:=Qkf) l30 c30 k30;have b30:=F30.binds (ps:=["board"]) λ_ _ _ _ _ _ us hl=>match us,hl with | [_],_=>rfl
 have m30:=PySem.W.mg_of X G a30;have F31:=Zb (st:=Qfg) l31 c31 k31;have b31:=F31.binds (ps:=["board"]) λ_ _ _ _ _ _ us hl=>match us,hl with | [_],_=>rfl
 have m31:=PySem.W.mg_of X G a31;have F32:=Zb (st:=sFew) l32 c32 k32;have b32:=F32.binds (ps:=["board"]) λ_ _ _ _ _ _ us hl=>match us,hl with | [_],_=>rfl
 have m32:=PySem.W.mg_of X G a32;have F33:=Zb (st:=Qkl) l33 c33 k33;have b33:=F33.binds (ps:=["high"]) λ_ _ _ _ _ _ us hl=>match us,hl with | [_],_=>rfl
 have m33:=PySem.W.mg_of X G a33;have F34:=Zb (st:=sLW) l34 c34 k34;have b34:=F34.binds (ps:=["board", "rows"]) λ_ _ _ _ _ _ us hl=>match us,hl with | [_,_],_=>rfl
 have m34:=PySem.W.mg_of X G a34;have F35:=Zb (st:=Qdi) l35 c35 k35;have b35:=F35.binds (ps:=["_law_script", "_law_k"]) λ_ _ _ _ _ _ us hl=>match us,hl with | [_,_],_=>rfl
 have m35:=PySem.W.mg_of X G a35;have F36:=Zb (st:=lPot) l36 c36 k36;have b36:=F36.binds (ps:=["_law_cell"]) λ_ _ _ _ _ _ us hl=>match us,hl with | [_],_=>rfl
 have m36:=PySem.W.mg_of X G a36;have F37:=Zb (st:=Qky) l37 c37 k37;have b37:=F37.binds (ps:=["_law_pot_here", "_law_far"]) λ_ _ _ _ _ _ us hl=>match us,hl with | [_,_],_=>rfl
 have m37:=PySem.W.mg_of X G a37;have F38:=Zb (st:=Qfo) l38 c38 k38;have b38:=F38.binds (ps:=["_law_pot_here", "_law_most"]) λ_ _ _ _ _ _ us hl=>match us,hl with | [_,_],_=>rfl
 have m38:=PySem.W.mg_of X G a38;have F39:=Zb (st:=lCut) l39 c39 k39;have b39:=F39.binds (ps:=["_law_some"]) λ_ _ _ _ _ _ us hl=>match us,hl with | [_],_=>rfl
 have m39:=PySem.W.mg_of X G a39;have F40:=Zb (st:=lSum) l40 c40 k40;have b40:=F40.binds (ps:=["_law_one", "_law_other"]) λ_ _ _ _ _ _ us hl=>match us,hl with | [_,_],_=>rfl
 have m40:=PySem.W.mg_of X G a40;have F41:=Zb (st:=Qkz) l41 c41 k41;have b41:=F41.binds (ps:=["_law_board_here", "_law_cell"]) λ_ _ _ _ _ _ us hl=>match us,hl with | [_,_],_=>rfl
 have m41:=PySem.W.mg_of X G a41;have F42:=Zb (st:=lPcs) l42 c42 k42;have b42:=F42.binds (ps:=["_law_board_here"]) λ_ _ _ _ _ _ us hl=>match us,hl with | [_],_=>rfl
 have m42:=PySem.W.mg_of X G a42;have F43:=Zb (st:=QkA) l43 c43 k43;have b43:=F43.binds (ps:=["_law_one", "_law_other"]) λ_ _ _ _ _ _ us hl=>match us,hl with | [_,_],_=>rfl
 have m43:=PySem.W.mg_of X G a43;have F44:=Zb (st:=sLaw) l44 c44 k44;refine⟨PySem.W.fnOf "law" "law" (Jo sLaw) (Jh sLaw) (Qm sLaw) .none kV44 dc44 pm44 an44 cd44 ct44,λs v=>.of_eq rfl,λbase _ _=>?_⟩;have G1:FnOk l.prog w K mg base CX0 1 f1 _ ["thing"] (Dl.JO false Dl.Qlg):=Qpx F1 T ;have G2:FnOk l.prog w K mg base CX0 2 f2 _ ["thing", "least", "most"] (Dl.JO false QcZ):=Qmv F2 T m1 G1 b1 k1;have G3:FnOk l.prog w K mg base CX0 1 f3 _ ["things"] (Dl.JO false Qij):=Qmx F3 T ;have G4:FnOk l.prog w K mg base CX0 3 f4 _ ["high", "wide", "thing"] (Dl.JO false Qmd):=Qpz F4 T m2 G2 b2 k2;have G5:FnOk l.prog w K mg base CX0 2 f5 _ ["board"] (Dl.JO false QsP):=Qt9 F5 T ;have G6:FnOk l.prog w K mg base CX0 1 f6 _ ["board", "rows", "columns"] (Dl.JO false Qmo):=QmA F6 T ;have G8:FnOk l.prog w K mg base CX0 3 f8 _ ["many", "thing"] (Dl.JO false QmM):=Que F8 T m2 G2 b2 k2 m3 G3 b3 k3;have G7:FnOk l.prog w K mg base CX0 4 f7 _ ["board", "thing"] (Dl.JO false Qiw):=QpB F7 T m8 G8 b8 k8;have G10:FnOk l.prog w K mg base CX0 1 f10 _ ["many", "numbers"] (Dl.JO false QzK):=Qxb F10 T ;have G9:FnOk l.prog w K mg base CX0 5 f9 _ ["board", "lines"] (Dl.JO false Qy9):=QzP F9 T m7 G7 b7 k7 m10 G10 b10 k10 m6 G6 b6 k6;have G13:FnOk l.prog w K mg base CX0 4 f13 _ ["board", "cell"] (Dl.JO false QoT):=Qud F13 T m4 G4 b4 k4;have G11:FnOk l.prog w K mg base CX0 5 f11 _ ["board", "cell"] (Dl.JO false QfE):=QzO F11 T m13 G13 b13 k13;have G12:FnOk l.prog w K mg base CX0 6 f12 _ ["board", "cell"] (Dl.JO false Qic):=Qmw F12 T m13 G13 b13 k13 m9 G9 b9 k9;have G14:FnOk l.prog w K mg base CX0 1 f14 _ ["one", "other"] (Dl.JO false QiQ):=QmG ⟨_,PySem.W.mg_of X G aA⟩ F14 T;have G15:FnOk l.prog w K mg base CX0 1 f15 _ ["one", "other"] (Dl.JO true QpP):=Quf F15 T ;have G18:FnOk l.prog w K mg base CX0 1 f18 _ ["cell", "cells"] (Dl.JO false QmU):=QpA F18 T ;have G17:FnOk l.prog w K mg base CX0 2 f17 _ ["cell", "cells"] (Dl.JO false Qio):=Qmy F17 T m18 G18 b18 k18;have G16:FnOk l.prog w K mg base CX0 3 f16 _ ["board"] (Dl.JO true Qf1):=Qmz F16 T m17 G17 b17 k17;have G20:FnOk l.prog w K mg base CX0 1 f20 _ ["board"] (Dl.JO false QpQ):=Qug F20 T ;have G28:FnOk l.prog w K mg base CX0 1 f28 _ ["below", "columns", "taken"] (Dl.JO true QsJ):=Qt6 F28 T ;have G27:FnOk l.prog w K mg base CX0 2 f27 _ ["board"] (Dl.JO true Qoq):=Qt8 F27 T m28 G28 b28 k28;have G19:FnOk l.prog w K mg base CX0 3 f19 _ ["board"] (Dl.JO true Qcn):=QmD F19 T m27 G27 b27 k27 m20 G20 b20 k20;have G24:FnOk l.prog w K mg base CX0 1 f24 _ ["start"] (Dl.JO false QoM):=Quc F24 T ;have G23:FnOk l.prog w K mg base CX0 2 f23 _ ["board", "start"] (Dl.JO false QAd):=Qxe F23 T m24 G24 b24 k24;have G22:FnOk l.prog w K mg base CX0 3 f22 _ ["board", "size"] (Dl.JO false QlV):=Qpy F22 T m2 G2 b2 k2 m20 G20 b20 k20;have G26:FnOk l.prog w K mg base CX0 2 f26 _ ["table", "start", "more"] (Dl.JO false QsL):=Qt7 F26 T m24 G24 b24 k24;have G25:FnOk l.prog w K mg base CX0 3 f25 _ ["board", "table", "start", "more", "number"] (Dl.JO false QiN):=QmE F25 T m23 G23 b23 k23 m26 G26 b26 k26;have G21:FnOk l.prog w K mg base CX0 4 f21 _ ["board", "size", "number"] (Dl.JO false QfL):=Qkr F21 T m22 G22 b22 k22 m27 G27 b27 k27 m2 G2 b2 k2 m25 G25 b25 k25;have G31:FnOk l.prog w K mg base CX0 4 f31 _ ["board"] (Dl.JO false Qnb):=QpE F31 T m19 G19 b19 k19;have G34:FnOk l.prog w K mg base CX0 1 f34 _ ["board", "rows"] (Dl.JO false lwD):=(QzQ F34 T).imp λ_ _ _ _ h=>QBI h
 have G29:FnOk l.prog w K mg base CX0 1 f29 _ ["lines"] (Dl.JO false Qz8):=Qxd F29 T ;have G33:FnOk l.prog w K mg base CX0 1 f33 _ ["high"] (Dl.JO false Qiv):=Quj F33 T ;have G32:FnOk l.prog w K mg base CX0 3 f32 _ ["board"] (Dl.JO false Qni):=QmC F32 T m34 G34 b34 k34 m33 G33 b33 k33 m29 G29 b29 k29;have G30:FnOk l.prog w K mg base CX0 5 f30 _ ["board"] (Dl.JO false Qif):=Qub F30 T m21 G21 b21 k21 m31 G31 b31 k31 m32 G32 b32 k32;have G35:FnOk l.prog w K mg base CX0 1 f35 _ ["_law_script", "_law_k"] (QcE K):=QmF F35 T ;have G36:FnOk l.prog w K mg base CX0 1 f36 _ ["_law_cell"] (Dl.JO true Dl.Qzy):=(Qxa F36 T).imp λ_ _ _ _ h=>Dl.Qzx h
 have G37:FnOk l.prog w K mg base CX0 1 f37 _ ["_law_pot_here", "_law_far"] (Dl.JO true Dl.Qov):=(Qua F37 T).imp λ_ _ _ _ h=>Dl.QvV h
 have G38:FnOk l.prog w K mg base CX0 2 f38 _ ["_law_pot_here", "_law_most"] (Dl.JO false QiB):=QmB F38 T m37 G37 b37 k37;have G39:FnOk l.prog w K mg base CX0 1 f39 _ ["_law_some"] (Dl.JO true QiA):=Quk F39 T ;have G40:FnOk l.prog w K mg base CX0 1 f40 _ ["_law_one", "_law_other"] (Dl.JO true QpW):=Quh F40 T ;have G41:FnOk l.prog w K mg base CX0 7 f41 _ ["_law_board_here", "_law_cell"] (Dl.JO false Qm0):=QpC F41 T m19 G19 b19 k19 m11 G11 b11 k11 m12 G12 b12 k12 m39 G39 b39 k39 m40 G40 b40 k40;have G42:FnOk l.prog w K mg base CX0 4 f42 _ ["_law_board_here"] (Dl.JO false QuA):=Qui F42 T m16 G16 b16 k16 m15 G15 b15 k15 m39 G39 b39 k39 m19 G19 b19 k19 m5 G5 b5 k5;have G43:FnOk l.prog w K mg base CX0 6 f43 _ ["_law_one", "_law_other"] (Dl.JO false Qm1):=QpD F43 T m14 G14 b14 k14 m39 G39 b39 k39 m19 G19 b19 k19 m15 G15 b15 k15 m30 G30 b30 k30 m16 G16 b16 k16;exact Qxc F44 T m35 G35 b35 k35 m36 G36 b36 k36 m38 G38 b38 k38 m37 G37 b37 k37 m41 G41 b41 k41 m42 G42 b42 k42 m43 G43 b43 k43
theorem QBn{l:PySem.W.OpenLaw}{q:QC}{loose:List Str}{XP:(Str->Option Value)->Heap->Prop}{YP:Jf->Heap->Prop}{d:DefRec}{K:Params->PySem.W.Frag}(hn:l.most=some 63)(hdf:d.params.defaults=[])
  (hY:∀(w:Jf)(h:Heap),YP w h->(K w.params).In h)
  (F:∀(w:Jf)(mg:Str->Option Value)(fa:Addr)(h:Heap),(K w.params).In h->h.Ns mainGlobals mg->mg d.name=some (.ref fa) ->
   ∃fd:QL,(∀(s:Shared)(u:Value),Qom s fd ⟨[u],[]⟩ [("_law_script",u)])/\∀base:Heap,(K w.params).In base->base.Ns mainGlobals mg->FnOk l.prog w (K w.params) mg base CX0 8 fa fd ["_law_script"] (Dl.Qe9 (K w.params))) :
  PySem.W.WalkO q loose XP YP l.row.toRowW d [] (λf vs=>PySem.call f vs):=
 L2.QsN (n:=63) (k:=8) (x := "_law_script") (CX:=λ_=>CX0) (sp:=λw=>(Dl.Qe9 (K w.params))) hn (by decide) hdf ⟨rfl,by decide,by decide⟩ hY F (λ_ _ a ns hl _ hS=>⟨a,ns,rfl,hS,hl,λ_=>rfl⟩) λ_ _ _ _ _ z=>z
end Rk
open PySem.W
set_option maxRecDepth 100000 in
set_option maxHeartbeats 0 in
theorem PySem.Challenge.cw_rooklands_k34_whole_counts_of_lesser_boa_holds : PySem.Challenge.rw_rooklands_k34_whole_counts_of_lesser_boa.Holds := by
 w_on;o_law;k_head;(case hw=>w_witness2)
 k_fill
 refine Rk.QBn (l:=PySem.Challenge.rw_rooklands_k34_whole_counts_of_lesser_boa) rfl rfl (λw h Y=>PySem.W.kIn_of Y) ?F
 case F=>
  intro w mg fa h KX G hmg;refine' Rk.Qx3 KX G hmg ?a1 ?l1 ?c1 ?k1 ?a2 ?l2 ?c2 ?k2 ?a3 ?l3 ?c3 ?k3 ?a4 ?l4 ?c4 ?k4 ?a5 ?l5 ?c5 ?k5 ?a6 ?l6 ?c6 ?k6 ?a7 ?l7 ?c7 ?k7 ?a8 ?l8 ?c8 ?k8 ?a9 ?l9 ?c9 ?k9 ?a10 ?l10 ?c10 ?k10 ?a11 ?l11 ?c11 ?k11 ?a12 ?l12 ?c12 ?k12 ?a13 ?l13 ?c13 ?k13 ?a14 ?l14 ?c14 ?k14 ?a15 ?l15 ?c15 ?k15 ?a16 ?l16 ?c16 ?k16 ?a17 ?l17 ?c17 ?k17 ?a18 ?l18 ?c18 ?k18 ?a19 ?l19 ?c19 ?k19 ?a20 ?l20 ?c20 ?k20 ?a21 ?l21 ?c21 ?k21 ?a22 ?l22 ?c22 ?k22 ?a23 ?l23 ?c23 ?k23 ?a24 ?l24 ?c24 ?k24 ?a25 ?l25 ?c25 ?k25 ?a26 ?l26 ?c26 ?k26 ?a27 ?l27 ?c27 ?k27 ?a28 ?l28 ?c28 ?k28 ?a29 ?l29 ?c29 ?k29 ?a30 ?l30 ?c30 ?k30 ?a31 ?l31 ?c31 ?k31 ?a32 ?l32 ?c32 ?k32 ?a33 ?l33 ?c33 ?k33 ?a34 ?l34 ?c34 ?k34 ?a35 ?l35 ?c35 ?k35 ?a36 ?l36 ?c36 ?k36 ?a37 ?l37 ?c37 ?k37 ?a38 ?l38 ?c38 ?k38 ?a39 ?l39 ?c39 ?k39 ?a40 ?l40 ?c40 ?k40 ?a41 ?l41 ?c41 ?k41 ?a42 ?l42 ?c42 ?k42 ?a43 ?l43 ?c43 ?k43 ?a44 ?l44 ?c44 ?k44 ?z1 ?z2 ?z3 ?z4 ?z5 ?z6 ?z7 ?z8 ?z9 ?z10 ?z11 ?z12 ?z13 ?z14 ?z15 ?z16 ?z17 ?z18 ?z19 ?aA
  (case a1=>k_is)
  (case l1=>k_is)
  (case c1=>k_is)
  (case k1=>k_is)
  (case a2=>k_is)
  (case l2=>k_is)
  (case c2=>k_is)
  (case k2=>k_is)
  (case a3=>k_is)
  (case l3=>k_is)
  (case c3=>k_is)
  (case k3=>k_is)
  (case a4=>k_is)
  (case l4=>k_is)
  (case c4=>k_is)
  (case k4=>k_is)
  (case a5=>k_is)
  (case l5=>k_is)
  (case c5=>k_is)
  (case k5=>k_is)
  (case a6=>k_is)
  (case l6=>k_is)
  (case c6=>k_is)
  (case k6=>k_is)
  (case a7=>k_is)
  (case l7=>k_is)
  (case c7=>k_is)
  (case k7=>k_is)
  (case a8=>k_is)
  (case l8=>k_is)
  (case c8=>k_is)
  (case k8=>k_is)
  (case a9=>k_is)
  (case l9=>k_is)
  (case c9=>k_is)
  (case k9=>k_is)
  (case a10=>k_is)
  (case l10=>k_is)
  (case c10=>k_is)
  (case k10=>k_is)
  (case a11=>k_is)
  (case l11=>k_is)
  (case c11=>k_is)
  (case k11=>k_is)
  (case a12=>k_is)
  (case l12=>k_is)
  (case c12=>k_is)
  (case k12=>k_is)
  (case a13=>k_is)
  (case l13=>k_is)
  (case c13=>k_is)
  (case k13=>k_is)
  (case a14=>k_is)
  (case l14=>k_is)
  (case c14=>k_is)
  (case k14=>k_is)
  (case a15=>k_is)
  (case l15=>k_is)
  (case c15=>k_is)
  (case k15=>k_is)
  (case a16=>k_is)
  (case l16=>k_is)
  (case c16=>k_is)
  (case k16=>k_is)
  (case a17=>k_is)
  (case l17=>k_is)
  (case c17=>k_is)
  (case k17=>k_is)
  (case a18=>k_is)
  (case l18=>k_is)
  (case c18=>k_is)
  (case k18=>k_is)
  (case a19=>k_is)
  (case l19=>k_is)
  (case c19=>k_is)
  (case k19=>k_is)
  (case a20=>k_is)
  (case l20=>k_is)
  (case c20=>k_is)
  (case k20=>k_is)
  (case a21=>k_is)
  (case l21=>k_is)
  (case c21=>k_is)
  (case k21=>k_is)
  (case a22=>k_is)
  (case l22=>k_is)
  (case c22=>k_is)
  (case k22=>k_is)
  (case a23=>k_is)
  (case l23=>k_is)
  (case c23=>k_is)
  (case k23=>k_is)
  (case a24=>k_is)
  (case l24=>k_is)
  (case c24=>k_is)
  (case k24=>k_is)
  (case a25=>k_is)
  (case l25=>k_is)
  (case c25=>k_is)
  (case k25=>k_is)
  (case a26=>k_is)
  (case l26=>k_is)
  (case c26=>k_is)
  (case k26=>k_is)
  (case a27=>k_is)
  (case l27=>k_is)
  (case c27=>k_is)
  (case k27=>k_is)
  (case a28=>k_is)
  (case l28=>k_is)
  (case c28=>k_is)
  (case k28=>k_is)
  (case a29=>k_is)
  (case l29=>k_is)
  (case c29=>k_is)
  (case k29=>k_is)
  (case a30=>k_is)
  (case l30=>k_is)
  (case c30=>k_is)
  (case k30=>k_is)
  (case a31=>k_is)
  (case l31=>k_is)
  (case c31=>k_is)
  (case k31=>k_is)
  (case a32=>k_is)
  (case l32=>k_is)
  (case c32=>k_is)
  (case k32=>k_is)
  (case a33=>k_is)
  (case l33=>k_is)
  (case c33=>k_is)
  (case k33=>k_is)
  (case a34=>k_is)
  (case l34=>k_is)
  (case c34=>k_is)
  (case k34=>k_is)
  (case a35=>k_is)
  (case l35=>k_is)
  (case c35=>k_is)
  (case k35=>k_is)
  (case a36=>k_is)
  (case l36=>k_is)
  (case c36=>k_is)
  (case k36=>k_is)
  (case a37=>k_is)
  (case l37=>k_is)
  (case c37=>k_is)
  (case k37=>k_is)
  (case a38=>k_is)
  (case l38=>k_is)
  (case c38=>k_is)
  (case k38=>k_is)
  (case a39=>k_is)
  (case l39=>k_is)
  (case c39=>k_is)
  (case k39=>k_is)
  (case a40=>k_is)
  (case l40=>k_is)
  (case c40=>k_is)
  (case k40=>k_is)
  (case a41=>k_is)
  (case l41=>k_is)
  (case c41=>k_is)
  (case k41=>k_is)
  (case a42=>k_is)
  (case l42=>k_is)
  (case c42=>k_is)
  (case k42=>k_is)
  (case a43=>k_is)
  (case l43=>k_is)
  (case c43=>k_is)
  (case k43=>k_is)
  (case a44=>k_is)
  (case l44=>k_is)
  (case c44=>k_is)
  (case k44=>k_is)
  (case z1=>k_is)
  (case z2=>k_is)
  (case z3=>k_is)
  (case z4=>k_is)
  (case z5=>k_is)
  (case z6=>k_is)
  (case z7=>k_is)
  (case z8=>k_is)
  (case z9=>k_is)
  (case z10=>k_is)
  (case z11=>k_is)
  (case z12=>k_is)
  (case z13=>k_is)
  (case z14=>k_is)
  (case z15=>k_is)
  (case z16=>k_is)
  (case z17=>k_is)
  (case z18=>k_is)
  (case z19=>k_is)
  (case aA=>k_is)
