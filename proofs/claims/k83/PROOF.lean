import PyProof.Rows.All
import Wide.All
import OpenK.AllK
import Wide.FinOn
import Lean
import PyProof.EqAt
import PyProof.EqKinds
import PyProof.TupleCall
import PyProof.Rows.SortRuns
import PyProof.Rows.SortShellK
import PyProof.P3Eq
import PyProof.Draws
import PyProof.EnumMake
import PyProof.NeData
import KE.LcSums
import PyProof.WalkInts
import PyProof.SeqI3
import KE.KSortTup
import KE.KRevIter
import PyProof.FactsAll.range_2
import PyProof.DictCompW
import PyProof.SetRoads
import PyProof.FactsAll.set_1
import PyProof.Rows.SetFrom
import PyProof.CollectWalk
import PyProof.Walks
import PyProof.TupleIter
import PyProof.TupleKey
import PySem.Challenge.RW_rooklands_k83_partings_told
local macro_rules | `(tactic| omega) => `(tactic| first | lia | omega +splitDisjunctions)
open PySem renaming PyData->Qa,wpAny_pure->Qe,Program->Qy,FuncData->QN,Expr->QP,Around->Q5,World->Jg,wpAny_newObj_type->JC,Heap->J5,wpAny_field->J7,wpAny_holding->Zg,wpAny_truthy_bool->Zs,wpAny_callSpecial?_slot->ZF,wpAny_call_entry->ZO,Stmt->ZZ,wpAny_comprehension_free->Z4,Scope->Z5,Paired->Z6,wpAny_seqItems->Yu,wpAny_setField_rec->Yz,wpAny_Call_Name_kw->YA,ReadsAll->YB,wpAny_of_eq->YM,SetTable->YR,mem_of_lookup->YS,wpAny_newFunctionEnv->Y2,codeAny_compStart_list->QaL,NameKind->QaU,Reads->Qa5,call_meets->Qbo,wpAny_passesOwn->Qbv,wpAny_execs_nil->Qbw,Fin->Qbz,codeAny_mono->QbZ,wpAny_attempt->Qcz,Comprehension->QcB,Builtin->QcC,wpAny_pyIter_zip->QcV,wpAny_execs_cons->QcW,wpAny_pyIter_rangeiter->Qc1,codeAny_builtin->QdH,Builtin->QdK,wpAny_updateSeq_pair->Qd6,Keyword->QeK,BindsTo->QeL,wpAny_pyIter_tuple->Qft,wpAny_onRaise->Qfu,rangeSize_one->Qfv,Operator->Qfy,wpAny_call->Qgs,wpAny_Return_some->Qgt,IsRange->Qgz,wpAny_typeOf->QhB,seqIndex_neg->QhC,IsPart->QhI,noFill_tuple_add->QhO,seqIndex_of->QjS,Model->QjY,IsRangeIter->QjZ,CmpOp->Qj2,wpAny_newFunctionEnv_cells->QkO,wpAny_letOwnedTupleGo_zip->QkY,seq_tuple_add->QnR,call->QnT,wpAny_pyNext_range_end->QpV,wpAny_getItem_list_neg->QpW,wpAny_isTrue_Compare1->QrZ,exec_Assign_Name_used->Qr1,concat_meets->Qr2,codeAny_call_function->Qr3,Result->Qr4,IsZip->Qsa,codeAny_call_builtin->Quu,wpAny_letGo->QuE,wpAny_List_spliced->Qxk,tupleKind_room_in1->Qxl,ZipApart->Qxn,Within->Qxp,wpAny_sequenceKey->QxG,wpAny_pyIter_list->QxH,wpAny_pyIter_enum->QxI,wpAny_assign_Name->QxJ,wpAny_Name->QxK,typeIs_int->QxL,slot_list_getitem->QxM
open PySem.W renaming Frag->Qb,keepIn->Qd,nsIn->Qk,kitOne->Qm,mg_of->Qo,codeIn->QF,fnOf->QM,mg_none_of->QU,kia_one->J6,excIn->Zb,mroIn->ZH,findIn->Z0,kia_tup->Y3,clsIn->QaA,cellsFrom_some->QbD,callWith_K->Qc2,methodObj->QdI,kitx_list->QdJ,instObj->QeI,OpenLaw->QeJ,lookIn->Qfx,looks_mroIn->QjW,hideAll_get->QjX,of_hideAll->QkP,kitx_tuple->QkQ,codeRec_of->QkR,specialIn->QkZ,kitx_none->Qk0,kitx_dict->Qk1,kitx_bool->Qk2,plainGet->QnH,kitx_str->QnI,kitx_int->QnJ,takesIn->QnU,hideAll->QnV,typeIn->QpY,kitAny->QpZ,looks_findIn->Qr0,WalkO->Qr5,Looks->Qr6
open PySem.Heap renaming get?_push_of_some->Qc,lt_size->Qp,get?_push_size->QB,size_push->ZN,SameBut->Qax,get?_update_other->Qj0,get?_update_self->QkV,IsTuple->Qx6,FlyingW->Qx7
open PyProof.Rows renaming wpS_bind->Qf,wpS_pure->Qh,callWith_type1->JE,wpS_forRange->JV,SortSt->JW,slot_tuple_getitem->JX,wpS_mono->Ye,SortKind->Yf,wpS_modify->Qaf,wpS_get->Qb7,step_dedup->Qcj,AllBare->QdL,wpS_lift->QdP,oneTypeOnly'_eq->QjT,get?_update_seq->QjU,listUpdate_at->QnS,subscriptTail_builtinR->QpX,seqEpoch_at->QuF,entry_tuple_getitem->QuG,args_tuple_getitem->Qxm,boot_range->QxN
open List renaming length_map->Qg,getElem?_eq_getElem->Ql,size_toArray->Qr,length_append->Qu,mem_map->Qx,mem_cons->Qz,length_cons->QJ,range->QQ,getElem?_map->QR,getElem?_eq_some_iff->QY,append_assoc->Q0,mem_append_right->Q6,mem_of_getElem?->Q9,replicate->Jc,length_range->Jd,pairwise_append->Je,mem_singleton->Jh,lookup_cons->Jj,mem_cons_of_mem->Jk,mem_append->Jo,map_append->Jp,map_map->Jr,not_mem_nil->Jy,all_eq_true->Jz,append_nil->JB,take_append_drop->JL,mem_iff_getElem?->JM,map_cons->JN,mem_filter->JY,getElem?_eq_none->JZ,getElem?_append_right->J3,length_take->J8,mem_cons_self->Ze,replicate_succ->Zk,getElem?_range->Zl,drop_zero->Zn,map_congr_left->ZC,length_set->ZD,take_length->ZJ,pairwise_iff_getElem->ZL,getElem?_append_left->ZM,flatten_cons->ZQ,find?_cons->ZR,getElem?_replicate->Z2,flatMap_append->Z3,drop_of_length_le->Yd,pairwise_cons->Yg,mem_filterMap->Yh,take_add_one->YC,nodup_append->YD,getD_eq_getElem?_getD->YG,mem_range->YN,extract_eq_take_drop->YO,mem_toArray->YU,mem_flatMap->YV,filterMap_cons->Y1,getElem?_cons_succ->Y8,filterMap_map->Y9,take_of_length_le->Qah,getElem?_set_self->Qai,pairwise_map->Qak,mapM_toArray->Qal,perm_append_comm->Qau,length_replicate->Qav,length_filter_le->Qaw,length_drop->QaN,mem_append_left->QaP,getElem?_set_ne->QaQ,dropLast_concat_getLast->QaV,length_nil->Qa3,getElem?_drop->Qbf,drop_eq_getElem_cons->Qbr,ext_getElem?->QbC,pairwise_singleton->Qb0,any_cons->Qb1,any_eq_true->Qb9,range_succ->Qct,of_mem_zip->Qcu,nodup_cons->Qcv,nil_append->Qcw,length_singleton->Qcx,take_take->Qc3,zip_cons_cons->QdR,getElem?_take->QdS,getElem?_set->QeF,flatMap_cons->QeG,zipIdx_cons->QeS,lookup->Qgm,forIn_cons->Qgn,foldl_cons->Qgo,getLast?_eq_some_iff->QhF,getLast?_eq_none_iff->QhG,drop_drop->QhH,getElem?_cons_zero->QiH,filter_cons_of_pos->QiI,filter_cons_of_neg->QiJ,pairwise_flatMap->QkS,map_nil->QkT,filterMap_append->QkU,mem_of_mem_take->Qk5,mem_of_mem_drop->Qk6,map_id->QnL,length_zipWith->QnM,take_sublist->Qp1,reverse_cons->Qp2,foldl->Qp3,getElem_mem->Qr8,getElem_map->Qr9,zipIdx_nil->Quw,take_range->Qux,take_zero->QuL,forIn_nil->QuM,filterMap->QuN,take_nil->Qxs,map_take->Qxt,drop_nil->Qxu,all_cons->Qxv,zipWith->Qx2,any_map->Qx3
open Nat renaming le_refl->Qi,zero_le->Qw,ne_of_lt->QD,lt_of_lt_of_le->QL,le_trans->Q2,zero_add->ZA,le_of_lt->Z1,lt_irrefl->Z7,lt_of_le_of_lt->Yn,min_eq_left->Yw,lt_succ_of_lt->Qap,pow_le_pow_right->QaT,min_self->Qbq,ne_of_gt->QcA,add_sub_cancel->Qd7,add_zero->QeR,min_le_right->Qfz,le_max_right->QfA,succ_mul->Qk3,sub_zero->Qk4,le_of_lt_succ->Qr7,min_le_left->QuK
open Array renaming length_toList->Qj,toList_append->Jn,getElem?_toList->Zr,perm_iff_toList_perm->YE,toList_extract->QaO,size_extract->Qbd,getElem?_eq_getElem->Qbg,toList_reverse->QcD,mem_toList_iff->QcE,all_eq_true_iff_forall_mem->QdV,toList_push->Qd9,toList_inj->QeM,getD_eq_getD_getElem?->QfC,toList_setIfInBounds->Qgr,mem_of_getElem?->Qj3,getElem_toList->QkX,size_map->Quy,toList->Qxz
open PySem.PyData renaming int->Qq,depthAll->Q4,canLayAll0->Q8,eqv->Jq,depth->Jx,bool->Ym,canLay0->YH,tuple->YT,list->Qag,none->QcY,str->QdQ,eqvAll->Quv
open Bool renaming and_eq_true_iff->Qs,false_ne_true->QC,and_eq_true->JG,false_eq_true->Qaa,eq_iff_iff->Qab,true_and->QdU,false_or->QiK
open Option.some renaming inj->Qv
open Int renaming toNat_natCast->QK,natCast_nonneg->Qd8,fdiv_eq_ediv_of_nonneg->QhJ,add_zero->Qk7
open Or renaming inl->QV,inr->Q3
open PySem.NameKind renaming free->Ja,cell->Yo
open PySem.Builtin renaming bitAnd->Jb,bitOr->Qc6
open PySem.Builtin.Range renaming rangeSize->Js,rangeFitsLong->JD,small->QbF,rangeFields->Qye
open PySem.Value renaming ref->JF,none->Zd,bool->Zz,type->Yv,builtin->Y6,int->Qbx,str->Qfw,isStrOf->QuH,isInt->QxQ,float->QxR
open PySem.Builtin.SmallTypes renaming nextOf->JH,ownedTupleIsFree->Zo,ownedTupleHandOut->Qa6
open False renaming elim->JP
open Option renaming map_eq_some_iff->JS,isSome_iff_exists->Qgx,isSome_map->QnK,getD_none->QnW,none->Qxr
open ForInStep renaming yield->JT,done->QaZ
open PySem.PassesOwn renaming never->J4
open PySem.Builtin.Int renaming intBits->Zf,intTooBig->QfB
open PySem.Builtin.Tuple renaming tupleExact->Zi,tupleItemsOf->Qdx,tupleIsExact->Qya,tupleCompareSizes->Qyb
open PySem.F renaming plainAttrs_list->ZS,slot_tuple_iterator_next->YQ,args_tuple_add_2->Qbe,entry_tuple_add->QbA,slot_tuple_add->QbE,slot_tuple_lt->Qb8,slot_zip_next->Qc4,slot_range_reversed->Qc5,excBase_ValueError->QeQ,args_tuple_lt_2->Qgw,entry_tuple_lt->QhD,args_tuple_iterator_next_1->QhK,entry_tuple_iterator_next->QhP,plain_reversed_new->Qp4,excAttr_ValueError->Qp5,plain_list_iadd->QuO,args_zip_next_1->QuP,entry_zip_next->Qxy,slot_int_rmul->Qx8
open True renaming intro->Z8
open List.Pairwise renaming filter->Z9,imp_of_mem->QdT,imp->Qgy,nil->Qx4,map->Qx5
open PySem.Obj renaming mapSeq->Yc,data_mapFields->Qp0
open PySem.Builtin.Slice renaming slicePlaces->Yi,sliceAdjust->QaC,sliceApplied->Qdy,slicePartIndex->Qyc,sliceFields->Qyd
open PySem.Builtin.List renaming listTooLong->Yx
open List.Perm renaming append_right->Y4,append_left->Qac,trans->QaB,refl->QnN
open PySem.Challenge renaming rw_rooklands_k83_partings_told->Qat,pw_rooklands_k83_partings_told->QuI
open PySem.SeqAt.Reads renaming unique->QaM
open PySem.PyData.int renaming inj->QaS
open PySem.SetTable renaming Probe->Qa2,runEnd->QnG
open PySem.Str renaming ofString->Qbp
open Sum renaming inl->Qby,inr->Qgu
open PySem.Around renaming under_plainId->Qcy
open PySem.SeqAt renaming eqv_refl->QcX,eqAt_reads->QeH
open Ne renaming symm->QcZ
open Array.Perm renaming refl->QdW
open PySem.Heap.SameBut renaming update->Qgp
open PySem.Calls renaming Name_function_global->Qgq,evalArgs_plain->QkW,spliced_cons->QnO,spliced_nil->QnY
open PySem.SeqAt.EqAt renaming bool_bool->Qgv
open PySem.Paired renaming length->QhE
open Sum.inl renaming inj->QjV
open PySem.Heap.DictOf renaming new->Qj1
open List.cons renaming inj->QnX
open PyProof.Rows.IsTup renaming new->Qsb
open Prod.mk renaming inj->QuJ
open PySem.Shared renaming heap->Qxo
open Prod renaming ext->Qxq
open PySem.Heap.UpToSlots renaming of_keeps->Qxw
open PySem.Heap.IsSliceOf renaming new->Qxx
open PySem.Walks renaming range->QxO
open PySem.W.WShape renaming has->QxP
open PyProof.Rows.SortSt renaming mk'->QxS
open PySem.W.Looks renaming of_pure->QxT
open PySem.EqMixed renaming ne_str_int->QxU,ne_str_bool->QxV,ne_int_str->QxW,ne_bool_str->QxX,eq_str_int->QxY,eq_str_bool->QxZ,eq_int_str->Qx0,eq_bool_str->Qx1
open PySem.CmpOp renaming NotIn->Qx9
open PySem PySem.Spec PyProof.Rows
set_option Elab.async false
set_option linter.all false
set_option maxRecDepth 100000
namespace L2
abbrev Key:=Sum Int Str
def Qkx:Key->Value->Bool
 |.inl k,v=>QxQ k v
 |.inr x,v=>QuH x v
def QAy(w:Jg):Key->Int
 |.inl k=>hashInt k
 |.inr x=>hashStr w x
theorem ZP:∀{k:Key}{v:Value},Qkx k v=true->(∃i t,k=Qby i/\v=Qbx i t)∨(∃x t,k=Qgu x/\v=Qfw x t)
 |.inl i,v,h=>by
  obtain⟨t,e⟩:=Value.isInt_shape (k:=i) (v:=v) h;exact .inl ⟨i,t,rfl,e⟩
 |.inr x,v,h=>by
  obtain⟨t,e⟩:=Value.isStrOf_shape (x:=x) (v:=v) h;exact .inr ⟨x,t,rfl,e⟩
theorem QmF(i:Int)(t:Tok):Qkx (.inl i) (.int i t)=true:=by simp[Qkx,QxQ]
theorem QmE(x:Str)(t:Tok):Qkx (.inr x) (.str x t)=true:=by simp[Qkx,QuH]
theorem Qwx(a b:Int):decide ((Qby a:Key)=Qby b)=(a == b):=by
 by_cases e:a=b
 ·subst e;simp
 ·have h:¬(Qby a:Key)=Qby b:=λq=>e (QjV q)
  rw[decide_eq_false h];exact(beq_eq_false_iff_ne.mpr e).symm
theorem Qwt(a b:Str):decide ((Qgu a:Key)=Qgu b)=decide (a=b):=by
 by_cases e:a=b
 ·subst e;simp
 ·have h:¬(Qgu a:Key)=Qgu b:=λq=>e (Sum.inr.inj q)
  rw[decide_eq_false h,decide_eq_false e]
theorem Qww(a:Int)(b:Str):decide ((Qby a:Key)=Qgu b)=false:=decide_eq_false (λq=>nomatch q)
theorem Qwu(a:Str)(b:Int):decide ((Qgu a:Key)=Qby b)=false:=decide_eq_false (λq=>nomatch q)
def mixKind(prog:Qy)(w:Jg):PySem.KeyKind prog w Key where
 is:=Qkx
 hash:=QAy w
 inj:=λv a b ha hb=>by
  rcases ZP ha with⟨i,t,rfl,rfl⟩ | ⟨x,t,rfl,rfl⟩
  ·rcases ZP hb with⟨j,u,rfl,e⟩ | ⟨y,u,rfl,e⟩
   ·injection e with e1 _;rw[e1]
   ·exact nomatch e
  ·rcases ZP hb with⟨j,u,rfl,e⟩ | ⟨y,u,rfl,e⟩
   ·exact nomatch e
   ·injection e with e1 _;rw[e1]
 byValue:=λk v h=>by
  rcases ZP h with⟨i,t,rfl,rfl⟩ | ⟨x,t,rfl,rfl⟩<;>rfl
 pyHash:=λhv h=>by
  rcases ZP hv with⟨i,t,rfl,rfl⟩ | ⟨x,t,rfl,rfl⟩
  ·exact wpAny_pyHash_int h
  ·exact wpAny_pyHash_str h
 eqBool:=λhu hv h=>by
  rcases ZP hu with⟨i,t,rfl,rfl⟩ | ⟨x,t,rfl,rfl⟩
  ·rcases ZP hv with⟨j,u,rfl,rfl⟩ | ⟨y,u,rfl,rfl⟩
   ·rw[Qwx] at h;exact wpAny_eqBool_int h
   ·rw[Qww] at h;exact SeqAt.EqAt.int_str i t y u _ _ _ _ h
  ·rcases ZP hv with⟨j,u,rfl,rfl⟩ | ⟨y,u,rfl,rfl⟩
   ·rw[Qwu] at h;exact SeqAt.EqAt.str_int x t j u _ _ _ _ h
   ·rw[Qwt] at h;exact wpAny_eqBool_str h
 «strs» := λk x t v h=>by
  rcases ZP h with⟨i,u,rfl,e⟩ | ⟨y,u,rfl,e⟩
  ·exact nomatch e
  ·injection e with e1 _
   subst e1;cases v<;>rfl
theorem Qih(prog:Qy)(w:Jg)(i:Int)(t:Tok):(mixKind prog w).is (.inl i) (.int i t)=true:=QmF i t
theorem Qig(prog:Qy)(w:Jg)(x:Str)(t:Tok):(mixKind prog w).is (.inr x) (.str x t)=true:=QmE x t
inductive V where
 |non | bl (b:Bool) | int (i:Int) | str (x:Str) | byt (b:Array UInt8) | flt (b:UInt64) | ref (a:Addr) | ty (n:String)
 deriving DecidableEq
def RelV:V->Value->Prop
 |.non,u=>u=Zd
 |.bl b,u=>u=Zz b
 |.int i,u=>∃t,u=Qbx i t
 |.str x,u=>∃t,u=Qfw x t
 |.byt b,u=>∃t,u=Value.bytes b t
 |.flt b,u=>∃t,u=QxR b t
 |.ref a,u=>u=JF a
 |.ty n,u=>u=Yv n
abbrev Vals:List V->List Value->Prop:=Z6 RelV
theorem Vals.length{xs:List V}{us:List Value}(r:Vals xs us):xs.length=us.length:=QhE r
theorem Vals.get:∀{xs:List V}{us:List Value}{i:Nat}{x:V},Vals xs us->xs[i]? = some x->∃u,us[i]? = some u/\RelV x u
 |_,_,_,_,.nil,e=>by simp at e
 |_,_,0,_,.cons r _,e=>by simp at e;subst e;exact⟨_,rfl,r⟩
 |_,_,i+1,x,.cons _ t,e=>by
  obtain⟨u,h1,h2⟩:=Vals.get (i:=i) (x:=x) t (by simpa using e);exact⟨u,by simpa using h1,h2⟩
theorem Vals.set{x:V}{u:Value}(r:RelV x u):∀{xs:List V}{us:List Value}(i:Nat),Vals xs us->Vals (xs.set i x) (us.set i u)
 |_,_,_,.nil=>.nil
 |_,_,0,.cons _ t=>.cons r t
 |_,_,i+1,.cons q t=>.cons q (Vals.set r i t)
theorem Vals.append:∀{xs ys:List V}{us ws:List Value},Vals xs us->Vals ys ws->Vals (xs++ys) (us++ws)
 |_,_,_,_,.nil,s=>s
 |_,_,_,_,.cons r t,s=>.cons r (Vals.append t s)
theorem Vals.take:∀{xs:List V}{us:List Value}(n:Nat),Vals xs us->Vals (xs.take n) (us.take n)
 |_,_,0,_=>.nil
 |_,_,_+1,.nil=>.nil
 |_,_,n+1,.cons r t=>.cons r (Vals.take n t)
theorem Vals.drop:∀{xs:List V}{us:List Value}(n:Nat),Vals xs us->Vals (xs.drop n) (us.drop n)
 |_,_,0,r=>r
 |_,_,_+1,.nil=>.nil
 |_,_,n+1,.cons _ t=>Vals.drop n t
def RelO:Option V->Option Value->Prop
 |some v,some u=>RelV v u
 |none,none=>True
 |_,_=>False
def KV{κ:Type}:List (κ×V)->List (κ×Value)->Prop:=Z6 λ(p:κ×V)(q:κ×Value)=>p.1=q.1/\RelV p.2 q.2
def kV:Key->V
 |.inl i=>.int i
 |.inr x=>.str x
inductive HO where
 /-- a list -/
 |lst (xs:List V)
 /-- a tuple (never changes) -/
 |tup (xs:List V)
 /-- a dict whose keys are ints and texts;one whose keys are tuples of ints and texts (the empty one is both) -/
 |dK (kvs:List (Key×V)) | dT (kvs:List (List Key×V))
 /-- a set of ints: its members,its size -/
 |set (S:Int->Bool) (n:Nat)
 /-- an instance of the class at C,its dict at dx,its attributes -/
 |ins (C dx:Addr) (fs:List (Str×V))
 /-- the dict of the instance at x -/
 |own (x:Addr)
 /-- the dict of an exception -/
 |xd (fs:List (Str×V))
 /-- a bound method,f of x -/
 |met (f x:Addr)
 /-- a range object lo,lo+1,.. below hi -/
 |rng (lo hi:Int)
 /-- a thing that is known to the object (the script;a dict while a loop walks it): read,never written while it is so -/
 |frz (o:Obj) (u:HO)
 /-- a code object's table -/
 |tbl (ps:Array Value)
 /-- any other thing,by what is true of its one object (a def of one's own: SetO a S n:=HO.ext λh=>..) -/
 |ext (φ:J5->Prop)
abbrev Hp:=Addr->Option HO
def upd(H:Hp)(a:Addr)(o:HO):Hp:=λb=>if b=a then some o else H b
theorem Jl{H:Hp}{a:Addr}{o:HO}:upd H a o a=some o:=by unfold upd;rw[if_pos rfl]
theorem JO{H:Hp}{a b:Addr}{o:HO}(h:b≠a):upd H a o b=H b:=by unfold upd;rw[if_neg h]
theorem ZE{H:Hp}{a b:Addr}{o:HO}(h:H a=some o)(h':H b=none):a≠b:=by
 intro e;subst e;rw[h] at h';cases h'
section
variable(P:Qy)(w:Jg)
def ObjOk(H:Hp)(h:J5)(a:Addr):HO->Prop
 |.lst xs=>xs.length<=sizeLine/\∃(its:List Value)(n:Nat),Vals xs its/\h.get? a=some { cls:=.type "list",data:=.seq its.toArray n }
 |.tup xs=>xs.length<=sizeLine/\∃its:List Value,Vals xs its/\IsTup h a its.toArray
 |.dK kvs=>kvs.length<=sizeLine/\(a == sysModules)=false/\∃vs,KV kvs vs/\h.DictOf (mixKind P w) a vs
 |.dT kvs=>kvs.length<=sizeLine/\(a == sysModules)=false/\∃xs:List (List Key×Addr×Value),
   Z6 (λ(p:List Key×V)(q:List Key×Addr×Value)=>p.1=q.1/\H q.2.1=some (.tup (p.1.map kV))/\RelV p.2 q.2.2) kvs xs /\
   ∃o es ep,h.get? a=some o/\o.ExactDict/\o.data=.dict es ep/\es.toList=xs.map (entryOfKey (tupleKind (mixKind P w)))/\(xs.map (·.1)).Nodup
 |.set S n=>h.SetOf (intKind P w) a S n
 |.ins C dx fs=>H dx=some (.own a)/\fs.length<=1000/\dx≠a/\h.get? a=some (PySem.W.instObj C dx) /\
   ∃mA,h.Ns1 dx mA/\(∀f,RelO (fs.lookup f) (mA f))/\PySem.Within mA (fs.map (·.1))
 |.own _=>∃o,h.get? a=some o
 |.xd fs=>∃mA,h.Ns1 a mA/\∀f,RelO (fs.lookup f) (mA f)
 |.rng lo hi=>∃t u v,h.get? a=some { cls:=.type "range",data:=.fields #[.int lo t,.int hi u,.int 1 v] }
 |.frz o u=>h.get? a=some o/\ObjOk H h a u
 |.tbl ps=>h.get? a=some { cls:=.none,data:=.fields ps }
 |.met f x=>h.get? a=some (PySem.W.methodObj (.ref f) (.ref x))
 |.ext φ=>φ h/\(∃o,h.get? a=some o)/\∀h1 h2:J5,φ h1->(∀o,h1.get? a=some o->h2.get? a=some o)->φ h2
def HOk(H:Hp)(h:J5):Prop:=∀a o,H a=some o->ObjOk P w H h a o
end
section
variable{P:Qy}{w:Jg}{H H':Hp}{h h':J5}{a:Addr}{o:HO}
theorem ObjOk.lt(x:ObjOk P w H h a o):a<h.objs.size:=by
 cases o with
 |lst xs=>obtain⟨_,_,_,_,e⟩:=x;exact Qp e
 |tup xs=>obtain⟨_,_,_,p⟩:=x;exact p.lt
 |dK kvs=>obtain⟨_,_,_,_,o,_,_,e,_⟩:=x;exact Qp e
 |dT kvs=>obtain⟨_,_,_,_,o,_,_,e,_⟩:=x;exact Qp e
 |set S n=>obtain⟨o,_,_,_,e,_⟩:=x;exact Qp e
 |ins C dx fs=>obtain⟨_,_,_,e,_⟩:=x;exact Qp e
 |own y=>obtain⟨_,e⟩:=x;exact Qp e
 |xd fs=>obtain⟨_,⟨_,_,_,e,_⟩,_⟩:=x;exact Qp e
 |rng lo hi=>obtain⟨_,_,_,e⟩:=x;exact Qp e
 |frz ob u=>obtain⟨e,_⟩:=x;exact Qp e
 |tbl ps=>exact Qp (show h.get? a=some _ from x)
 |met f y=>exact Qp (show h.get? a=some _ from x)
 |ext φ=>obtain⟨_,⟨_,e⟩,_⟩:=x;exact Qp e
theorem Z6.mapP{α β:Type}{F G:α->β->Prop}:∀{l₁:List α}{l₂:List β},Z6 F l₁ l₂->(∀a b,F a b->G a b)->Z6 G l₁ l₂
 |_,_,.nil,_=>.nil
 |_,_,.cons r t,f=>.cons (f _ _ r) (Z6.mapP t f)
theorem ObjOk.stay(x:ObjOk P w H h a o)(k:∀b u,(b=a∨H b=some (.own a))->h.get? b=some u->h'.get? b=some u)
  (ho:∀b,H b=some (.own a)->H' b=some (.own a))(ht:∀b xs,H b=some (.tup xs)->H' b=some (.tup xs)):ObjOk P w H' h' a o:=by
 induction o with
 |lst xs=>obtain⟨z,its,n,r,e⟩:=x;exact⟨z,its,n,r,k _ _ (.inl rfl) e⟩
 |tup xs=>obtain⟨z,its,r,ob,e,c⟩:=x;exact⟨z,its,r,ob,k _ _ (.inl rfl) e,c⟩
 |dK kvs=>obtain⟨z,y,vs,r,ob,es,ep,e,c⟩:=x;exact⟨z,y,vs,r,ob,es,ep,k _ _ (.inl rfl) e,c⟩
 |dT kvs=>
  obtain⟨z,y,xs,r,ob,es,ep,e,c⟩:=x;exact⟨z,y,xs,Z6.mapP r λp q z=>⟨z.1,ht _ _ z.2.1,z.2.2⟩,ob,es,ep,k _ _ (.inl rfl) e,c⟩
 |set S n=>obtain⟨ob,es,ep,t,e,c⟩:=x;exact⟨ob,es,ep,t,k _ _ (.inl rfl) e,c⟩
 |ins C dx fs=>
  obtain⟨d,z,ne,e,mA,⟨od,es,ep,e2,c⟩,r⟩:=x;exact⟨ho _ d,z,ne,k _ _ (.inl rfl) e,mA,⟨od,es,ep,k _ _ (.inr d) e2,c⟩,r⟩
 |own y=>obtain⟨ob,e⟩:=x;exact⟨ob,k _ _ (.inl rfl) e⟩
 |xd fs=>obtain⟨mA,⟨od,es,ep,e,c⟩,r⟩:=x;exact⟨mA,⟨od,es,ep,k _ _ (.inl rfl) e,c⟩,r⟩
 |rng lo hi=>obtain⟨t,u,v,e⟩:=x;exact⟨t,u,v,k _ _ (.inl rfl) e⟩
 |frz ob u ih=>obtain⟨e,q⟩:=x;exact⟨k _ _ (.inl rfl) e,ih q⟩
 |tbl ps=>
  have e:h.get? a=some { cls:=.none,data:=.fields ps }:=x;show h'.get? a=some { cls:=.none,data:=.fields ps };exact k a _ (.inl rfl) e
 |met f y=>
  have e:h.get? a=some (PySem.W.methodObj (.ref f) (.ref y)):=x;show h'.get? a=some (PySem.W.methodObj (.ref f) (.ref y));exact k a _ (.inl rfl) e
 |ext φ=>obtain⟨p,⟨o,e⟩,st⟩:=x;exact⟨st _ _ p λo q=>k _ _ (.inl rfl) q,⟨o,k _ _ (.inl rfl) e⟩,st⟩
theorem HOk.lt(x:HOk P w H h)(e:H a=some o):a<h.objs.size:=(x a o e).lt
theorem HOk.fresh(x:HOk P w H h)(e:h.objs.size<=a):H a=none:=by
 cases q:H a with
 |none=>rfl
 |some u=>exact absurd (QL (x.lt q) e) (Z7 _)
theorem HOk.kept(x:HOk P w H h)(k:∀b u,h.get? b=some u->h'.get? b=some u):HOk P w H h':=λa o e=>
 (x a o e).stay (λb u _ q=>k b u q) (λ_ q=>q) λ_ _ q=>q
theorem HOk.laid(x:HOk P w H h)(k:∀b u,h.get? b=some u->h'.get? b=some u)(hp:h.objs.size<=a)(new:ObjOk P w (upd H a o) h' a o):HOk P w (upd H a o) h':=λb u e=>by
 have hn:=x.fresh hp;by_cases hb:b=a
 ·subst hb;rw[Jl] at e;cases e;exact new
 ·rw[JO hb] at e;exact(x b u e).stay (λc v _ q=>k c v q) (λc q=>by rw[JO (ZE q hn)];exact q) λc xs q=>by rw[JO (ZE q hn)];exact q
end
def Rd(H:Hp)(a:Addr)(u:HO):Prop:=H a=some u∨∃o,H a=some (.frz o u)
theorem Rd.ok{P:Qy}{w:Jg}{H:Hp}{h:J5}{a:Addr}{u:HO}(r:Rd H a u)(x:HOk P w H h):ObjOk P w H h a u:=by
 rcases r with r | ⟨o,r⟩
 ·exact x a u r
 ·obtain⟨_,q⟩:=x a _ r;exact q
def Mut:Option HO->Prop
 |some (.lst _)=>True
 |some (.dK _)=>True
 |some (.dT _)=>True
 |some (.set _ _)=>True
 |some (.ins _ _ _)=>True
 |some (.ext _)=>True
 |_=>False
section
variable{P:Qy}{w:Jg}{H:Hp}{h h':J5}{x e:Addr}{o':HO}
theorem HOk.write(ok:HOk P w H h)(mu:Mut (H x))(he:e=x∨H e=some (.own x))(k:∀b u,b≠e->h.get? b=some u->h'.get? b=some u)(heo:∃u,h'.get? e=some u)
  (new:ObjOk P w (upd H x o') h' x o'):HOk P w (upd H x o') h':=λb u q=>by
 have nown:∀c y,H c=some (.own y)->c≠x:=λc y r z=>by subst z;rw[r] at mu;exact mu
 have ntup:∀c xs,H c=some (.tup xs)->c≠x:=λc xs r z=>by subst z;rw[r] at mu;exact mu
 by_cases hb:b=x
 ·subst hb;rw[Jl] at q;cases q;exact new
 ·rw[JO hb] at q;by_cases hbe:b=e
  ·have q':H b=some (.own x):=by
    rcases he with z | z
    ·exact absurd (hbe.trans z) hb
    ·rw[hbe];exact z
   rw[q] at q';cases q';obtain⟨v,hv⟩:=heo;exact⟨v,by rw[hbe];exact hv⟩
  ·refine(ok b u q).stay (λc v hc r=>k c v ?_ r) (λc r=>by rw[JO (nown c b r)];exact r) λc xs r=>by rw[JO (ntup c xs r)];exact r
   rcases hc with rfl | hc
   ·exact hbe
   ·rintro rfl;rcases he with z | z
    ·exact nown c b hc z
    ·rw[hc] at z;cases z;exact hb rfl
end
structure Un (fs ex:List Addr) (H H':Hp) (h h':J5):Prop where
 keep:∀b o,h.get? b=some o->H b=none->b∉fs->b∉ex->h'.get? b=some o
 slot:∀b o,h.get? b=some o->H b=none->b∈fs->b∉ex->∃sl,h'.get? b=some { o with slots:=sl }
 free:∀b o,h.get? b=some o->H b=none->b∉ex->H' b=none
 there:∀b o,h.get? b=some o->b∉ex->∃o',h'.get? b=some o'
 tups:∀b xs,H b=some (.tup xs)->H' b=some (.tup xs)
 frzs:∀b o u,H b=some (.frz o u)->H' b=some (.frz o u)
 tbls:∀b ps,H b=some (.tbl ps)->∃more,H' b=some (.tbl (ps++more))
section
variable{fs fs' ex ex':List Addr}{H H1 H2:Hp}{h h1 h2 h':J5}{a x e:Addr}{o:HO}
theorem Un.any(u:Un fs ex H H1 h h1){b:Addr}{ob:Obj}(q:h.get? b=some ob)(n:H b=none)(hx:b∉ex):∃sl,h1.get? b=some { ob with slots:=sl }:=by
 by_cases hb:b∈fs
 ·exact u.slot b ob q n hb hx
 ·exact⟨ob.slots,u.keep b ob q n hb hx⟩
theorem Un.kept(k:∀b u,h.get? b=some u->h'.get? b=some u):Un fs ex H H h h':=
 ⟨λb ob q _ _ _=>k b ob q,λb ob q _ _ _=>⟨ob.slots,k b ob q⟩,λ_ _ _ n _=>n,λb ob q _=>⟨ob,k b ob q⟩,λ_ _ q=>q,λ_ _ _ q=>q,λ_ ps q=>⟨#[],by rw[q];simp⟩⟩
theorem Un.refl:Un fs ex H H h h:=Un.kept λ_ _ q=>q
theorem Un.laid(k:∀b u,h.get? b=some u->h'.get? b=some u)(hp:h.objs.size<=a)(hn:H a=none):Un fs ex H (upd H a o) h h' where
 keep:=λb u q _ _ _=>k b u q
 slot:=λb u q _ _ _=>⟨u.slots,k b u q⟩
 free:=λb u q n _=>by rw[JO (QD (QL (Qp q) hp))];exact n
 there:=λb u q _=>⟨u,k b u q⟩
 tups:=λb xs q=>by rw[JO (ZE q hn)];exact q
 frzs:=λb u xs q=>by rw[JO (ZE q hn)];exact q
 tbls:=λb ps q=>⟨#[],by rw[JO (ZE q hn),q];simp⟩
theorem Un.write(mu:Mut (H x))(he:e=x∨H e=some (.own x))(k:∀b u,b≠e->h.get? b=some u->h'.get? b=some u)(heo:∃u,h'.get? e=some u):Un fs ex H (upd H x o) h h':=by
 have hx:∀b,H b=none->b≠x:=λb n z=>by subst z;rw[n] at mu;exact mu
 have hb:∀b,H b=none->b≠e:=λb n z=>by
  subst z;rcases he with r | r
  ·exact hx b n r
  ·rw[n] at r;cases r
 have hm:∀b u,H b=some u->¬Mut (some u)->b≠x:=λb u q nm z=>by subst z;rw[q] at mu;exact nm mu
 refine⟨λb u q n _ _=>k b u (hb b n) q,λb u q n _ _=>⟨u.slots,k b u (hb b n) q⟩,λb u q n _=>by rw[JO (hx b n)];exact n,λb u q _=>?_,
  λb xs q=>by rw[JO (hm b _ q λz=>z)];exact q,λb u xs q=>by rw[JO (hm b _ q λz=>z)];exact q,λb ps q=>⟨#[],by rw[JO (hm b _ q λz=>z),q];simp⟩⟩
 by_cases hbe:b=e
 ·subst hbe;exact heo
 ·exact⟨u,k b u hbe q⟩
end
def trk(h:J5)(H:Hp):List Addr:=(QQ h.objs.size).filter λa=>(H a).isSome
def Qpw(h:J5)(H:Hp):J5:=PySem.W.hideAll h (trk h H)
theorem QmR(h:J5)(H:Hp):(Qpw h H).objs.size=h.objs.size:=PySem.W.hideAll_size _ _
theorem Qpv{h:J5}{H:Hp}{b:Addr}{o:Obj}(e:h.get? b=some o)(n:H b=none):(Qpw h H).get? b=some o:=
 PySem.W.hideAll_get _ e λhm=>by
  have q:(H b).isSome=true:=(JY.mp hm).2;rw[n] at q;simp at q
theorem QtE{h:J5}{H:Hp}{b:Addr}{o:Obj}(e:(Qpw h H).get? b=some o):h.get? b=some o/\H b=none:=by
 have e':h.get? b=some o:=PySem.W.of_hideAll (trk h H) e;refine⟨e',?_⟩;cases q:H b with
 |none=>rfl
 |some x=>
  have hm:b∈trk h H:=JY.mpr ⟨YN.mpr (Qp e'),by simp[q]⟩;have z:(Qpw h H).get? b=none:=PySem.W.hideAll_none (trk h H) hm;rw[z] at e;cases e
def Qur(g h:J5)(L:Addr):List (Addr×Obj):=(QQ h.objs.size).filterMap λa=>if a=L∨(g.get? a).isSome=true then none else(h.get? a).map λo=>(a,o)
def rest(g h:J5)(L d:Addr):List (Addr×Obj):=(Qur g h L).filter λp=>decide (p.1≠d)
structure Mod (K:PySem.W.Frag) (mg:Str->Option Value) (base:J5):Prop where
 kin:K.In base
 glob:base.Ns mainGlobals mg
 blt:∃mb,base.Ns builtinsNs mb/\∀x:Str,x ≠ "__name__" -> mb x=bootBuiltins x
 nolimit:base.NoLimit
structure Cx where
 prog:Qy
 w:Jg
 K:PySem.W.Frag
 mg:Str->Option Value
 base:J5
 A:Q5
 N:List Str
 s₀:Shared
 H₀:Hp
 env:Env
 outer:List Env
 stack:List Env
 ex:List Addr
 fn:Str->Bool
 calm:Bool
 pn:List (Addr×Obj)
 xe:Value->Shared->Prop
def frs(l:List Env):List Addr:=l.filterMap (·.frame)
abbrev Cx.fs (X:Cx):List Addr:=frs X.outer
def Vis(sc:Z5)(x:Str):Prop:=sc.names.lookup x=some .local∨sc.names.lookup x=some .cell∨sc.names.lookup x=some .free
def Loc(sc:Z5)(x:Str):Prop:=sc.names.lookup x=some .local∨sc.names.lookup x=some .cell
def Look(env:Env)(h:J5)(m:Str->Option Value)(x:Str)(u:Value):Prop:=
 (env.kindOf x=some .local/\m x=some u)∨((env.kindOf x=some .cell∨env.kindOf x=some .free)/\∃c,env.cells.lookup x=some c/\h.IsCell c (some u))
structure Cx.Ok (X:Cx):Prop where
 mod:Mod X.K X.mg X.base
 kind:X.env.scope.kind=.function
 glob:X.env.globals=mainGlobals
 blt:X.env.builtins=builtinsNs
 above:X.s₀.heap.objs.size<=X.env.locals
 inj:∀x y c,X.env.cells.lookup x=some c->X.env.cells.lookup y=some c->x=y
 has:∀x,(X.env.kindOf x=some .cell∨X.env.kindOf x=some .free)->∃c,X.env.cells.lookup x=some c
 cab:∀x c,X.fn x=true->X.env.cells.lookup x=some c->X.s₀.heap.objs.size<=c
 hd:X.calm=true->X.A.handled=none
 frames:X.A.frames=some X.stack
 stk:X.stack=X.outer∨(X.stack=X.env::X.outer/\X.env.frame=some X.env.locals)
 exf:∀b∈X.ex,b≠X.env.locals/\∀x c,X.env.cells.lookup x=some c->c≠b
 bs:∀b o,X.base.get? b=some o->X.s₀.heap.get? b=some o/\X.H₀ b=none
 bsz:X.base.objs.size<=X.s₀.heap.objs.size
 noex:∀b o,X.base.get? b=some o->b∉X.ex
 exfs:∀b∈X.ex,b∉X.fs
 funs:X.s₀.heap.FunFrames X.base X.outer
 frf:∀b∈X.fs,X.H₀ b=none
structure Inv (X:Cx) (pins:List (Addr×Obj)) (σ:List (Option V)) (H:Hp) (s:Shared):Prop where
 ok:X.Ok
 os:s.os=X.s₀.os
 bare:QdL s.gens
 base:Un X.fs X.ex X.H₀ H X.s₀.heap s.heap
 loc:∃m,s.heap.Ns X.env.locals m/\∀(i:Nat)(x:Str)(v:V),X.N[i]? = some x->σ[i]? = some (some v)->Vis X.env.scope x->∃u,RelV v u/\Look X.env s.heap m x u
 cell:∀x c,X.env.cells.lookup x=some c->∃v,s.heap.IsCell c v
 free:H X.env.locals=none
 freeC:∀x c,X.env.cells.lookup x=some c->H c=none
 pin:∀p∈X.pn++pins,s.heap.get? p.1=some p.2/\H p.1=none/\p.1≠X.env.locals/\p.1∉X.fs/\∀v,p.2.data≠.cell v
 hok:HOk X.prog X.w H s.heap
 len:σ.length=X.N.length
section
variable{X:Cx}{pins:List (Addr×Obj)}{σ:List (Option V)}{H H':Hp}{s:Shared}{h':J5}
theorem Cx.Ok.nofr(ok:X.Ok){b:Addr}{o:Obj}(e:X.base.get? b=some o):b∉X.fs:=λhb=>by
 have:=(ok.funs.mem hb).1;rw[e] at this;cases this
theorem Inv.bs(I:Inv X pins σ H s):∀b o,X.base.get? b=some o->s.heap.get? b=some o/\H b=none:=λb o e=>
 ⟨I.base.keep b o (I.ok.bs b o e).1 (I.ok.bs b o e).2 (I.ok.nofr e) (I.ok.noex b o e),I.base.free b o (I.ok.bs b o e).1 (I.ok.bs b o e).2 (I.ok.noex b o e)⟩
theorem Inv.bk(I:Inv X pins σ H s):∀b o,X.base.get? b=some o->s.heap.get? b=some o:=λb o e=>(I.bs b o e).1
theorem Inv.mod(I:Inv X pins σ H s):Mod X.K X.mg X.base:=I.ok.mod
theorem Inv.kIn(I:Inv X pins σ H s):X.K.In s.heap:=I.ok.mod.kin.keeps I.bk
theorem Inv.fr(I:Inv X pins σ H s):∃m,Fr X.base X.env.locals s.heap m:=
 let ⟨m,hn,_⟩:=I.loc
 ⟨m,hn,I.bk,Q2 I.ok.bsz I.ok.above⟩
theorem Inv.lt(I:Inv X pins σ H s):X.env.locals<s.heap.objs.size:=let ⟨_,hn,_⟩:=I.loc;hn.lt
theorem Inv.sz(I:Inv X pins σ H s):X.s₀.heap.objs.size<=s.heap.objs.size:=Q2 I.ok.above (Z1 I.lt)
theorem Inv.nofs(I:Inv X pins σ H s){a:Addr}(h:s.heap.objs.size<=a):a∉X.fs:=λhb=>by
 obtain⟨_,o,ho,_⟩:=I.ok.funs.mem hb;exact absurd (QL (Qp ho) (Q2 I.sz h)) (Z7 _)
theorem Inv.cne(I:Inv X pins σ H s):∀x c,X.env.cells.lookup x=some c->c≠X.env.locals:=λx c e z=>by
 obtain⟨v,o,ho,hd⟩:=I.cell x c e;obtain⟨m,⟨o',es,ep,ho',hd',_⟩,_⟩:=I.loc;rw[z,ho'] at ho;cases ho;rw[hd'] at hd;cases hd
theorem Inv.funs(I:Inv X pins σ H s):s.heap.FunFrames X.base X.outer:=by
 have all:∀(l:List Env),(∀b∈frs l,b∈X.fs)->X.s₀.heap.FunFrames X.base l->s.heap.FunFrames X.base l:=by
  intro l;induction l with
  |nil=>intro _ _;trivial
  |cons env r ih=>
   intro hs hl;obtain⟨hk,⟨L,o,hf,hn,ho,hd⟩,hr⟩:=hl;have hL:L∈X.fs:=hs L (by unfold frs;rw[Y1,hf];exact Ze);obtain⟨sl,e⟩:=I.base.slot L o ho (I.ok.frf L hL) hL λz=>I.ok.exfs L z hL
   exact⟨hk,⟨L,_,hf,hn,e,hd⟩,ih (λb hb=>hs b (by unfold frs;rw[Y1,hf];exact Jk _ hb)) hr⟩
 exact all X.outer (λ_ hb=>hb) I.ok.funs
theorem Inv.stack(I:Inv X pins σ H s):s.heap.FunFrames X.base X.stack:=by
 rcases I.ok.stk with e | ⟨e,hf⟩
 ·rw[e];exact I.funs
 ·rw[e];obtain⟨m,hn,_⟩:=I.loc;refine .cons (by rw[I.ok.kind];decide) hf hn ?_ I.funs
  exact Heap.get?_none_of_le (Q2 I.ok.bsz I.ok.above)
theorem Inv.stkSub(I:Inv X pins σ H s):∀b∈frs X.stack,b∈X.env.locals::X.fs:=λb hb=>by
 rcases I.ok.stk with e | ⟨e,hf⟩
 ·rw[e] at hb;exact Jk _ hb
 ·rw[e] at hb;unfold frs at hb;rw[Y1,hf] at hb;exact hb
theorem Inv.stkFree(I:Inv X pins σ H s):∀b∈frs X.stack,H b=none:=λb hb=>by
 rcases Qz.mp (I.stkSub b hb) with e | hb
 ·rw[e];exact I.free
 ·obtain⟨_,o,ho,_⟩:=I.ok.funs.mem hb;exact I.base.free b o ho (I.ok.frf b hb) λz=>I.ok.exfs b z hb
theorem Inv.step{g':Array GenState}{t':Nat}{d':Drawn}{ch:List Addr}(I:Inv X pins σ H s)
  (hch:∀b∈ch,(b∈X.ex∨X.s₀.heap.objs.size<=b)/\b≠X.env.locals/\(∀x c,X.env.cells.lookup x=some c->c≠b)/\∀p∈X.pn++pins,p.1≠b)
  (keep:∀b o,b≠X.env.locals->b∉X.fs->b∉ch->s.heap.get? b=some o->H b=none->h'.get? b=some o)
  (slot:∀b o,b≠X.env.locals->b∈X.fs->b∉ch->s.heap.get? b=some o->H b=none->∃sl,h'.get? b=some { o with slots:=sl })(free:∀b o,b∉ch->s.heap.get? b=some o->H b=none->H' b=none)
  (there:∀b o,b∉ch->s.heap.get? b=some o->∃o',h'.get? b=some o')
  (tups:∀b xs,H b=some (.tup xs)->H' b=some (.tup xs))(frzs:∀b o u,H b=some (.frz o u)->H' b=some (.frz o u))(tbls:∀b ps,H b=some (.tbl ps)->∃more,H' b=some (.tbl (ps++more)))
  (ns:∀m,s.heap.Ns X.env.locals m->h'.Ns X.env.locals m)(hok:HOk X.prog X.w H' h')(hg:QdL g') :
  Inv X pins σ H' { s with heap:=h',gens:=g',drawn:=d',toks:=t' }:=by
 have neL:∀b o,X.s₀.heap.get? b=some o->b≠X.env.locals:=λb o e=>QD (QL (Qp e) I.ok.above)
 have neC:∀b o,X.s₀.heap.get? b=some o->b∉X.ex->b∉ch:=λb o e hx hb=>by
  rcases(hch b hb).1 with z | z
  ·exact hx z
  ·exact absurd (QL (Qp e) z) (Z7 _)
 have cellK:∀x c,X.env.cells.lookup x=some c->∀v,s.heap.IsCell c v->h'.IsCell c v:=λx c e v ⟨o,ho,hd⟩=>by
  have nch:c∉ch:=λz=>(hch c z).2.2.1 x c e rfl
  by_cases hc:c∈X.fs
  ·obtain⟨sl,q⟩:=slot c o (I.cne x c e) hc nch ho (I.freeC x c e);exact⟨_,q,hd⟩
  ·exact⟨o,keep c o (I.cne x c e) hc nch ho (I.freeC x c e),hd⟩
 refine⟨I.ok,I.os,hg,⟨λb o e n hb hx=>?_,λb o e n hb hx=>?_,λb o e n hx=>?_,λb o e hx=>?_,λb xs e=>tups b xs (I.base.tups b xs e),λb o xs e=>frzs b o xs (I.base.frzs b o xs e),λb ps e=>?_⟩,?_,λx c e=>?_,?_,λx c e=>?_,λp hp=>?_,hok,I.len⟩
 ·exact keep b o (neL b o e) hb (neC b o e hx) (I.base.keep b o e n hb hx) (I.base.free b o e n hx)
 ·obtain⟨sl,e1⟩:=I.base.slot b o e n hb hx;obtain⟨sl',e2⟩:=slot b _ (neL b o e) hb (neC b o e hx) e1 (I.base.free b o e n hx);exact⟨sl',e2⟩
 ·obtain⟨o',e1⟩:=I.base.there b o e hx;exact free b o' (neC b o e hx) e1 (I.base.free b o e n hx)
 ·obtain⟨o',e1⟩:=I.base.there b o e hx;exact there b o' (neC b o e hx) e1
 ·obtain⟨m1,e1⟩:=I.base.tbls b ps e;obtain⟨m2,e2⟩:=tbls b _ e1;exact⟨m1++m2,by rw[e2,Array.append_assoc]⟩
 ·obtain⟨m,hn,hl⟩:=I.loc;refine⟨m,ns m hn,λi x v e1 e2 e3=>?_⟩;obtain⟨u,r,l⟩:=hl i x v e1 e2 e3;refine⟨u,r,?_⟩;rcases l with l | ⟨k,c,e,z⟩
  ·exact .inl l
  ·exact .inr ⟨k,c,e,cellK x c e _ z⟩
 ·obtain⟨v,z⟩:=I.cell x c e;exact⟨v,cellK x c e v z⟩
 ·obtain⟨m,⟨o,_,_,ho,_⟩,_⟩:=I.loc;exact free _ o (λz=>(hch _ z).2.1 rfl) ho I.free
 ·obtain⟨v,o,ho,hd⟩:=I.cell x c e;exact free c o (λz=>(hch c z).2.2.1 x c e rfl) ho (I.freeC x c e)
 ·obtain⟨e,n,ne,nf,d⟩:=I.pin p hp;have nch:p.1∉ch:=λz=>(hch p.1 z).2.2.2 p hp rfl
  exact⟨keep p.1 p.2 ne nf nch e n,free p.1 p.2 nch e n,ne,nf,d⟩
theorem Inv.un{t':Nat}(I:Inv X pins σ H s)(u:Un X.fs [] H H' s.heap h')(hok:HOk X.prog X.w H' h'):Inv X pins σ H' { s with heap:=h',toks:=t' }:=by
 obtain⟨m,⟨o,es,ep,ho,r⟩,_⟩:=id I.loc;obtain⟨sl,hL⟩:=u.any ho I.free (by simp);exact I.step (g':=s.gens) (d':=s.drawn) (ch:=[]) (λ_ z=>nomatch z) (λb o _ hb _ e n=>u.keep b o e n hb (by simp)) (λb o _ hb _ e n=>u.slot b o e n hb (by simp)) (λb o _ e n=>u.free b o e n (by simp)) (λb o _ e=>u.there b o e (by simp)) u.tups u.frzs u.tbls (λm' hm=>by
  obtain⟨o',es',ep',ho',r'⟩:=hm;rw[ho] at ho';cases ho';exact⟨_,es',ep',hL,r'⟩) hok I.bare
theorem Inv.call{g':Array GenState}{t':Nat}{d':Drawn}{ch:List Addr}(I:Inv X pins σ H s)(u:Un (frs X.stack) ch H H' s.heap h')(hok:HOk X.prog X.w H' h')(hg:QdL g')
  (hch:∀b∈ch,(b∈X.ex∨X.s₀.heap.objs.size<=b)/\b≠X.env.locals/\(∀x c,X.env.cells.lookup x=some c->c≠b)/\∀p∈X.pn++pins,p.1≠b) :
  Inv X pins σ H' { s with heap:=h',gens:=g',drawn:=d',toks:=t' }:=by
 obtain⟨m,⟨o,es,ep,ho,r⟩,_⟩:=id I.loc;obtain⟨sl,hL⟩:=u.any ho I.free λz=>(hch _ z).2.1 rfl
 exact I.step (ch:=ch) hch (λb o hL hb hc e n=>u.keep b o e n (λz=>(Qz.mp (I.stkSub b z)).elim hL hb) hc) (λb o _ _ hc e n=>u.any e n hc) (λb o hc e n=>u.free b o e n hc) (λb o hc e=>u.there b o e hc) u.tups u.frzs u.tbls (λm' hm=>by
  obtain⟨o',es',ep',ho',r'⟩:=hm;rw[ho] at ho';cases ho';exact⟨_,es',ep',hL,r'⟩) hok hg
theorem Inv.turned{t':Nat}{it:Addr}(I:Inv X pins σ H s)(k:∀b o,b≠it->s.heap.get? b=some o->h'.get? b=some o)(hn:H it=none)(hL:it≠X.env.locals)
  (h1:it∈X.ex∨X.s₀.heap.objs.size<=it)(h2:∀x c,X.env.cells.lookup x=some c->c≠it)(h3:∀p∈X.pn++pins,p.1≠it):Inv X pins σ H { s with heap:=h',toks:=t' }:=by
 have nit:∀b u,H b=some u->b≠it:=λb u e z=>by rw[z,hn] at e;cases e
 refine I.step (g':=s.gens) (d':=s.drawn) (ch:=[it]) (λb hb=>?_) (λb o _ _ hc e _=>k b o (λz=>hc (by simp[z])) e) (λb o _ _ hc e _=>⟨o.slots,k b o (λz=>hc (by simp[z])) e⟩) (λ_ _ _ _ n=>n)
  (λb o hc e=>⟨o,k b o (λz=>hc (by simp[z])) e⟩) (λ_ _ e=>e) (λ_ _ _ e=>e) (λb ps e=>⟨#[],by rw[e];simp⟩) (λm hm=>?_) (λb u e=>?_) I.bare
 ·have e:b=it:=by simpa using hb
  subst e;exact⟨h1,hL,h2,h3⟩
 ·obtain⟨o,es,ep,ho,r⟩:=hm;exact⟨o,es,ep,k _ o (QcZ hL) ho,r⟩
 ·refine(I.hok b u e).stay (λc v hc q=>k c v ?_ q) (λ_ q=>q) λ_ _ q=>q
  rcases hc with z | z
  ·rw[z];exact nit b u e
  ·exact nit c _ z
theorem Inv.tok(I:Inv X pins σ H s)(t:Nat):Inv X pins σ H { s with toks:=t }:=I.un (h':=s.heap) (t':=t) Un.refl I.hok
theorem Inv.kept{t':Nat}(I:Inv X pins σ H s)(k:∀b u,s.heap.get? b=some u->h'.get? b=some u):Inv X pins σ H { s with heap:=h',toks:=t' }:=I.un (Un.kept k) (I.hok.kept k)
theorem Inv.laid{a:Addr}{o:HO}{t':Nat}(I:Inv X pins σ H s)(k:∀b u,s.heap.get? b=some u->h'.get? b=some u)(hp:s.heap.objs.size<=a)(new:ObjOk X.prog X.w (upd H a o) h' a o) :
  Inv X pins σ (upd H a o) { s with heap:=h',toks:=t' }:=I.un (Un.laid k hp (I.hok.fresh hp)) (I.hok.laid k hp new)
theorem Inv.write{x e:Addr}{o:HO}{t':Nat}(I:Inv X pins σ H s)(mu:Mut (H x))(he:e=x∨H e=some (.own x))(k:∀b u,b≠e->s.heap.get? b=some u->h'.get? b=some u)(heo:∃u,h'.get? e=some u)
  (new:ObjOk X.prog X.w (upd H x o) h' x o):Inv X pins σ (upd H x o) { s with heap:=h',toks:=t' }:=I.un (Un.write mu he k heo) (I.hok.write mu he k heo new)
theorem Inv.weak{σ':List (Option V)}(I:Inv X pins σ H s)(hl:σ'.length=σ.length)(w:∀(i:Nat) v,σ'[i]? = some (some v)->σ[i]? = some (some v)):Inv X pins σ' H s:=
 ⟨I.ok,I.os,I.bare,I.base,let ⟨m,hn,hl'⟩:=I.loc;⟨m,hn,λi x v e1 e2 e3=>hl' i x v e1 (w i v e2) e3⟩,I.cell,I.free,I.freeC,I.pin,I.hok,hl.trans I.len⟩
theorem Inv.pins_of{pins':List (Addr×Obj)}(I:Inv X pins σ H s)(h:∀p∈pins',s.heap.get? p.1=some p.2/\H p.1=none/\p.1≠X.env.locals/\p.1∉X.fs/\∀v,p.2.data≠.cell v):Inv X pins' σ H s:=
 ⟨I.ok,I.os,I.bare,I.base,I.loc,I.cell,I.free,I.freeC,λp hp=>(Jo.mp hp).elim (λz=>I.pin p (QaP _ z)) (h p),I.hok,I.len⟩
theorem Qf0{N:List Str}(hN:N.Nodup){i j:Nat}{x:Str}(a:N[i]? = some x)(b:N[j]? = some x):i=j:=by
 obtain⟨h1,e1⟩:=QY.mp a;obtain⟨h2,e2⟩:=QY.mp b;exact(List.getElem_inj hN).mp (e1.trans e2.symm)
theorem QgI{M:QjY}{A:Q5}{E:Value->Shared->Prop}{i:Nat}{x:Str}{v:V}{u:Value}{Q:Unit->Shared->Prop}(I:Inv X pins σ H s)(hN:X.N.Nodup)(hi:X.N[i]? = some x)(hx:Loc X.env.scope x)(r:RelV v u)
  (h:∀s',Inv X pins (σ.set i (some v)) H s'->(∃a,Qax a s.heap s'.heap/\(a=X.env.locals∨X.env.cells.lookup x=some a))->Q () s')(hf:X.fn x=true∨X.env.scope.names.lookup x=some .local:=by first | exact .inl rfl | exact .inr rfl | assumption):wpAny M A (storeName X.env x u) Q E s:=by
 obtain⟨m,hn,hl⟩:=id I.loc;have hcls:(X.env.scope.kind == .class||(X.env.scope.kind == .module&&X.env.locals != X.env.globals))=false:=by rw[I.ok.kind];rfl
 have hiσ:i < σ.length:=by rw[I.len];exact(QY.mp hi).1
 have cne:=I.cne;have tracked:∀{a:Addr}{h':J5},(∃o,s.heap.get? a=some o/\H a=none)->Qax a s.heap h'->HOk X.prog X.w H h':=λ{a h'} ha hs b ob e=>by
  obtain⟨_,_,hfree⟩:=ha;refine(I.hok b ob e).stay (λc w' hc q=>(hs.2 c ?_).trans q) (λ_ q=>q) λ_ _ q=>q
  rintro rfl;rcases hc with rfl | hc
  ·rw[hfree] at e;cases e
  ·rw[hfree] at hc;cases hc
 rcases hx with hk | hk
 ·refine wpAny_storeName_local hk hn (λh' hn' hs=>?_) hcls;obtain⟨oL,_,_,hoL,_⟩:=id hn;refine h _ ⟨I.ok,I.os,I.bare,⟨λb o e n hb hx=>?_,λb o e n hb hx=>?_,I.base.free,λb o e hx=>?_,I.base.tups,I.base.frzs,I.base.tbls⟩,⟨_,hn',λj y v' e1 e2 e3=>?_⟩,λy c e=>?_,I.free,I.freeC,λp hp=>?_,tracked ⟨oL,hoL,I.free⟩ hs,by simpa using I.len⟩ ⟨_,hs,.inl rfl⟩
  ·exact(hs.2 b (QD (QL (Qp e) I.ok.above))).trans (I.base.keep b o e n hb hx)
  ·obtain⟨sl,e1⟩:=I.base.slot b o e n hb hx;exact⟨sl,(hs.2 b (QD (QL (Qp e) I.ok.above))).trans e1⟩
  ·obtain⟨o',e1⟩:=I.base.there b o e hx;exact⟨o',(hs.2 b (QD (QL (Qp e) I.ok.above))).trans e1⟩
  ·by_cases hj:j=i
   ·subst hj;rw[hi] at e1;cases e1;rw[Qai hiσ] at e2;cases e2;exact⟨u,r,.inl ⟨hk,by simp⟩⟩
   ·rw[QaQ (QcZ hj)] at e2;obtain⟨u',r',q⟩:=hl j y v' e1 e2 e3;refine⟨u',r',?_⟩;rcases q with⟨k,e⟩ | ⟨k,c,e,z⟩
    ·refine .inl ⟨k,?_⟩;have:y≠x:=λe=>hj (Qf0 hN e1 (e ▸ hi))
     simp[this,e]
    ·exact .inr ⟨k,c,e,z.sameBut hs (cne y c e)⟩
  ·obtain⟨w',z⟩:=I.cell y c e;exact⟨w',z.sameBut hs (cne y c e)⟩
  ·obtain⟨e,n,ne,nf,d⟩:=I.pin p hp;exact⟨(hs.2 p.1 ne).trans e,n,ne,nf,d⟩
 ·have hfn:X.fn x=true:=by
   rcases hf with z | z
   ·exact z
   ·rw[z] at hk;cases hk
  obtain⟨c,hc⟩:=I.ok.has x (.inl hk);obtain⟨w',z⟩:=I.cell x c hc;refine wpAny_storeName_cell I.ok.kind hk hc z (λh' hc' hs=>?_);obtain⟨oc,hoc,hocd⟩:=id z;refine h { s with heap:=h' } ⟨I.ok,I.os,I.bare,⟨λb o e n hb hx=>?_,λb o e n hb hx=>?_,I.base.free,λb o e hx=>?_,I.base.tups,I.base.frzs,I.base.tbls⟩,⟨m,hn.sameBut hs (QcZ (cne x c hc)),λj y v' e1 e2 e3=>?_⟩,λy c' e=>?_,I.free,I.freeC,λp hp=>?_,tracked ⟨oc,hoc,I.freeC x c hc⟩ hs,by simpa using I.len⟩ ⟨c,hs,.inr hc⟩
  ·exact(hs.2 b (QD (QL (Qp e) (I.ok.cab x c hfn hc)))).trans (I.base.keep b o e n hb hx)
  ·obtain⟨sl,e1⟩:=I.base.slot b o e n hb hx;exact⟨sl,(hs.2 b (QD (QL (Qp e) (I.ok.cab x c hfn hc)))).trans e1⟩
  ·obtain⟨o',e1⟩:=I.base.there b o e hx;exact⟨o',(hs.2 b (QD (QL (Qp e) (I.ok.cab x c hfn hc)))).trans e1⟩
  ·by_cases hj:j=i
   ·subst hj;rw[hi] at e1;cases e1;rw[Qai hiσ] at e2;cases e2;exact⟨u,r,.inr ⟨.inl hk,c,hc,hc'⟩⟩
   ·rw[QaQ (QcZ hj)] at e2;obtain⟨u',r',q⟩:=hl j y v' e1 e2 e3;refine⟨u',r',?_⟩;rcases q with q | ⟨k,c',e,z'⟩
    ·exact .inl q
    ·refine .inr ⟨k,c',e,z'.sameBut hs ?_⟩;rintro rfl;exact hj (Qf0 hN e1 (I.ok.inj _ _ _ e hc ▸ hi))
  ·by_cases hcc:c'=c
   ·subst hcc;exact⟨_,hc'⟩
   ·obtain⟨w2,z2⟩:=I.cell y c' e;exact⟨w2,z2.sameBut hs hcc⟩
  ·obtain⟨e,n,ne,nf,d⟩:=I.pin p hp;refine⟨(hs.2 p.1 ?_).trans e,n,ne,nf,d⟩;intro q;rw[q,hoc] at e;have q':oc=p.2:=Qv e;exact d w' (by rw[<- q'];exact hocd)
theorem QfK{M:QjY}{A:Q5}{E:Value->Shared->Prop}{i:Nat}{x:Str}{v:V}{u:Value}{Q:Unit->Shared->Prop}(I:Inv X pins σ H s)(hN:X.N.Nodup)(hi:X.N[i]? = some x)(hx:Loc X.env.scope x)(r:RelV v u)
  (h:∀s',Inv X pins (σ.set i (some v)) H s'->Q () s')(hf:X.fn x=true∨X.env.scope.names.lookup x=some .local:=by first | exact .inl rfl | exact .inr rfl | assumption):wpAny M A (storeName X.env x u) Q E s:=
 QgI I hN hi hx r (λs' I' _=>h s' I') hf
theorem Inv.call'{s':Shared}{ch:List Addr}(I:Inv X pins σ H s)(ho:s'.os=s.os)(u:Un (frs X.stack) ch H H' s.heap s'.heap)(hok:HOk X.prog X.w H' s'.heap)(hg:QdL s'.gens)
  (hch:∀b∈ch,(b∈X.ex∨X.s₀.heap.objs.size<=b)/\b≠X.env.locals/\(∀x c,X.env.cells.lookup x=some c->c≠b)/\∀p∈X.pn++pins,p.1≠b):Inv X pins σ H' s':=by
 obtain⟨h',g',d',t',o'⟩:=s';have e:o'=s.os:=ho;subst e;exact I.call (g':=g') (t':=t') (d':=d') u hok hg hch
end
abbrev XK:=Value->Option Addr->Hp->Prop
abbrev St:=List (Option V)
abbrev VK:=V->Hp->Prop
abbrev TE:=St->Hp->VK->Prop
abbrev TT:=St->Hp->(Bool->Hp->Prop)->Prop
abbrev TA:=St->Hp->(List V->Hp->Prop)->Prop
structure Ends where
 nx:St->Hp->Prop
 rt:VK
 bk:St->Hp->Prop:=λ_ _=>False
 ct:St->Hp->Prop:=λ_ _=>False
abbrev TS:=Ends->St->Hp->Prop
def EP(X:Cx)(pins:List (Addr×Obj))(σ:St)(Q:VK)(u:Value)(s':Shared):Prop:=∃v H',Inv X pins σ H' s'/\RelV v u/\Q v H'
def TP(X:Cx)(pins:List (Addr×Obj))(σ:St)(Q:Bool->Hp->Prop)(b:Bool)(s':Shared):Prop:=∃H',Inv X pins σ H' s'/\Q b H'
def AP(X:Cx)(pins:List (Addr×Obj))(σ:St)(Q:List V->Hp->Prop)(us:List Value)(s':Shared):Prop:=∃vs H',Inv X pins σ H' s'/\Vals vs us/\Q vs H'
def SP(X:Cx)(pins:List (Addr×Obj))(D:Ends)(f:Flow)(s':Shared):Prop:=
 match f with
 |.next=>∃σ' H',Inv X pins σ' H' s'/\D.nx σ' H'
 |.brk=>∃σ' H',Inv X pins σ' H' s'/\D.bk σ' H'
 |.cont=>∃σ' H',Inv X pins σ' H' s'/\D.ct σ' H'
 |.ret u=>∃v σ' H',Inv X pins σ' H' s'/\RelV v u/\D.rt v H'
def PE(X:Cx)(e:QP)(t:TE):Prop:=
 ∀(pins:List (Addr×Obj))(s:Shared)(σ:St)(H:Hp)(Q:VK),Inv X pins σ H s->t σ H Q->wpAny (model X.prog X.w) X.A (eval e X.env) (EP X pins σ Q) X.xe s
def PT(X:Cx)(e:QP)(t:TT):Prop:=
 ∀(pins:List (Addr×Obj))(s:Shared)(σ:St)(H:Hp)(Q:Bool->Hp->Prop),Inv X pins σ H s->t σ H Q->wpAny (model X.prog X.w) X.A (isTrue e X.env (eval e X.env)) (TP X pins σ Q) X.xe s
def PW(X:Cx)(e:QP)(t:TT):Prop:=
 ∀(whole:Sem Value)(pins:List (Addr×Obj))(s:Shared)(σ:St)(H:Hp)(Q:Bool->Hp->Prop),Inv X pins σ H s->t σ H Q->wpAny (model X.prog X.w) X.A (isTrue e X.env whole) (TP X pins σ Q) X.xe s
theorem PW.pt{X:Cx}{e:QP}{t:TT}(h:PW X e t):PT X e t:=h _
def PA(X:Cx)(es:List QP)(t:TA):Prop:=
 ∀(pos:Pos)(pins:List (Addr×Obj))(s:Shared)(σ:St)(H:Hp)(Q:List V->Hp->Prop),Inv X pins σ H s->t σ H Q->wpAny (model X.prog X.w) X.A (spliced (backTo pos (starEach es X.env))) (AP X pins σ Q) X.xe s
def PS(X:Cx)(st:ZZ)(t:TS):Prop:=
 ∀(pins:List (Addr×Obj))(s:Shared)(σ:St)(H:Hp)(D:Ends),Inv X pins σ H s->t D σ H->wpAny (model X.prog X.w) X.A (exec st X.env) (SP X pins D) X.xe s
def PSs(X:Cx)(st:List ZZ)(t:TS):Prop:=
 ∀(pins:List (Addr×Obj))(s:Shared)(σ:St)(H:Hp)(D:Ends),Inv X pins σ H s->t D σ H->wpAny (model X.prog X.w) X.A (execs st X.env) (SP X pins D) X.xe s
theorem thn{α:Type}{t:Sem α}{Q Q':α->Shared->Prop}{M:QjY}{A:Q5}{E:Value->Shared->Prop}{s:Shared}(h:wpAny M A t Q E s)(hQ:∀a s,Q a s->Q' a s):wpAny M A t Q' E s:=wpAny_mono h hQ λ_ _ x=>x
section
variable{X:Cx}
theorem bin{a b:QP}{ta tb:TE}(ha:PE X a ta)(hb:PE X b tb){pins:List (Addr×Obj)}{s:Shared}{σ:St}{H:Hp}{R:V->V->Hp->Prop}(I:Inv X pins σ H s)(h:ta σ H λx H1=>tb σ H1 λy H2=>R x y H2)
  {α:Type} {Q:α->Shared->Prop} {f:Value->Value->Sem α}
  (hf:∀v u s2 x y H2,Inv X pins σ H2 s2->RelV x v->RelV y u->R x y H2->wpAny (model X.prog X.w) X.A (f v u) Q X.xe s2) :
  wpAny (model X.prog X.w) X.A (eval a X.env) (λv s₁=>wpAny (model X.prog X.w) X.A (eval b X.env) (λu s₂=>wpAny (model X.prog X.w) X.A (f v u) Q X.xe s₂) X.xe s₁) X.xe s:=by
 refine thn (ha pins s σ H _ I h) λv s1 ⟨x,H1,I1,r1,q1⟩=>?_
 refine thn (hb pins s1 σ H1 _ I1 q1) λu s2 ⟨y,H2,I2,r2,q2⟩=>?_
 exact hf v u s2 x y H2 I2 r1 r2 q2
def QgF(i:Nat):TE:=λσ H Q=>∃v,σ[i]? = some (some v)/\Q v H
def tC(v:V):TE:=λ_ H Q=>Q v H
theorem Qru{i:Nat}{x:Str}{pos:Pos}(hN:X.N[i]? = some x)(hv:Vis X.env.scope x)(hd:(x == ("__debug__" : Str))=false:=by decide)(hcd:(x == ("__classdict__" : Str))=false:=by decide):PE X (.Name x pos) (QgF i):=by
 intro pins s σ H Q I h;obtain⟨v,e,h⟩:=h;obtain⟨m,hn,hl⟩:=I.loc;obtain⟨u,r,l⟩:=hl i x v hN e hv;have fin:EP X pins σ Q u s:=⟨v,H,I,r,h⟩;rcases l with⟨hk,hm⟩ | ⟨hk,c,hc,hcell⟩
 ·exact QxK (wpAny_loadName_local I.ok.kind hk hn hm fin) hd
 ·rcases hk with hk | hk
  ·exact QxK (wpAny_loadName_cell I.ok.kind hk hc hcell fin) hd
  ·exact QxK (wpAny_loadName_free I.ok.kind hk hc hcell fin hcd) hd
theorem Yy{i j pos}:PE X (.Constant (.int i) j pos) (tC (.int i)):=λ_ _ _ H _ I h=>wpAny_Constant_int ⟨.int i,H,I.tok _,⟨_,rfl⟩,h⟩
theorem QoD{b j pos}:PE X (.Constant (.bool b) j pos) (tC (.bl b)):=λ_ _ _ H _ I h=>Constant_bool ⟨.bl b,H,I,rfl,h⟩
theorem Qrw{j pos}:PE X (.Constant .none j pos) (tC .non):=λ_ _ _ H _ I h=>Constant_none ⟨.non,H,I,rfl,h⟩
theorem QlU{x j pos}:PE X (.Constant (.str x) j pos) (tC (.str x)):=λ_ _ _ H _ I h=>Calls.Constant_str ⟨.str x,H,I.tok _,⟨_,rfl⟩,h⟩
def Gl(X:Cx)(x:Str):Prop:=X.env.kindOf x=some .globalImplicit
theorem Qdn{E:Value->Shared->Prop}{pins:List (Addr×Obj)}{s:Shared}{σ:St}{H:Hp}{x:Str}{u:Value}{pos:Pos}{Q:Value->Shared->Prop}(I:Inv X pins σ H s)(hg:Gl X x)(hm:X.mg x=some u)(h:Q u s)
  (hd:(x == ("__debug__" : Str))=false:=by decide):wpAny (model X.prog X.w) X.A (eval (.Name x pos) X.env) Q E s:=
 Qgq I.ok.kind hg (Calls.loadGlobal_global (by rw[I.ok.glob];exact I.mod.glob.keeps I.bk) hm h) hd
theorem Qch{E:Value->Shared->Prop}{pins:List (Addr×Obj)}{s:Shared}{σ:St}{H:Hp}{x:Str}{u:Value}{pos:Pos}{Q:Value->Shared->Prop}(I:Inv X pins σ H s)(hg:Gl X x)(hm:X.mg x=none)(hv:bootBuiltins x=some u)(h:Q u s)
  (hn:x ≠ "__name__" := by decide)(hd:(x == ("__debug__" : Str))=false:=by decide):wpAny (model X.prog X.w) X.A (eval (.Name x pos) X.env) Q E s:=by
 obtain⟨mb,h1,h2⟩:=I.mod.blt;exact Qgq I.ok.kind hg (Calls.loadGlobal_builtin (by rw[I.ok.glob];exact I.mod.glob.keeps I.bk) hm (by rw[I.ok.blt];exact h1.keeps I.bk) ((h2 x hn).trans hv) h) hd
theorem QlX{x:Str}{v:V}{u:Value}{pos:Pos}(hg:Gl X x)(hm:X.mg x=some u)(r:RelV v u)(hd:(x == ("__debug__" : Str))=false:=by decide):PE X (.Name x pos) (tC v):=
 λ_ _ _ H _ I h=>Qdn I hg hm ⟨v,H,I,r,h⟩ hd
theorem YZ{x:Str}{v:V}{u:Value}{pos:Pos}(hg:Gl X x)(hm:X.mg x=none)(hv:bootBuiltins x=some u)(r:RelV v u)(hn:x ≠ "__name__" := by decide)(hd:(x == ("__debug__" : Str))=false:=by decide):PE X (.Name x pos) (tC v):=
 λ_ _ _ H _ I h=>Qch I hg hm hv ⟨v,H,I,r,h⟩ hn hd
variable{a b:QP}{ta tb:TE}{pos:Pos}
def PC(X:Cx)(op:Qj2)(a b:QP)(t:TE):Prop:=
 ∀(pins:List (Addr×Obj))(s:Shared)(σ:St)(H:Hp)(Q:VK),Inv X pins σ H s->t σ H Q ->
  wpAny (model X.prog X.w) X.A (eval a X.env) (λv s₁=>wpAny (model X.prog X.w) X.A (eval b X.env) (λu s₂=>wpAny (model X.prog X.w) X.A (compareOp op v u) (EP X pins σ Q) X.xe s₂) X.xe s₁) X.xe s
theorem Qpe(b:QP){op:Qj2}(h:op≠.In)(h2:op≠.NotIn):behindInMarks op b=false:=by
 have e1:(op == CmpOp.In)=false:=by cases op<;>first | rfl | exact absurd rfl h
 have e2:(op == Qx9)=false:=by cases op<;>first | rfl | exact absurd rfl h2
 cases b<;>simp[behindInMarks,e1,e2]
def tB(t:TE):TT:=λσ H Q=>t σ H λx H1=>∃c,x=.bl c/\Q c H1
theorem QzN{op:Qj2}{t:TE}(h:PC X op a b t)(h1:behindInMarks op b=false:=by first | exact Qpe _ (by decide) (by decide) | rfl):PT X (.Compare a [op] [b] pos) (tB t):=by
 intro pins s σ H Q I hw;refine QrZ (thn (h pins s σ H _ I hw) λv s1 h1=>thn h1 λu s2 h2=>thn h2 λc s3 ⟨x,H1,I1,r1,q1⟩=>?_) h1;obtain⟨d,rfl,q⟩:=q1;cases r1;exact Zs ⟨H1,I1,q⟩
theorem QgX{e:QP}{t:TE}(h:PE X e t)(he:∀whole,isTrue e X.env whole=(do let v <- whole;standAt e.pos;holding [v] (truthy v)):=by intro _;rfl):PT X e (tB t):=by
 intro pins s σ H Q I hw;refine isTrue_plain (thn (h pins s σ H _ I hw) λv s1 ⟨x,H1,I1,r1,q1⟩=>?_) (he _);obtain⟨d,rfl,q⟩:=q1;cases r1;exact Zs ⟨H1,I1,q⟩
variable{tA tB':TT}{rest:List QP}
def QAl(t u:TT):TT:=λσ H Q=>t σ H λc H1=>if c=true then u σ H1 Q else Q false H1
def tOr(t u:TT):TT:=λσ H Q=>t σ H λc H1=>if c=true then Q true H1 else u σ H1 Q
def QAh(t:TT):TT:=λσ H Q=>t σ H λc H1=>Q (!c) H1
theorem QsP(ha:PT X a tA):PW X (.BoolOp .And [a] pos) tA:=by
 intro wh pins s σ H Q I h;refine isTrue_and (thn (ha pins s σ H Q I h) λc s1 e=>?_);cases c with
 |true=>exact isTrue_and_nil e
 |false=>exact e
theorem Qi7(ha:PT X a tA):PW X (.BoolOp .Or [a] pos) tA:=by
 intro wh pins s σ H Q I h;refine isTrue_or (thn (ha pins s σ H Q I h) λc s1 e=>?_);cases c with
 |false=>exact isTrue_or_nil e
 |true=>exact e
theorem Qvy(ha:PT X a tA)(hb:PW X (.BoolOp .And (b::rest) pos) tB'):PW X (.BoolOp .And (a::b::rest) pos) (QAl tA tB'):=by
 intro wh pins s σ H Q I h;refine isTrue_and (thn (ha pins s σ H _ I h) λc s1 ⟨H1,I1,q1⟩=>?_);cases c with
 |true=>exact hb wh pins s1 σ H1 Q I1 q1
 |false=>exact⟨H1,I1,q1⟩
theorem QlK(ha:PT X a tA)(hb:PW X (.BoolOp .Or (b::rest) pos) tB'):PW X (.BoolOp .Or (a::b::rest) pos) (tOr tA tB'):=by
 intro wh pins s σ H Q I h;refine isTrue_or (thn (ha pins s σ H _ I h) λc s1 ⟨H1,I1,q1⟩=>?_);cases c with
 |true=>exact⟨H1,I1,q1⟩
 |false=>exact hb wh pins s1 σ H1 Q I1 q1
theorem Qrn(ha:PT X a tA):PT X (.UnaryOp .Not a pos) (QAh tA):=by
 intro pins s σ H Q I h;exact isTrue_not (ha pins s σ H (λc H1=>Q (!c) H1) I h)
def Qyp(ta tb:TE):TE:=λσ H Q=>ta σ H λx H1=>∃c,x=.bl c/\if c=true then tb σ H1 Q else Q (.bl false) H1
def Qyl(ta:TE):TE:=λσ H Q=>ta σ H λx H1=>∃c,x=.bl c/\Q (.bl (!c)) H1
theorem Qg0{op}{t:TE}(h:PE X a t):PE X (.BoolOp op [a] pos) t:=λpins s σ H Q I hw=>BoolOp_one (h pins s σ H Q I hw)
theorem Qg1(ha:PE X a ta)(hb:PE X (.BoolOp .And (b::rest) pos) tb):PE X (.BoolOp .And (a::b::rest) pos) (Qyp ta tb):=by
 intro pins s σ H Q I h;refine BoolOp_and (thn (ha pins s σ H _ I h) λv s1 ⟨x,H1,I1,r1,q1⟩=>?_);obtain⟨c,rfl,q1⟩:=q1;cases r1;refine Zs ?_
 cases c with
 |true=>exact hb pins s1 σ H1 Q I1 q1
 |false=>exact⟨.bl false,H1,I1,rfl,q1⟩
theorem Qrv(ha:PE X a ta):PE X (.UnaryOp .Not a pos) (Qyl ta):=by
 intro pins s σ H Q I h;refine UnaryOp_ (thn (ha pins s σ H _ I h) λv s1 ⟨x,H1,I1,r1,q1⟩=>?_);obtain⟨c,rfl,q1⟩:=q1;cases r1;exact not_of (Zs ⟨.bl (!c),H1,I1,rfl,q1⟩)
def tIf(t:TT)(ta tb:TE):TE:=λσ H Q=>t σ H λc H1=>if c=true then ta σ H1 Q else tb σ H1 Q
theorem Qoz{c:QP}(hc:PT X c tA)(ha:PE X a ta)(hb:PE X b tb):PE X (.IfExp c a b pos) (tIf tA ta tb):=by
 intro pins s σ H Q I h;refine wpAny_IfExp (thn (hc pins s σ H _ I h) λd s1 ⟨H1,I1,q1⟩=>?_);cases d with
 |true=>exact ha pins s1 σ H1 Q I1 q1
 |false=>exact hb pins s1 σ H1 Q I1 q1
end
def SqL(K:PySem.W.Frag)(H:Hp)(a:Addr)(xs:List V):Prop:=
 Rd H a (.lst xs) ∨
  ∃(o:Obj)(its:Array Value)(n:Nat),K.lookup a=some o/\o.cls=.type "list" /\ o.dict=none/\o.data=.seq its n/\its.size<=sizeLine/\Vals xs its.toList
def SqT(K:PySem.W.Frag)(H:Hp)(a:Addr)(xs:List V):Prop:=
 Rd H a (.tup xs) ∨
  ∃(o:Obj)(its:Array Value)(n:Nat),K.lookup a=some o/\o.cls=.type "tuple" /\ o.data=.seq its n/\its.size<=sizeLine/\Vals xs its.toList
def QAO:Value->Option V
 |.none=>some .non
 |.bool b=>some (.bl b)
 |.int i _=>some (.int i)
 |.str x _=>some (.str x)
 |.bytes b _=>some (.byt b)
 |.float b _=>some (.flt b)
 |.ref a=>some (.ref a)
 |.type n=>some (.ty n)
 |_=>none
theorem RelV.abs{x:V}{u:Value}(r:RelV x u):QAO u=some x:=by
 cases x with
 |non=>cases r;rfl
 |bl _=>cases r;rfl
 |int _=>obtain⟨t,rfl⟩:=r;rfl
 |str _=>obtain⟨t,rfl⟩:=r;rfl
 |byt _=>obtain⟨t,rfl⟩:=r;rfl
 |flt _=>obtain⟨t,rfl⟩:=r;rfl
 |ref _=>cases r;rfl
 |ty _=>cases r;rfl
theorem RelV.inj{x y:V}{u:Value}(r:RelV x u)(q:RelV y u):x=y:=Qv (r.abs.symm.trans q.abs)
theorem Vals.inj:∀{xs ys:List V}{us:List Value},Vals xs us->Vals ys us->xs=ys
 |_,_,_,.nil,.nil=>rfl
 |_,_,_,.cons r t,.cons r' t'=>by rw[r.inj r',Vals.inj t t']
section
variable{X:Cx}{pins:List (Addr×Obj)}{σ:St}{H:Hp}{s:Shared}{a:Addr}{xs ys:List V}
theorem SqL.of{K:PySem.W.Frag}(h:H a=some (.lst xs)):SqL K H a xs:=.inl (.inl h)
theorem SqT.of{K:PySem.W.Frag}(h:H a=some (.tup xs)):SqT K H a xs:=.inl (.inl h)
theorem Inv.list(I:Inv X pins σ H s)(h:SqL X.K H a xs):∃its:List Value,Vals xs its/\PlainL s.heap a its.toArray/\xs.length<=sizeLine:=by
 rcases h with h | ⟨o,its,n,hk,hc,hd,hs,hz,r⟩
 ·obtain⟨z,its,n,r,e⟩:=h.ok I.hok;exact⟨its,r,⟨_,n,e,rfl,rfl,rfl⟩,z⟩
 ·refine⟨its.toList,r,⟨o,n,I.kIn a o hk,hc,hd,by simpa using hs⟩,?_⟩;have e:=r.length;simp only[Qj] at e;omega
theorem Inv.tuple(I:Inv X pins σ H s)(h:SqT X.K H a xs):∃its:List Value,Vals xs its/\IsTup s.heap a its.toArray/\xs.length<=sizeLine:=by
 rcases h with h | ⟨o,its,n,hk,hc,hs,hz,r⟩
 ·obtain⟨z,its,r,p⟩:=h.ok I.hok;exact⟨its,r,p,z⟩
 ·refine⟨its.toList,r,⟨o,I.kIn a o hk,hc,n,by simpa using hs⟩,?_⟩;have e:=r.length;simp only[Qj] at e;omega
theorem Inv.list_inj(I:Inv X pins σ H s)(h:SqL X.K H a xs)(h':SqL X.K H a ys):xs=ys:=by
 obtain⟨its,r,⟨o,n,e,_,_,d⟩,_⟩:=I.list h;obtain⟨its',r',⟨o',n',e',_,_,d'⟩,_⟩:=I.list h';rw[e] at e';cases e';rw[d] at d';injection d' with d1 _
 have:its=its':=by simpa using congrArg Qxz d1
 subst this;exact r.inj r'
theorem Inv.tuple_inj(I:Inv X pins σ H s)(h:SqT X.K H a xs)(h':SqT X.K H a ys):xs=ys:=by
 obtain⟨its,r,⟨o,e,_,n,d⟩,_⟩:=I.tuple h;obtain⟨its',r',⟨o',e',_,n',d'⟩,_⟩:=I.tuple h';rw[e] at e';cases e';rw[d] at d';injection d' with d1 _
 have:its=its':=by simpa using congrArg Qxz d1
 subst this;exact r.inj r'
end
abbrev Cx.wish (X:Cx) (E:Value->Shared->Prop):Cx:={ X with xe:=E }
abbrev Cx.nox (X:Cx):Cx:=X.wish λ_ _=>False
theorem Cx.Ok.wish{X:Cx}(ok:X.Ok)(E:Value->Shared->Prop):(X.wish E).Ok:=
 ⟨ok.mod,ok.kind,ok.glob,ok.blt,ok.above,ok.inj,ok.has,ok.cab,ok.hd,ok.frames,ok.stk,ok.exf,ok.bs,ok.bsz,ok.noex,ok.exfs,ok.funs,ok.frf⟩
theorem Cx.Ok.unwish{X:Cx}{E:Value->Shared->Prop}(ok:(X.wish E).Ok):X.Ok:=
 ⟨ok.mod,ok.kind,ok.glob,ok.blt,ok.above,ok.inj,ok.has,ok.cab,ok.hd,ok.frames,ok.stk,ok.exf,ok.bs,ok.bsz,ok.noex,ok.exfs,ok.funs,ok.frf⟩
section
variable{X:Cx}{pins:List (Addr×Obj)}{σ:St}{H:Hp}{s:Shared}{E:Value->Shared->Prop}
theorem Inv.wish(I:Inv X pins σ H s)(E:Value->Shared->Prop):Inv (X.wish E) pins σ H s:=⟨I.ok.wish E,I.os,I.bare,I.base,I.loc,I.cell,I.free,I.freeC,I.pin,I.hok,I.len⟩
theorem Inv.unwish(I:Inv (X.wish E) pins σ H s):Inv X pins σ H s:=⟨I.ok.unwish,I.os,I.bare,I.base,I.loc,I.cell,I.free,I.freeC,I.pin,I.hok,I.len⟩
theorem SP.unwish{D:Ends}{f:Flow}{s':Shared}(h:SP (X.wish E) pins D f s'):SP X pins D f s':=by
 cases f with
 |next=>obtain⟨σ',H',I,q⟩:=h;exact⟨σ',H',I.unwish,q⟩
 |brk=>obtain⟨σ',H',I,q⟩:=h;exact⟨σ',H',I.unwish,q⟩
 |cont=>obtain⟨σ',H',I,q⟩:=h;exact⟨σ',H',I.unwish,q⟩
 |ret u=>obtain⟨v,σ',H',I,r,q⟩:=h;exact⟨v,σ',H',I.unwish,r,q⟩
theorem PE.nox{e:QP}{t:TE}(h:PE X.nox e t):PE X e t:=λpins s σ H Q I hw=>
 wpAny_mono (h pins s σ H Q (I.wish _) hw) (λ_ _ ⟨v,H',I',r,q⟩=>⟨v,H',I'.unwish,r,q⟩) λ_ _ z=>JP z
theorem PT.nox{e:QP}{t:TT}(h:PT X.nox e t):PT X e t:=λpins s σ H Q I hw=>
 wpAny_mono (h pins s σ H Q (I.wish _) hw) (λ_ _ ⟨H',I',q⟩=>⟨H',I'.unwish,q⟩) λ_ _ z=>JP z
theorem PSs.nox{st:List ZZ}{t:TS}(h:PSs X.nox st t):PSs X st t:=λpins s σ H D I hw=>
 wpAny_mono (h pins s σ H D (I.wish _) hw) (λ_ _ q=>q.unwish) λ_ _ z=>JP z
end
section
variable{X:Cx}{st:ZZ}{rest:List ZZ}{t u:TS}{e:QP}{te:TE}{pos:Pos}
def Qym:TS:=λD σ H=>D.nx σ H
def QAf(t u:TS):TS:=λD σ H=>t { D with nx:=u D } σ H
theorem Qco:PSs X [] Qym:=λ_ _ σ H _ I h=>Qbw ⟨σ,H,I,h⟩
theorem Zq(h1:PS X st t)(h2:PSs X rest u):PSs X (st::rest) (QAf t u):=by
 intro pins s σ H D I h;refine QcW (thn (h1 pins s σ H { D with nx:=u D } I h) λf s1 q=>?_);cases f with
 |next=>
  obtain⟨σ',H',I',q⟩:=q;exact h2 pins s1 σ' H' D I' q
 |ret v=>exact q
 |brk=>exact q
 |cont=>exact q
theorem YY(h1:PS X st t):PSs X [st] t:=by
 intro pins s σ H D I h;refine QcW (thn (h1 pins s σ H D I h) λf s1 q=>?_);cases f with
 |next=>exact Qbw q
 |ret v=>exact q
 |brk=>exact q
 |cont=>exact q
theorem Inv.quiet{pins:List (Addr×Obj)}{σ:St}{H:Hp}{s:Shared}(I:Inv X pins σ H s):interactive X.env=false:=by simp[interactive,I.ok.kind]
def Qlh(te:TE):TS:=λD σ H=>te σ H λ_ H1=>D.nx σ H1
theorem QfU(he:PE X e te)(hs:swapsWith e none pos.line X.env=pure false:=by rfl):PS X (.Expr e pos) (Qlh te):=by
 intro pins s σ H D I h;exact wpAny_Expr_any (thn (he pins s σ H _ I h) λv s1 ⟨x,H1,I1,r1,q1⟩=>⟨σ,H1,I1,q1⟩) I.quiet hs
def QAg(te:TE):TS:=λD σ H=>te σ H D.rt
theorem QaG(he:PE X e te):PS X (.Return (some e) pos) (QAg te):=by
 intro pins s σ H D I h;exact Qgt (thn (he pins s σ H _ I h) λv s1 ⟨x,H1,I1,r1,q1⟩=>⟨x,σ,H1,I1,r1,q1⟩)
def QAk(c:TT)(t u:TS):TS:=λD σ H=>c σ H λb H1=>if b=true then t D σ H1 else u D σ H1
theorem Qh5{c:QP}{a b:List ZZ}{tc:TT}(hc:PT X c tc)(ha:PSs X a t)(hb:PSs X b u):PS X (.If c a b pos) (QAk tc t u):=by
 intro pins s σ H D I h;refine wpAny_If (thn (hc pins s σ H _ I h) λd s1 ⟨H1,I1,q1⟩=>?_);cases d with
 |true=>exact ha pins s1 σ H1 D I1 q1
 |false=>exact hb pins s1 σ H1 D I1 q1
end
abbrev TG:=V->St->Hp->(St->Hp->Prop)->Prop
abbrev TGs:=List V->St->Hp->(St->Hp->Prop)->Prop
def PG(X:Cx)(target:QP)(t:TG):Prop:=
 ∀(pins:List (Addr×Obj))(s:Shared)(σ:St)(H:Hp)(v:V)(u:Value)(Q:St->Hp->Prop),Inv X pins σ H s->RelV v u->t v σ H Q ->
  wpAny (model X.prog X.w) X.A (assign target X.env u) (λ_ s'=>∃σ' H',Inv X pins σ' H' s'/\Q σ' H') X.xe s
def PGs(X:Cx)(ts:List QP)(t:TGs):Prop:=
 ∀(pins:List (Addr×Obj))(s:Shared)(σ:St)(H:Hp)(vs:List V)(us:List Value)(Q:St->Hp->Prop),Inv X pins σ H s->Vals vs us->t vs σ H Q ->
  wpAny (model X.prog X.w) X.A (assignInOrder ((assignEach ts X.env).map (·.2)) us) (λ_ s'=>∃σ' H',Inv X pins σ' H' s'/\Q σ' H') X.xe s
abbrev TSet:=V->V->V->Hp->(Hp->Prop)->Prop
def Qzr(X:Cx)(t:TSet):Prop:=
 ∀(pins:List (Addr×Obj))(s:Shared)(σ:St)(H:Hp)(o i v:V)(ov iv u:Value)(Q:Hp->Prop),Inv X pins σ H s->RelV o ov->RelV i iv->RelV v u->t o i v H Q ->
  wpAny (model X.prog X.w) X.A (setItem ov iv u) (λ_ s'=>∃H',Inv X pins σ H' s'/\Q H') X.xe s
abbrev TIp:=V->V->Hp->VK->Prop
def PIp(X:Cx)(op:Qfy)(t:TIp):Prop:=
 ∀(pins:List (Addr×Obj))(s:Shared)(σ:St)(H:Hp)(x y:V)(v u:Value)(Q:VK),Inv X pins σ H s->RelV x v->RelV y u->t x y H Q ->
  wpAny (model X.prog X.w) X.A (inplaceOp op v u) (EP X pins σ Q) X.xe s
section
variable{X:Cx}{pos:Pos}
def Qeu(i:Nat):TG:=λv σ H Q=>Q (σ.set i (some v)) H
theorem Qeg{i:Nat}{x:Str}(hN:X.N.Nodup)(hi:X.N[i]? = some x)(hx:Loc X.env.scope x)(hf:X.fn x=true∨X.env.scope.names.lookup x=some .local:=by first | exact .inl rfl | exact .inr rfl | assumption):PG X (.Name x pos) (Qeu i):=by
 intro pins s σ H v u Q I r h;exact QxJ (QfK I hN hi hx r (λs' I'=>⟨_,H,I',h⟩) hf)
def Qza:TGs:=λvs σ H Q=>vs=[]/\Q σ H
def Qpz(t:TG)(u:TGs):TGs:=λvs σ H Q=>∃v r,vs=v::r/\t v σ H λσ' H'=>u r σ' H' Q
theorem QlS:PGs X [] Qza:=by
 intro pins s σ H vs us Q I r h;obtain⟨e,h⟩:=h;subst e;cases r;exact assignInOrder_nil ⟨σ,H,I,h⟩
theorem QfX{e:QP}{es:List QP}{t:TG}{u:TGs}(h1:PG X e t)(h2:PGs X es u)
  (hs:(assignEach (e::es) X.env).map (·.2)=assign e X.env::(assignEach es X.env).map (·.2):=by rfl):PGs X (e::es) (Qpz t u):=by
 intro pins s σ H vs us Q I r h;obtain⟨v,vr,e1,h⟩:=h;subst e1;cases r with
 |cons r rr=>
  rw[hs];refine assignInOrder_cons (thn (h1 pins s σ H _ _ _ I r h) λ_ s1 ⟨σ1,H1,I1,q1⟩=>?_);exact h2 pins s1 σ1 H1 _ _ Q I1 rr q1
def Qy9(K:PySem.W.Frag)(n:Nat)(t:TGs):TG:=λv σ H Q=>∃a xs,v=.ref a/\SqT K H a xs/\xs.length=n/\t xs σ H Q
theorem Qrt{es:List QP}{k:Nat}{t:TGs}{n:Nat}(hc:X.calm=true)(h:PGs X es t)
  (hn:(assignEach es X.env).length=n:=by rfl)(hst:(assignEach es X.env).findIdx? (·.1)=none:=by rfl):PG X (.Tuple es k pos) (Qy9 X.K n t):=by
 intro pins s σ H v u Q I r hw;obtain⟨a,xs,e1,hq,hl,hw⟩:=hw;subst e1;cases r;obtain⟨its,rv,ht,hz⟩:=I.tuple hq;refine assign_Tuple_tuple (I.ok.hd hc) ht (by simp[hn,<- hl,rv.length]) hst λh' hx=>?_
 have I1:Inv X pins σ H { s with heap:=h' }:=I.kept (t':=s.toks) λb o e=>hx b o (QD (Qp e)) e
 exact h pins _ σ H xs _ Q I1 (by simpa using rv) hw
def gSub(to ti:TE)(t:TSet):TG:=λv σ H Q=>to σ H λo H1=>ti σ H1 λi H2=>t o i v H2 λH3=>Q σ H3
theorem QvE{o i:QP}{to ti:TE}{t:TSet}(ho:PE X o to)(hi:PE X i ti)(hs:Qzr X t)
  (ha:∀v,assign (.Subscript o i pos) X.env v=(do
   let ov <- holding [v] (eval o X.env)
   let iv <- holding [v,ov] (eval i X.env)
   standAt pos
   holding [v,ov,iv] (setItem ov iv v)
   release [v,ov,iv] []):=by intro _;rfl):PG X (.Subscript o i pos) (gSub to ti t):=by
 intro pins s σ H v u Q I r h;rw[ha];refine wpAny_bind (Zg (thn (ho pins s σ H _ I h) λov s1 ⟨x,H1,I1,r1,q1⟩=>?_));refine wpAny_bind (Zg (thn (hi pins s1 σ H1 _ I1 q1) λiv s2 ⟨y,H2,I2,r2,q2⟩=>?_));refine wpAny_bind (wpAny_standAt (wpAny_bind (Zg (thn (hs pins s2 σ H2 x y v ov iv u _ I2 r1 r2 r q2) λ_ s3 ⟨H3,I3,q3⟩=>?_))));exact wpAny_release ⟨σ,H3,I3,q3⟩
def Qrc(te:TE)(g:TG):TS:=λD σ H=>te σ H λx H1=>g x σ H1 D.nx
theorem Qrq{tg e:QP}{te:TE}{g:TG}(he:PE X e te)(hg:PG X tg g)(hs:swapsWithSole [tg] e pos.line X.env=pure false:=by rfl)(hw:swappedStores [tg] e X.env=pure none:=by rfl)
  (h1:(assignEach [tg] X.env).map (·.2)=[assign tg X.env]:=by rfl):PS X (.Assign [tg] e pos) (Qrc te g):=by
 intro pins s σ H D I h;refine wpAny_Assign_stores (thn (he pins s σ H _ I h) λv s1 ⟨x,H1,I1,r1,q1⟩=>?_) hs hw;rw[h1];exact thn (hg pins s1 σ H1 x v _ I1 r1 q1) λ_ s2 q=>q
theorem QaF{i:Nat}{x:Str}{e:QP}{te:TE}{pos':Pos}(hN:X.N.Nodup)(hi:X.N[i]? = some x)(hx:Loc X.env.scope x)(he:PE X e te)(hs:swapsWith e (some (.Name x pos')) pos.line X.env=pure false:=by rfl)(hf:X.fn x=true∨X.env.scope.names.lookup x=some .local:=by first | exact .inl rfl | exact .inr rfl | assumption) :
  PS X (.Assign [.Name x pos'] e pos) (Qrc te (Qeu i)):=by
 intro pins s σ H D I h;refine wpAny_Assign_Name (thn (he pins s σ H _ I h) λv s1 ⟨y,H1,I1,r1,q1⟩=>?_) hs;exact QfK I1 hN hi hx r1 (λs2 I2=>⟨_,H1,I2,q1⟩) hf
def Qu2(to ti te:TE)(tget:V->V->Hp->VK->Prop)(tip:TIp)(tset:TSet):TS:=λD σ H=>to σ H λo H1=>ti σ H1 λi H2=>tget o i H2 λx H3=>te σ H3 λy H4=>tip x y H4 λz H5=>tset o i z H5 λH6=>D.nx σ H6
def Qz9(X:Cx)(t:V->V->Hp->VK->Prop):Prop:=
 ∀(pins:List (Addr×Obj))(s:Shared)(σ:St)(H:Hp)(o i:V)(ov iv:Value)(Q:VK),Inv X pins σ H s->RelV o ov->RelV i iv->t o i H Q ->
  wpAny (model X.prog X.w) X.A (getItem ov iv) (EP X pins σ Q) X.xe s
theorem QsT{o i e:QP}{to ti te:TE}{tget:V->V->Hp->VK->Prop}{tip:TIp}{tset:TSet}{op:Qfy}{tpos:Pos}(ho:PE X o to)(hi:PE X i ti)(hg:Qz9 X tget)(he:PE X e te)(hp:PIp X op tip)(hs:Qzr X tset)
  (ha:∀ov iv new,augStore i ov iv new=(do holding [new,ov,iv] (setItem ov iv new);release [new,ov,iv] [];pure .next):=by intros;rfl):PS X (.AugAssign (.Subscript o i tpos) op e pos) (Qu2 to ti te tget tip tset):=by
 intro pins s σ H D I h;refine wpAny_AugAssign_SubscriptAny (thn (ho pins s σ H _ I h) λov s1 ⟨x1,H1,I1,r1,q1⟩=>?_) ha;refine thn (hi pins s1 σ H1 _ I1 q1) λiv s2 ⟨x2,H2,I2,r2,q2⟩=>?_
 refine thn (hg pins s2 σ H2 x1 x2 ov iv _ I2 r1 r2 q2) λold s3 ⟨x3,H3,I3,r3,q3⟩=>?_
 refine thn (he pins s3 σ H3 _ I3 q3) λv s4 ⟨x4,H4,I4,r4,q4⟩=>?_
 refine thn (hp pins s4 σ H4 x3 x4 old v _ I4 r3 r4 q4) λnew s5 ⟨x5,H5,I5,r5,q5⟩=>?_
 exact thn (hs pins s5 σ H5 x1 x2 x5 ov iv new _ I5 r1 r2 r5 q5) λ_ s6 ⟨H6,I6,q6⟩=>⟨σ,H6,I6,q6⟩
def ipI(f:Int->Int->Int):TIp:=λx y H Q=>∃i j,x=.int i/\y=.int j/\Q (.int (f i j)) H
theorem QwF:PIp X .Add (ipI λi j=>i+j):=by
 intro pins s σ H x y v u Q I r1 r2 h;obtain⟨i,j,e1,e2,q⟩:=h;subst e1;subst e2;obtain⟨t,rfl⟩:=r1;obtain⟨t',rfl⟩:=r2;exact iadd_int ⟨.int _,H,I.tok _,⟨_,rfl⟩,q⟩
end
section
variable{X:Cx}{pos:Pos}
end
structure It where
 go:Nat->Hp->Prop
 yld:Nat->Hp->V->Hp->Prop
 stop:Nat->Hp->Prop
def FpOk(X:Cx)(pins:List (Addr×Obj))(H:Hp)(b:Addr):Prop:=
 H b=none/\b≠X.env.locals/\b∉X.fs/\(b∈X.ex∨X.s₀.heap.objs.size<=b)/\(∀x c,X.env.cells.lookup x=some c->c≠b)/\∀p∈X.pn++pins,p.1≠b
theorem Inv.fpOk{X:Cx}{pins:List (Addr×Obj)}{σ:St}{H H':Hp}{s:Shared}{b:Addr}(I:Inv X pins σ H s)(hb:s.heap.objs.size<=b)(hn:H' b=none):FpOk X pins H' b:=by
 refine⟨hn,QcA (QL I.lt hb),I.nofs hb,.inr (Q2 I.sz hb),λx c e z=>?_,λp hp z=>?_⟩
 ·obtain⟨v,q⟩:=I.cell x c e;exact absurd (QL q.lt (by rw[z];exact hb)) (Z7 _)
 ·exact absurd (QL (Qp (I.pin p hp).1) (by rw[z];exact hb)) (Z7 _)
structure Turn (P:Qy) (w:Jg) (K:PySem.W.Frag) (tg:QP) (J:It) (fp:List Addr) (it:Addr) (tn:Nat->J5->Prop):Prop where
 mem:it∈fp
 obj:∀i h,tn i h->∀b∈fp,∃o,h.get? b=some o/\∀v,o.data≠.cell v
 keep:∀i h h',tn i h->(∀b∈fp,∀o,h.get? b=some o->h'.get? b=some o)->tn i h'
 item:∀(X:Cx),X.prog=P->X.w=w->X.K=K->X.calm=true->∀(i:Nat)(pins:List (Addr×Obj))(s:Shared)(σ:St)(H:Hp)(E:Value->Shared->Prop),Inv X pins σ H s->(∀b∈fp,FpOk X pins H b)->tn i s.heap->J.go i H ->
  wpAny (model P w) X.A (pyNext (.ref it)) (λr s1=>∃u,r=some u /\
   wpAny (model P w) X.A (letOwnedTupleGo tg (.ref it) u) (λ_ s2=>∃x H',Inv X pins σ H' s2/\RelV x u/\J.yld i H x H'/\tn (i+1) s2.heap/\∀b∈fp,H' b=none) E s1) E s
 done:∀(X:Cx),X.prog=P->X.w=w->X.K=K->X.calm=true->∀(i:Nat)(pins:List (Addr×Obj))(s:Shared)(σ:St)(H:Hp)(E:Value->Shared->Prop),Inv X pins σ H s->(∀b∈fp,FpOk X pins H b)->tn i s.heap->J.stop i H ->
  wpAny (model P w) X.A (pyNext (.ref it)) (λr s1=>r=none/\Inv X pins σ H s1) E s
 self:∀(A:Q5)(i:Nat)(s:Shared)(Q:Value->Shared->Prop)(E:Value->Shared->Prop),tn i s.heap->Q (.ref it) s->wpAny (model P w) A (pyIter (.ref it)) Q E s
abbrev TI:=St->Hp->(It->Hp->Prop)->Prop
def PIE(X:Cx)(pins:List (Addr×Obj))(σ:St)(tg:QP)(R:It->Hp->Prop)(itv:Value)(s2:Shared):Prop:=
 ∃(it:Addr)(fp:List Addr)(tn:Nat->J5->Prop)(J:It)(H':Hp),itv=.ref it/\Inv X pins σ H' s2/\Turn X.prog X.w X.K tg J fp it tn/\tn 0 s2.heap/\(∀b∈fp,FpOk X pins H' b)/\R J H'
def PI(X:Cx)(tg iter:QP)(wi:TI):Prop:=
 ∀(pins:List (Addr×Obj))(s:Shared)(σ:St)(H:Hp)(R:It->Hp->Prop),Inv X pins σ H s->wi σ H R ->
  wpAny (model X.prog X.w) X.A (eval iter X.env) (λv s1=>wpAny (model X.prog X.w) X.A (pyIter v) (PIE X pins σ tg R) X.xe s1) X.xe s
theorem Qpx{M:QjY}{A:Q5}{E:Value->Shared->Prop}{s:Shared}{tg:QP}{it:Addr}{u:Value}{o:Obj}{n:String}{vs:Array Value}{Q:Unit->Shared->Prop}(ho:s.heap.get? it=some o)(hc:o.cls=.type n)(hd:o.data=.fields vs)
  (hn:["enumerate", "zip", "dict_itemiterator", "dict_reverseitemiterator", "odict_iterator", "itertools.zip_longest", "itertools.pairwise"].contains n=false)(hQ:Q () s):wpAny M A (letOwnedTupleGo tg (.ref it) u) Q E s:=by
 unfold letOwnedTupleGo;cases tg<;>first
  |exact Qe hQ
  |(cases u<;>first
    |exact Qe hQ
    |(refine wpAny_bind (wpAny_load ho ?_)
      rw[hc,hd];show wpAny M A (if(["enumerate", "zip", "dict_itemiterator", "dict_reverseitemiterator", "odict_iterator", "itertools.zip_longest", "itertools.pairwise"].contains n&&vs[0]? == some (rawInt _))=true then _ else _) Q E s;rw[if_neg (by intro h;rw[hn,Bool.false_and] at h;cases h)];exact Qe hQ))
def Itl(K:PySem.W.Frag)(a:Addr):It:=
 ⟨λi H=>∃xs x,SqL K H a xs/\xs[i]? = some x,λi H x H'=>H'=H/\∀xs,SqL K H a xs->xs[i]? = some x,λi H=>∃xs,SqL K H a xs/\xs.length<=i⟩
def Itt(K:PySem.W.Frag)(a:Addr):It:=
 ⟨λi H=>∃xs x,SqT K H a xs/\xs[i]? = some x,λi H x H'=>H'=H/\∀xs,SqT K H a xs->xs[i]? = some x,λi H=>∃xs,SqT K H a xs/\xs.length<=i⟩
def Itr(lo:Int)(n:Nat):It:=⟨λi _=>i<n,λi H x H'=>H'=H/\x=.int (lo+i),λi _=>n<=i⟩
theorem Qlc{P:Qy}{w:Jg}{K:PySem.W.Frag}{tg:QP}(a it:Addr):Turn P w K tg (Itl K a) [it] it (λi h=>h.IsListIter it a i) where
 mem:=by simp
 obj:=λi h st b hb=>by
  have e:b=it:=by simpa using hb
  subst e;obtain⟨o,e,c,d⟩:=st;exact⟨o,e,λv z=>by rw[d] at z;cases z⟩
 keep:=λi h h' st k=>st.at λo e=>k it (by simp) o e
 item:=by
  intro X hP hw hK hc i pins s σ H E I hf st hg;subst hP hw hK;obtain⟨xs,x,hq,hx⟩:=hg;obtain⟨its,rv,p,hz⟩:=I.list hq;obtain⟨u,hu,ru⟩:=rv.get hx;obtain⟨f0,f1,f2,f3,f4,f5⟩:=hf it (by simp);refine wpAny_pyNext_list_item st p.isList (x:=u) (by simpa using hu) λh' st' sb=>?_
  have I1:Inv X pins σ H { s with heap:=h' }:=I.turned (t':=s.toks) (λb o hb e=>(sb.2 b hb).trans e) f0 f1 f3 f4 f5;obtain⟨o,e,c,d⟩:=id st';exact⟨u,rfl,Qpx (s:={ s with heap:=h' }) e c d (by decide) ⟨x,H,I1,ru,⟨rfl,λys hy=>by rw[I.list_inj hy hq];exact hx⟩,st',λb hb=>(hf b hb).1⟩⟩
 done:=by
  intro X hP hw hK hc i pins s σ H E I hf st hg;subst hP hw hK;obtain⟨xs,hq,hx⟩:=hg;obtain⟨its,rv,p,hz⟩:=I.list hq;obtain⟨f0,f1,f2,f3,f4,f5⟩:=hf it (by simp);have hl:=rv.length;exact wpAny_pyNext_list_end (I.ok.hd hc) st p.isList (by simp;omega) λh' eb=>⟨rfl,I.turned (t':=s.toks) (λb o hb e=>eb b o hb e) f0 f1 f3 f4 f5⟩
 self:=λ_ _ _ _ _ st h=>wpAny_pyIter_listiter st h
theorem Qj6{P:Qy}{w:Jg}{K:PySem.W.Frag}{tg:QP}(a it:Addr):Turn P w K tg (Itt K a) [it] it (λi h=>h.IsTupleIter it a i) where
 mem:=by simp
 obj:=λi h st b hb=>by
  have e:b=it:=by simpa using hb
  subst e;obtain⟨o,e,c,d⟩:=st;exact⟨o,e,λv z=>by rw[d] at z;cases z⟩
 keep:=λi h h' st k=>st.at λo e=>k it (by simp) o e
 item:=by
  intro X hP hw hK hc i pins s σ H E I hf st hg;subst hP hw hK;obtain⟨xs,x,hq,hx⟩:=hg;obtain⟨its,rv,p,hz⟩:=I.tuple hq;obtain⟨u,hu,ru⟩:=rv.get hx;obtain⟨f0,f1,f2,f3,f4,f5⟩:=hf it (by simp);refine wpAny_pyNext_tuple_item st (show s.heap.IsTuple a its.toArray from p) (x:=u) (by simpa using hu) λh' st' sb=>?_
  have I1:Inv X pins σ H { s with heap:=h' }:=I.turned (t':=s.toks) (λb o hb e=>(sb.2 b hb).trans e) f0 f1 f3 f4 f5;obtain⟨o,e,c,d⟩:=id st';exact⟨u,rfl,Qpx (s:={ s with heap:=h' }) e c d (by decide) ⟨x,H,I1,ru,⟨rfl,λys hy=>by rw[I.tuple_inj hy hq];exact hx⟩,st',λb hb=>(hf b hb).1⟩⟩
 done:=by
  intro X hP hw hK hc i pins s σ H E I hf st hg;subst hP hw hK;obtain⟨xs,hq,hx⟩:=hg;obtain⟨its,rv,p,hz⟩:=I.tuple hq;obtain⟨f0,f1,f2,f3,f4,f5⟩:=hf it (by simp);have hl:=rv.length;exact wpAny_pyNext_tuple_end (I.ok.hd hc) st (show s.heap.IsTuple a its.toArray from p) (by simp;omega) λh' eb=>⟨rfl,I.turned (t':=s.toks) (λb o hb e=>eb b o hb e) f0 f1 f3 f4 f5⟩
 self:=λ_ _ _ _ _ st h=>wpAny_pyIter_tupleiter st h
theorem Qj7{P:Qy}{w:Jg}{K:PySem.W.Frag}{tg:QP}(it:Addr)(lo:Int)(n:Nat):Turn P w K tg (Itr lo n) [it] it (λi h=>QjZ h it (lo+(i:Nat)*1) ((n:Int) - (i:Nat)) 1) where
 mem:=by simp
 obj:=λi h st b hb=>by
  have e:b=it:=by simpa using hb
  subst e;exact⟨_,st,λv z=>by
   have z':Data.fields _=Data.cell v:=z;cases z'⟩
 keep:=λi h h' st k=>k it (by simp) _ st
 item:=by
  intro X hP hw hK hc i pins s σ H E I hf st hg;subst hP hw hK;obtain⟨f0,f1,f2,f3,f4,f5⟩:=hf it (by simp);have W:=QxO (prog:=X.prog) (w:=X.w) (I.ok.hd hc) it lo 1 n;refine W.item i s _ _ hg st λv h' tk hv st' kk=>?_
  obtain⟨t,rfl⟩:=hv;have I1:Inv X pins σ H { s with heap:=h',toks:=tk }:=I.turned (λb o hb e=>kk b o (by simpa using hb) e) f0 f1 f3 f4 f5;refine⟨_,rfl,Qpx (s:={ s with heap:=h',toks:=tk }) (n := "range_iterator") st' rfl rfl (by decide) ⟨.int (lo+i),H,I1,⟨t,?_⟩,⟨rfl,rfl⟩,st',λb hb=>(hf b hb).1⟩⟩;rw[Int.mul_one]
 done:=by
  intro X hP hw hK hc i pins s σ H E I hf st hg;subst hP hw hK;obtain⟨f0,f1,f2,f3,f4,f5⟩:=hf it (by simp);exact QpV (I.ok.hd hc) st (by have:n<=i:=hg;omega) λh' eb=>⟨rfl,I.turned (t':=s.toks) (λb o hb e=>eb b o hb e) f0 f1 f3 f4 f5⟩
 self:=λ_ _ _ _ _ st h=>Qc1 st h
section
variable{X:Cx}{tg:QP}
def Qy5(K:PySem.W.Frag)(tl:TE):TI:=λσ H R=>tl σ H λx H1=>∃a,x=.ref a/\(∃xs,SqL K H1 a xs)/\R (Itl K a) H1
def QAH(K:PySem.W.Frag)(tl:TE):TI:=λσ H R=>tl σ H λx H1=>∃a,x=.ref a/\(∃xs,SqT K H1 a xs)/\R (Itt K a) H1
theorem QsY{l:QP}{tl:TE}(hl:PE X l tl):PI X tg l (Qy5 X.K tl):=by
 intro pins s σ H R I h;refine thn (hl pins s σ H _ I h) λv s1 ⟨x,H1,I1,r1,q1⟩=>?_
 obtain⟨a,e,⟨xs,hq⟩,q⟩:=q1;subst e;cases r1;obtain⟨its,rv,p,hz⟩:=I1.list hq;refine QxH p.isList ?_
 refine⟨s1.heap.objs.size,[s1.heap.objs.size],_,_,H1,rfl,I1.kept (t':=s1.toks) λb o e=>Qc _ e,Qlc a _,⟨_,QB _ rfl,rfl,rfl⟩,λb hb=>?_,q⟩;have e:b=s1.heap.objs.size:=by simpa using hb
 subst e;exact I1.fpOk (Qi _) (I1.hok.fresh (Qi _))
theorem QvD{l:QP}{tl:TE}(hl:PE X l tl):PI X tg l (QAH X.K tl):=by
 intro pins s σ H R I h;refine thn (hl pins s σ H _ I h) λv s1 ⟨x,H1,I1,r1,q1⟩=>?_
 obtain⟨a,e,⟨xs,hq⟩,q⟩:=q1;subst e;cases r1;obtain⟨its,rv,p,hz⟩:=I1.tuple hq;refine Qft (show s1.heap.IsTuple a its.toArray from p) ?_
 refine⟨s1.heap.objs.size,[s1.heap.objs.size],_,_,H1,rfl,I1.kept (t':=s1.toks) λb o e=>Qc _ e,Qj6 a _,⟨_,QB _ rfl,rfl,rfl⟩,λb hb=>?_,q⟩;have e:b=s1.heap.objs.size:=by simpa using hb
 subst e;exact I1.fpOk (Qi _) (I1.hok.fresh (Qi _))
theorem Qi3{pins:List (Addr×Obj)}{σ:St}{H:Hp}{s:Shared}{R:It->Hp->Prop}{E:Value->Shared->Prop}{lo hi:Int}{t u v:Tok}{tk:Nat}(I:Inv X pins σ H s)(h1 : -(2^62)<=lo)(h2:lo<2^62)(h3 : -(2^62)<=hi)(h4:hi<2^62)
  (q:R (Itr lo (hi - lo).toNat) H):wpAny (model X.prog X.w) X.A (pyIter (.ref s.heap.objs.size)) (PIE X pins σ tg R) E { s with heap:=s.heap.push { cls:=.type "range",data:=.fields #[.int lo t,.int hi u,.int 1 v] },toks:=tk }:=by
 refine wpAny_pyIter_range (IsRange.new ..) (small_one h1 h2 h3 h4) ?_
 have I1:Inv X pins σ H { s with heap:=s.heap.push { cls:=.type "range",data:=.fields #[.int lo t,.int hi u,.int 1 v] },toks:=tk }:=I.kept λb o e=>Qc _ e
 refine⟨(s.heap.push { cls:=.type "range",data:=.fields #[.int lo t,.int hi u,.int 1 v] }).objs.size,[(s.heap.push { cls:=.type "range",data:=.fields #[.int lo t,.int hi u,.int 1 v] }).objs.size],_,_,H,rfl,
  I1.kept (t':=tk) λb o e=>Qc _ e,Qj7 _ lo (hi - lo).toNat,?_,λb hb=>?_,q⟩
 ·have e1:lo+((0:Nat):Int)*1=lo:=by simp
  have e2:(((hi - lo).toNat:Nat):Int) - ((0:Nat):Int)=Js lo hi 1:=by rw[Qfv];split<;>omega
  show QjZ _ _ (lo+((0:Nat):Int)*1) ((((hi - lo).toNat:Nat):Int) - ((0:Nat):Int)) 1;rw[e1,e2];exact QB _ rfl
 ·have e:b=(s.heap.push { cls:=.type "range",data:=.fields #[.int lo t,.int hi u,.int 1 v] }).objs.size:=by simpa using hb
  subst e;exact I1.fpOk (Qi _) (I1.hok.fresh (Qi _))
def Qy4(ta:TA):TI:=λσ H R=>ta σ H λvs H1=>∃j:Int,vs=[.int j] /\ -(2^62)<=j/\j<2^62/\R (Itr 0 j.toNat) H1
def Qy3(ta:TA):TI:=λσ H R=>ta σ H λvs H1=>∃i j:Int,vs=[.int i,.int j]/\(-(2^62)<=i/\i<2^62 /\ -(2^62)<=j/\j<2^62)/\R (Itr i (j - i).toNat) H1
theorem QgY{a:QP}{ta:TA}{p pos:Pos}(hg:Gl X "range")(hm:X.mg "range" = none)(ha:PA X [a] ta)(hs:starEach [a] X.env=[(false,eval a X.env)]:=by rfl):PI X tg (.Call (.Name "range" p) [a] [] pos) (Qy4 ta):=by
 intro pins s σ H R I h;refine Call_ (Qch I hg hm QxN (JE (thn (ha pos pins s σ H _ I h) λus s1 ⟨vs,H1,I1,r1,q1⟩=>?_) hs rfl));obtain⟨j,e,q1,q2,q⟩:=q1;subst e;cases r1 with
 |cons r rr=>
  cases rr;obtain⟨t,rfl⟩:=r;exact call_range_1 (Qi3 I1 (by omega) (by omega) q1 q2 (by simpa using q))
theorem QlR{a b:QP}{ta:TA}{p pos:Pos}(hg:Gl X "range")(hm:X.mg "range" = none)(ha:PA X [a,b] ta)(hs:starEach [a,b] X.env=[(false,eval a X.env),(false,eval b X.env)]:=by rfl)(hs2:starEach [b] X.env=[(false,eval b X.env)]:=by rfl) :
  PI X tg (.Call (.Name "range" p) [a,b] [] pos) (Qy3 ta):=by
 intro pins s σ H R I h;refine Call_ (Qch I hg hm QxN (JE (thn (ha pos pins s σ H _ I h) λus s1 ⟨vs,H1,I1,r1,q1⟩=>?_) (by rw[hs,hs2]) (by rw[hs2];rfl)));obtain⟨i,j,e,⟨q1,q2,q3,q4⟩,q⟩:=q1;subst e;cases r1 with
 |cons r rr=>
  cases rr with
  |cons r' rr=>
   cases rr;obtain⟨t,rfl⟩:=r;obtain⟨t',rfl⟩:=r';exact call_range_2 (Qi3 I1 q1 q2 q3 q4 q)
def tFor(wi:TI)(g:TG)(tb:TS):TS:=λD σ H=>wi σ H λJ H1=>∃W:Nat->Nat->St->Hp->Prop,(∃m,W 0 m σ H1)/\∀i m σ H,W i m σ H ->
 (J.stop i H/\D.nx σ H)∨(J.go i H/\∃N:St->Hp->Prop,(∀σ' H',N σ' H'->∃m',m'<m/\W (i+1) m' σ' H')/\∀x H',J.yld i H x H'->g x σ H' λσ2 H2=>tb { D with nx:=N,ct:=N,bk:=D.nx } σ2 H2)
def Qjc(fp:List Addr)(h:J5):List (Addr×Obj):=fp.filterMap λb=>(h.get? b).map λo=>(b,o)
theorem Qaz{fp:List Addr}{h:J5}{b:Addr}{o:Obj}(hb:b∈fp)(e:h.get? b=some o):(b,o)∈Qjc fp h:=Yh.mpr ⟨b,hb,by rw[e];rfl⟩
theorem Qmn{fp:List Addr}{h:J5}{p:Addr×Obj}(hp:p∈Qjc fp h):p.1∈fp/\h.get? p.1=some p.2:=by
 obtain⟨b,hb,e⟩:=Yh.mp hp;cases q:h.get? b with
 |none=>rw[q] at e;cases e
 |some o=>
  rw[q] at e;have e':(b,o)=p:=Qv e;subst e';exact⟨hb,q⟩
theorem Inv.pinned{pins:List (Addr×Obj)}{σ:St}{H:Hp}{s:Shared}{fp:List Addr}(I:Inv X pins σ H s)(hf:∀b∈fp,FpOk X pins H b)(ho:∀b∈fp,∃o,s.heap.get? b=some o/\∀v,o.data≠.cell v):Inv X (pins++Qjc fp s.heap) σ H s:=
 I.pins_of λp hp=>(Jo.mp hp).elim (λz=>I.pin p (Q6 _ z)) λz=>by
  obtain⟨hb,e⟩:=Qmn z;obtain⟨f0,f1,f2,_⟩:=hf p.1 hb;obtain⟨o,e',d⟩:=ho p.1 hb;rw[e] at e';cases e';exact⟨e,f0,f1,f2,d⟩
theorem Inv.unpinned{pins pl:List (Addr×Obj)}{σ:St}{H:Hp}{s:Shared}(I:Inv X (pins++pl) σ H s):Inv X pins σ H s:=I.pins_of λp hp=>I.pin p (Q6 _ (QaP _ hp))
theorem Qrp{iter:QP}{body:List ZZ}{wi:TI}{g:TG}{tb:TS}{pos:Pos}(hp:PassesOwn (model X.prog X.w) X.A X.env X.xe)(hc:X.calm=true)(hi:PI X tg iter wi)(hg:PG X tg g)(hb:PSs X body tb)
  (hs:∀x,foldedSetIterable iter X.env x=pure x:=by intro _;rfl):PS X (.For tg iter body [] pos) (tFor wi g tb):=by
 intro pins s σ H D I h;refine wpAny_For (thn (hi pins s σ H _ I h) λv s1 h1=>thn h1 λitv s2 h2=>?_) hs;obtain⟨it,fp,tn,J,H2,e,I2,T,st2,f2,W,⟨m0,w0⟩,turn⟩:=h2;subst e;have stat:∀{H':Hp},(∀b∈fp,H' b=none)->∀b∈fp,FpOk X pins H' b:=λhn b hb=>⟨hn b hb,(f2 b hb).2⟩
 refine codeAny_forLoop_any (λn s'=>∃i σ' H',Inv X pins σ' H' s'/\tn i s'.heap/\(∀b∈fp,H' b=none)/\W i n σ' H') ?_ m0 ⟨0,σ,H2,I2,st2,λb hb=>(f2 b hb).1,w0⟩
 rintro n s3 ⟨i,σ3,H3,I3,st3,fr3,w3⟩;rcases turn i n σ3 H3 w3 with⟨stop,qn⟩ | ⟨go,N,hN,step⟩
 ·refine Qbv hp (thn (T.done X rfl rfl rfl hc i pins s3 σ3 H3 X.xe I3 (stat fr3) st3 stop) λr s4 ⟨hr,I4⟩=>?_);subst hr;exact Qbw ⟨σ3,H3,I4,qn⟩
 ·refine Qbv hp (thn (T.item X rfl rfl rfl hc i pins s3 σ3 H3 X.xe I3 (stat fr3) st3 go) λr s4 ⟨u,hr,h4⟩=>?_);subst hr;refine Qbv hp (thn h4 λ_ s5 ⟨x,H5,I5,r5,y5,st5,fr5⟩=>?_);have I5':=I5.pinned (stat fr5) (T.obj _ _ st5);refine Qbv hp (thn (hg _ s5 σ3 H5 x u _ I5' r5 (step x H5 y5)) λ_ s6 ⟨σ6,H6,I6,q6⟩=>?_);refine Qbv hp (thn (hb _ s6 σ6 H6 _ I6 q6) λf s7 q7=>?_);have again:∀{σ7:St}{H7:Hp},Inv X (pins++Qjc fp s5.heap) σ7 H7 s7->N σ7 H7->∃m,m<n/\∃i σ' H',Inv X pins σ' H' s7/\tn i s7.heap/\(∀b∈fp,H' b=none)/\W i m σ' H':=λ{σ7 H7} I7 n7=>by
   obtain⟨m',hm,w7⟩:=hN σ7 H7 n7;refine⟨m',hm,i+1,σ7,H7,I7.unpinned,T.keep _ _ _ st5 λb hb o e=>(I7.pin (b,o) (Q6 _ (Q6 _ (Qaz hb e)))).1,λb hb=>?_,w7⟩;obtain⟨o,e,d⟩:=T.obj _ _ st5 b hb;exact(I7.pin (b,o) (Q6 _ (Q6 _ (Qaz hb e)))).2.1
  cases f with
  |next=>obtain⟨σ7,H7,I7,n7⟩:=q7;exact again I7 n7
  |cont=>obtain⟨σ7,H7,I7,n7⟩:=q7;exact again I7 n7
  |brk=>obtain⟨σ7,H7,I7,q7⟩:=q7;exact⟨σ7,H7,I7.unpinned,q7⟩
  |ret v=>obtain⟨x7,σ7,H7,I7,r7,q7⟩:=q7;exact⟨x7,σ7,H7,I7.unpinned,r7,q7⟩
end
theorem QmS{lo:Int}{n:Nat}{g:TG}{tb:TS}{D:Ends}{σ:St}{H:Hp}(Pv:Nat->St->Hp->Prop)(h0:Pv 0 σ H)
  (hs:∀i σ H,i<n->Pv i σ H->g (.int (lo+i)) σ H λσ2 H2=>tb { D with nx:=Pv (i+1),ct:=Pv (i+1),bk:=D.nx } σ2 H2)(hd:∀σ H,Pv n σ H->D.nx σ H) :
  ∃W:Nat->Nat->St->Hp->Prop,(∃m,W 0 m σ H)/\∀i m σ H,W i m σ H ->
   ((Itr lo n).stop i H/\D.nx σ H)∨((Itr lo n).go i H/\∃N:St->Hp->Prop,(∀σ' H',N σ' H'->∃m',m'<m/\W (i+1) m' σ' H')/\∀x H',(Itr lo n).yld i H x H'->g x σ H' λσ2 H2=>tb { D with nx:=N,ct:=N,bk:=D.nx } σ2 H2):=by
 refine⟨λi m σ H=>m=n - i/\i<=n/\Pv i σ H,⟨n,by simp,Qw _,h0⟩,?_⟩;rintro i m σ H ⟨rfl,hi,p⟩;by_cases hlt:i<n
 ·refine .inr ⟨hlt,Pv (i+1),λσ' H' p'=>⟨n - (i+1),by omega,rfl,hlt,p'⟩,λx H' y=>?_⟩;obtain⟨e,y⟩:=y;subst e y;exact hs i σ _ hlt p
 ·have e:i=n:=by omega
  subst e;exact .inl ⟨Qi _,hd σ H p⟩
abbrev R2:=V->V->Hp->VK->Prop
def OpR(X:Cx)(f:Value->Value->Sem Value)(r:R2):Prop:=
 ∀(pins:List (Addr×Obj))(s:Shared)(σ:St)(H:Hp)(x y:V)(v u:Value)(Q:VK),Inv X pins σ H s->RelV x v->RelV y u->r x y H Q ->
  wpAny (model X.prog X.w) X.A (f v u) (EP X pins σ Q) X.xe s
def UnR(X:Cx)(f:Value->Sem Value)(r:V->Hp->VK->Prop):Prop:=
 ∀(pins:List (Addr×Obj))(s:Shared)(σ:St)(H:Hp)(x:V)(v:Value)(Q:VK),Inv X pins σ H s->RelV x v->r x H Q ->
  wpAny (model X.prog X.w) X.A (f v) (EP X pins σ Q) X.xe s
def CallR(X:Cx)(f:Value)(r:List V->Hp->VK->Prop):Prop:=
 ∀(pins:List (Addr×Obj))(s:Shared)(σ:St)(H:Hp)(xs:List V)(us:List Value)(Q:VK),Inv X pins σ H s->Vals xs us->r xs H Q ->
  wpAny (model X.prog X.w) X.A (call f us) (EP X pins σ Q) X.xe s
def QAP(X:Cx)(r:V->Hp->(Bool->Hp->Prop)->Prop):Prop:=
 ∀(pins:List (Addr×Obj))(s:Shared)(σ:St)(H:Hp)(x:V)(v:Value)(Q:Bool->Hp->Prop),Inv X pins σ H s->RelV x v->r x H Q ->
  wpAny (model X.prog X.w) X.A (truthy v) (TP X pins σ Q) X.xe s
def tOp(r:R2)(ta tb:TE):TE:=λσ H Q=>ta σ H λx H1=>tb σ H1 λy H2=>r x y H2 Q
def tUn(r:V->Hp->VK->Prop)(ta:TE):TE:=λσ H Q=>ta σ H λx H1=>r x H1 Q
def rI(C:Int->Int->Prop)(g:Int->Int->V):R2:=λx y H Q=>∃i j,x=.int i/\y=.int j/\C i j/\Q (g i j) H
def rI0(g:Int->Int->V):R2:=λx y H Q=>∃i j,x=.int i/\y=.int j/\Q (g i j) H
def rU(g:Int->V):V->Hp->VK->Prop:=λx H Q=>∃i,x=.int i/\Q (g i) H
section
variable{X:Cx}{a b c:QP}{ta tb tc:TE}{pos:Pos}
theorem Qzn(ha:PE X a ta)(hb:PE X b tb){pins:List (Addr×Obj)}{s:Shared}{σ:St}{H:Hp}{R:V->V->Hp->Prop}(I:Inv X pins σ H s)
  (h:ta σ H λx H1=>tb σ H1 λy H2=>R x y H2){Q:Value->Shared->Prop}{f:Value->Value->Sem Value}
  (hf:∀v u s2 x y H2,Inv X pins σ H2 s2->RelV x v->RelV y u->R x y H2->wpAny (model X.prog X.w) X.A (f v u) Q X.xe s2) :
  wpAny (model X.prog X.w) X.A (eval a X.env) (λv s₁=>wpAny (model X.prog X.w) X.A (eval b X.env) (λu s₂=>wpAny (model X.prog X.w) X.A (f v u) Q X.xe s₂) X.xe s₁) X.xe s:=by
 refine thn (ha pins s σ H _ I h) λv s1 ⟨x,H1,I1,r1,q1⟩=>?_
 refine thn (hb pins s1 σ H1 _ I1 q1) λu s2 ⟨y,H2,I2,r2,q2⟩=>?_
 exact hf v u s2 x y H2 I2 r1 r2 q2
theorem Qas{op:Qfy}{r:R2}(ho:OpR X (binaryOp op) r)(ha:PE X a ta)(hb:PE X b tb):PE X (.BinOp a op b pos) (tOp r ta tb):=by
 intro pins s σ H Q I h;exact wpAny_BinOp (Qzn ha hb I h λv u s2 x y H2 I2 rx ry q=>ho pins s2 σ H2 x y v u Q I2 rx ry q)
theorem QyG{op:UnaryOp}{r:V->Hp->VK->Prop}(ho:UnR X (unaryOp op) r)(ha:PE X a ta):PE X (.UnaryOp op a pos) (tUn r ta):=by
 intro pins s σ H Q I h;exact UnaryOp_ (thn (ha pins s σ H _ I h) λv s1 ⟨x,H1,I1,r1,q1⟩=>ho pins s1 σ H1 x v Q I1 r1 q1)
theorem opI{f:Value->Value->Sem Value}{C:Int->Int->Prop}{g:Int->Int->Int}
  (rule:∀(i j:Int)(t u:Tok)(s:Shared)(Q:Value->Shared->Prop)(E:Value->Shared->Prop),C i j->Q (.int (g i j) s.toks) { s with toks:=s.toks+1 }->wpAny (model X.prog X.w) X.A (f (.int i t) (.int j u)) Q E s) :
  OpR X f (rI C λi j=>.int (g i j)):=by
 intro pins s σ H x y v u Q I rx ry h;obtain⟨i,j,rfl,rfl,hc,q⟩:=h;obtain⟨t,rfl⟩:=rx;obtain⟨t',rfl⟩:=ry;exact rule i j t t' s _ _ hc ⟨.int (g i j),H,I.tok _,⟨_,rfl⟩,q⟩
theorem QxC{f:Value->Value->Sem Value}{g:Int->Int->Int}
  (rule:∀(i j:Int)(t u:Tok)(s:Shared)(Q:Value->Shared->Prop)(E:Value->Shared->Prop),Q (.int (g i j) s.toks) { s with toks:=s.toks+1 }->wpAny (model X.prog X.w) X.A (f (.int i t) (.int j u)) Q E s) :
  OpR X f (rI0 λi j=>.int (g i j)):=by
 intro pins s σ H x y v u Q I rx ry h;obtain⟨i,j,rfl,rfl,q⟩:=h;obtain⟨t,rfl⟩:=rx;obtain⟨t',rfl⟩:=ry;exact rule i j t t' s _ _ ⟨.int (g i j),H,I.tok _,⟨_,rfl⟩,q⟩
theorem QxD{f:Value->Value->Sem Value}{g:Int->Int->Bool}
  (rule:∀(i j:Int)(t u:Tok)(s:Shared)(Q:Value->Shared->Prop)(E:Value->Shared->Prop),Q (.bool (g i j)) s->wpAny (model X.prog X.w) X.A (f (.int i t) (.int j u)) Q E s) :
  OpR X f (rI0 λi j=>.bl (g i j)):=by
 intro pins s σ H x y v u Q I rx ry h;obtain⟨i,j,rfl,rfl,q⟩:=h;obtain⟨t,rfl⟩:=rx;obtain⟨t',rfl⟩:=ry;exact rule i j t t' s _ _ ⟨.bl (g i j),H,I,rfl,q⟩
def Qzv(i j:Int):Prop:=0<=j/\j<=1000000/\i.natAbs<2^64
def CMul(i j:Int):Prop:=(-(2^64)<i/\i<2^64)∨(-(2^64)<j/\j<2^64)
theorem CMul.ok{i j:Int}(h:CMul i j):IntMulOk i j:=by
 rcases h with⟨h1,h2⟩ | ⟨h1,h2⟩
 ·exact .of_left (intBits_le_64 h1 h2)
 ·exact .of_right (intBits_le_64 h1 h2)
theorem Qj5(k:Nat):(0:Int)<=2^k:=by
 rw[two_pow_cast];exact Qd8 _
theorem Qff:OpR X (binaryOp .Add) (rI0 λi j=>.int (i+j)):=QxC λ_ _ _ _ _ _ _ q=>add_int q
theorem Qfd:OpR X (binaryOp .Sub) (rI0 λi j=>.int (i - j)):=QxC λ_ _ _ _ _ _ _ q=>sub_int q
theorem Qfe:OpR X (binaryOp .Mult) (rI CMul λi j=>.int (i*j)):=opI λ_ _ _ _ _ _ _ hc q=>mul_int q hc.ok
theorem Qjj:OpR X (binaryOp .Mod) (rI (λ_ j=>0<j) λi j=>.int (i % j)):=opI λi j _ _ _ _ _ hc q=>by
 have h1:(0:Int)<j:=hc;exact mod_int' (by omega) (by rw[Int.fmod_eq_emod_of_nonneg i (by omega)];exact q)
theorem Qjh:OpR X (binaryOp .Pow) (rI Qzv λi j=>.int (i^j.toNat)):=opI λ_ _ _ _ _ _ _ hc q=>pow_int_small hc.1 hc.2.1 hc.2.2 q
theorem Qg2:OpR X (binaryOp .LShift) (rI Qzv λi j=>.int (i*2^j.toNat)):=opI λ_ _ _ _ _ _ _ hc q=>lshift_int_small hc.1 hc.2.1 hc.2.2 q
theorem Qjg:OpR X (binaryOp .RShift) (rI (λ_ j=>0<=j) λi j=>.int (i / 2^j.toNat)):=opI λi j _ _ _ _ _ hc q=>
 rshift_int hc (by rw[QhJ i (Qj5 _)];exact q)
theorem Qg3:OpR X (binaryOp .BitAnd) (rI0 λi j=>.int (Jb i j)):=QxC λ_ _ _ _ _ _ _ q=>and_int q
theorem QyP:OpR X (binaryOp .BitOr) (rI0 λi j=>.int (Qc6 i j)):=QxC λ_ _ _ _ _ _ _ q=>or_int q
theorem unI{f:Value->Sem Value}{g:Int->Int}
  (rule:∀(i:Int)(t:Tok)(s:Shared)(Q:Value->Shared->Prop)(E:Value->Shared->Prop),Q (.int (g i) s.toks) { s with toks:=s.toks+1 }->wpAny (model X.prog X.w) X.A (f (.int i t)) Q E s) :
  UnR X f (rU λi=>.int (g i)):=by
 intro pins s σ H x v Q I rx h;obtain⟨i,rfl,q⟩:=h;obtain⟨t,rfl⟩:=rx;exact rule i t s _ _ ⟨.int (g i),H,I.tok _,⟨_,rfl⟩,q⟩
theorem QuQ:UnR X (unaryOp .USub) (rU λi=>.int (-i)):=unI λ_ _ _ _ _ q=>neg_int q
end
def scal:V->V->Bool
 |.non,.non=>true | .non,.int _=>true | .int _,.non=>true | .non,.bl _=>true | .bl _,.non=>true | .non,.str _=>true | .str _,.non=>true
 |.int _,.int _=>true | .bl _,.bl _=>true | .str _,.str _=>true | .byt _,.byt _=>true
 |.int _,.str _=>true | .str _,.int _=>true | .bl _,.str _=>true | .str _,.bl _=>true
 |_,_=>false
def rEq:R2:=λx y H Q=>scal x y=true/\Q (.bl (decide (x=y))) H
def rNe:R2:=λx y H Q=>scal x y=true/\Q (.bl (!decide (x=y))) H
theorem Qm7{i j:Int}:decide (V.int i=V.int j)=(i == j):=by
 rw[Qab];simp
theorem QrN{i j:Bool}:decide (V.bl i=V.bl j)=(i == j):=by
 rw[Qab];simp
theorem Qm6{i j:Str}:decide (V.str i=V.str j)=(i == j):=by
 rw[Qab];simp
theorem Qm8{i j:Array UInt8}:decide (V.byt i=V.byt j)=(i.toList == j.toList):=by
 rw[Qab];cases i;cases j;simp
section
variable{X:Cx}{a b c:QP}{ta tb tc:TE}{pos:Pos}
theorem Zw{pins:List (Addr×Obj)}{σ:St}{H:Hp}{s:Shared}{Q:VK}{k k':Bool}(I:Inv X pins σ H s)(q:Q (.bl k) H)(e:k=k'):EP X pins σ Q (.bool k') s:=by
 subst e;exact⟨.bl k,H,I,rfl,q⟩
theorem Qts:OpR X (compareOp .Eq) rEq:=by
 intro pins s σ H x y v u Q I rx ry h;obtain⟨hs,q⟩:=h;cases x with
 |non=>
  cases rx;cases y with
  |non=>cases ry;exact PySem.EqNone.eq_none_none (Zw I q (by simp))
  |bl j=>cases ry;exact PySem.EqNone.eq_none_bool (Zw I q (by simp))
  |int j=>obtain⟨t',rfl⟩:=ry;exact PySem.EqNone.eq_none_int (Zw I q (by simp))
  |str j=>obtain⟨t',rfl⟩:=ry;exact PySem.EqNone.eq_none_str (Zw I q (by simp))
  |_=>exact absurd (show false=true from hs) QC
 |bl i=>
  cases rx;cases y with
  |non=>cases ry;exact PySem.EqNone.eq_bool_none (Zw I q (by simp))
  |bl j=>cases ry;exact eq_bool (Zw I q QrN)
  |str j=>obtain⟨t',rfl⟩:=ry;exact PySem.EqMixed.eq_bool_str (Zw I q (by simp))
  |_=>exact absurd (show false=true from hs) QC
 |int i=>
  obtain⟨t,rfl⟩:=rx;cases y with
  |non=>cases ry;exact PySem.EqNone.eq_int_none (Zw I q (by simp))
  |int j=>obtain⟨t',rfl⟩:=ry;exact eq_int (Zw I q Qm7)
  |str j=>obtain⟨t',rfl⟩:=ry;exact PySem.EqMixed.eq_int_str (Zw I q (by simp))
  |_=>exact absurd (show false=true from hs) QC
 |str i=>
  obtain⟨t,rfl⟩:=rx;cases y with
  |non=>cases ry;exact PySem.EqNone.eq_str_none (Zw I q (by simp))
  |bl j=>cases ry;exact PySem.EqMixed.eq_str_bool (Zw I q (by simp))
  |int j=>obtain⟨t',rfl⟩:=ry;exact PySem.EqMixed.eq_str_int (Zw I q (by simp))
  |str j=>obtain⟨t',rfl⟩:=ry;exact eq_str (Zw I q Qm6)
  |_=>exact absurd (show false=true from hs) QC
 |byt i=>
  obtain⟨t,rfl⟩:=rx;cases y with
  |byt j=>obtain⟨t',rfl⟩:=ry;exact PySem.W.eq_bytes (Zw I q Qm8)
  |_=>exact absurd (show false=true from hs) QC
 |_=>cases y<;>exact absurd (show false=true from hs) QC
theorem Qo3:OpR X (compareOp .NotEq) rNe:=by
 intro pins s σ H x y v u Q I rx ry h;obtain⟨hs,q⟩:=h;cases x with
 |non=>
  cases rx;cases y with
  |non=>cases ry;exact PySem.EqNone.ne_none_none (Zw I q (by simp))
  |bl j=>cases ry;exact PySem.EqNone.ne_none_bool (Zw I q (by simp))
  |int j=>obtain⟨t',rfl⟩:=ry;exact PySem.EqNone.ne_none_int (Zw I q (by simp))
  |str j=>obtain⟨t',rfl⟩:=ry;exact PySem.EqNone.ne_none_str (Zw I q (by simp))
  |_=>exact absurd (show false=true from hs) QC
 |bl i=>
  cases rx;cases y with
  |non=>cases ry;exact PySem.EqNone.ne_bool_none (Zw I q (by simp))
  |bl j=>cases ry;exact ne_bool (Zw I q (congrArg not QrN))
  |str j=>obtain⟨t',rfl⟩:=ry;exact PySem.EqMixed.ne_bool_str (Zw I q (by simp))
  |_=>exact absurd (show false=true from hs) QC
 |int i=>
  obtain⟨t,rfl⟩:=rx;cases y with
  |non=>cases ry;exact PySem.EqNone.ne_int_none (Zw I q (by simp))
  |int j=>obtain⟨t',rfl⟩:=ry;exact ne_int (Zw I q (congrArg not Qm7))
  |str j=>obtain⟨t',rfl⟩:=ry;exact PySem.EqMixed.ne_int_str (Zw I q (by simp))
  |_=>exact absurd (show false=true from hs) QC
 |str i=>
  obtain⟨t,rfl⟩:=rx;cases y with
  |non=>cases ry;exact PySem.EqNone.ne_str_none (Zw I q (by simp))
  |bl j=>cases ry;exact PySem.EqMixed.ne_str_bool (Zw I q (by simp))
  |int j=>obtain⟨t',rfl⟩:=ry;exact PySem.EqMixed.ne_str_int (Zw I q (by simp))
  |str j=>obtain⟨t',rfl⟩:=ry;exact ne_str (Zw I q (congrArg not Qm6))
  |_=>exact absurd (show false=true from hs) QC
 |byt i=>
  obtain⟨t,rfl⟩:=rx;cases y with
  |byt j=>obtain⟨t',rfl⟩:=ry;exact PySem.W.ne_bytes (Zw I q (congrArg not Qm8))
  |_=>exact absurd (show false=true from hs) QC
 |_=>cases y<;>exact absurd (show false=true from hs) QC
theorem QyQ:OpR X (compareOp .Lt) (rI0 λi j=>.bl (decide (i<j))):=QxD λ_ _ _ _ _ _ _ q=>lt_int q
theorem Qv2:OpR X (compareOp .LtE) (rI0 λi j=>.bl (decide (i<=j))):=QxD λ_ _ _ _ _ _ _ q=>le_int q
theorem QyR:OpR X (compareOp .Gt) (rI0 λi j=>.bl (decide (j<i))):=QxD λ_ _ _ _ _ _ _ q=>gt_int q
theorem Qv8:OpR X (compareOp .GtE) (rI0 λi j=>.bl (decide (j<=i))):=QxD λ_ _ _ _ _ _ _ q=>ge_int q
theorem Qv3:OpR X (compareOp .Is) (λx y H Q=>y=.non/\Q (.bl (decide (x=.non))) H):=by
 intro pins s σ H x y v u Q I rx ry h;obtain⟨rfl,q⟩:=h;cases ry;refine is_none_gen (Zw I q ?_);cases x<;>first
  |(cases rx;rfl)
  |(obtain⟨t,rfl⟩:=rx;rfl)
def isObj:HO->Bool
 |.lst _=>true
 |.ins _ _ _=>true
 |_=>false
theorem obj_there{pins:List (Addr×Obj)}{s:Shared}{σ:St}{H:Hp}{a:Addr}{o:HO}(I:Inv X pins σ H s)(h:H a=some o)(p:isObj o=true):∃ob,s.heap.get? a=some ob/\ob.cls≠.type "tuple" := by
 cases o with
 |lst xs=>
  obtain⟨_,its,n,_,e⟩:xs.length<=sizeLine/\∃(its:List Value)(n:Nat),Vals xs its/\s.heap.get? a=some { cls:=.type "list",data:=.seq its.toArray n }:=I.hok a _ h
  exact⟨_,e,(by show Yv "list" ≠ .type "tuple";decide +kernel)⟩
 |ins C dx fs=>
  have x:=I.hok a _ h;obtain⟨_,_,_,e,_⟩:=x;exact⟨_,e,(by show JF C≠.type "tuple";exact λz=>by cases z)⟩
 |_=>exact absurd (show false=true from p) QC
theorem OpR.or{f:Value->Value->Sem Value}{r r':R2}(h:OpR X f r)(h':OpR X f r'):OpR X f (λx y H Q=>r x y H Q∨r' x y H Q):=by
 intro pins s σ H x y v u Q I rx ry q;rcases q with q | q
 ·exact h pins s σ H x y v u Q I rx ry q
 ·exact h' pins s σ H x y v u Q I rx ry q
theorem Zu(b:QP){op:Qj2}(h:op≠.In:=by decide)(h2:op≠.NotIn:=by decide):behindInMarks op b=false:=by
 have e1:(op == CmpOp.In)=false:=by cases op<;>first | rfl | exact absurd rfl h
 have e2:(op == Qx9)=false:=by cases op<;>first | rfl | exact absurd rfl h2
 cases b<;>simp[behindInMarks,e1,e2]
theorem Qeh{op:Qj2}{r:R2}(ho:OpR X (compareOp op) r)(ha:PE X a ta)(hb:PE X b tb)(hm:behindInMarks op b=false):PE X (.Compare a [op] [b] pos) (tOp r ta tb):=by
 intro pins s σ H Q I h;exact wpAny_Compare1 (Qzn ha hb I h λv u s2 x y H2 I2 rx ry q=>ho pins s2 σ H2 x y v u Q I2 rx ry q) hm
def Qyj(t:TE):TT:=λσ H Q=>t σ H λx H'=>∃k,x=.bl k/\Q k H'
theorem Qcn{op:Qj2}{r:R2}(ho:OpR X (compareOp op) r)(ha:PE X a ta)(hb:PE X b tb)(hm:behindInMarks op b=false):PT X (.Compare a [op] [b] pos) (Qyj (tOp r ta tb)):=by
 intro pins s σ H Q I h;refine QrZ (thn (ha pins s σ H _ I h) λv s1 ⟨x,H1,I1,r1,q1⟩=>thn (hb pins s1 σ H1 _ I1 q1) λu s2 ⟨y,H2,I2,r2,q2⟩=>
  thn (ho pins s2 σ H2 x y v u _ I2 r1 r2 q2) λc s3 ⟨z,H3,I3,r3,k,e,q3⟩=>?_) hm
 subst e;cases r3;exact Zs ⟨H3,I3,q3⟩
def Qrb(r r':R2)(ta tb tc:TE):TE:=λσ H Q=>ta σ H λx H1=>tb σ H1 λy H2=>r x y H2 λz H3=>∃k,z=.bl k /\
 (if k=true then tc σ H3 λw' H4=>r' y w' H4 Q else Q (.bl false) H3)
theorem QoB{op op':Qj2}{r r':R2}(ho:OpR X (compareOp op) r)(ho':OpR X (compareOp op') r')(ha:PE X a ta)(hb:PE X b tb)(hc:PE X c tc)
  (hm:lastMarks [op,op'] [b,c]=false:=by with_unfolding_all rfl):PE X (.Compare a [op,op'] [b,c] pos) (Qrb r r' ta tb tc):=by
 intro pins s σ H Q I h;refine Compare_chain (thn (ha pins s σ H _ I h) λv s1 ⟨x,H1,I1,r1,q1⟩=>chain_link (thn (hb pins s1 σ H1 _ I1 q1) λu s2 ⟨y,H2,I2,r2,q2⟩=>
  thn (ho pins s2 σ H2 x y v u _ I2 r1 r2 q2) λd s3 ⟨z,H3,I3,r3,k,e,q3⟩=>?_)) hm
 subst e;cases r3;refine Zs ?_
 cases k with
 |false=>exact ite_ff ⟨.bl false,H3,I3,rfl,q3⟩
 |true=>exact ite_tt (chain_last (thn (hc pins s3 σ H3 _ I3 q3) λw' s4 ⟨z',H4,I4,r4,q4⟩=>ho' pins s4 σ H4 y z' u w' Q I4 r2 r4 q4))
def Qzp(K:PySem.W.Frag)(x:V)(H:Hp)(k:Bool):Prop:=
 match x with
 |.non=>k=false
 |.bl b=>k=b
 |.int i=>k=(i != 0)
 |.str y=>y.length<=sizeLine/\k=((y.length:Int) != 0)
 |.byt y=>y.size<=sizeLine/\k=((y.size:Int) != 0)
 |.ref p=>(∃xs,SqL K H p xs/\k = !xs.isEmpty)∨(∃xs,SqT K H p xs/\k = !xs.isEmpty)∨∃kvs,H p=some (.dK kvs)/\k = !kvs.isEmpty
 |_=>False
theorem Qkz{κ:Type}{kvs:List (κ×V)}{vs:List (κ×Value)}(r:KV kvs vs):(!vs.isEmpty) = !kvs.isEmpty:=by
 cases r<;>rfl
theorem Qfo{xs:List V}{its:List Value}(r:Vals xs its):(!its.toArray.isEmpty) = !xs.isEmpty:=by
 cases r<;>simp
theorem Qfm:(sizeLine:Nat)<2^63:=by rw[sizeLine_eq];decide
theorem QuV:QAP X (λx H Q=>∃k,Qzp X.K x H k/\Q k H):=by
 intro pins s σ H x v Q I rx h;obtain⟨k,e,q⟩:=h;have hl:=Qfm;have hs:sizeLine=16777216:=sizeLine_eq;cases x with
 |non=>
  cases rx;have e':k=false:=e;subst e';exact truthy_none ⟨H,I,q⟩
 |bl b=>
  cases rx;have e':k=b:=e;subst e';exact Zs ⟨H,I,q⟩
 |int i=>
  obtain⟨t,rfl⟩:=rx;have e':k=(i != 0):=e;subst e';exact PySem.P.truthy_int ⟨H,I,q⟩
 |str y=>
  obtain⟨t,rfl⟩:=rx;obtain⟨hy,e'⟩:y.length<=sizeLine/\k=((y.length:Int) != 0):=e;subst e';exact PySem.P.truthy_str (by omega) ⟨H,I.tok _,q⟩
 |byt y=>
  obtain⟨t,rfl⟩:=rx;obtain⟨hy,e'⟩:y.size<=sizeLine/\k=((y.size:Int) != 0):=e;subst e';exact PySem.W.truthy_bytes (by omega) ⟨H,I.tok _,q⟩
 |ref p=>
  cases rx;have e':(∃xs,SqL X.K H p xs/\k = !xs.isEmpty)∨(∃xs,SqT X.K H p xs/\k = !xs.isEmpty)∨∃kvs,H p=some (.dK kvs)/\k = !kvs.isEmpty:=e
  rcases e' with⟨xs,hx,e'⟩ | ⟨xs,hx,e'⟩ | ⟨kvs,hx,e'⟩
  ·subst e';obtain⟨its,r,pl,hz⟩:=I.list hx;have hlen:=r.length;exact wpAny_truthy_list pl.isList (by simp only[Qr];omega) ⟨H,I.tok _,by rw[Qfo r];exact q⟩
  ·subst e';obtain⟨its,r,pl,hz⟩:=I.tuple hx;have hlen:=r.length;exact truthy_tuple pl (by simp only[Qr];omega) ⟨H,I.tok _,by rw[Qfo r];exact q⟩
  ·subst e';obtain⟨hz,hS,vs,r,m⟩:kvs.length<=sizeLine/\(p == sysModules)=false/\∃vs,KV kvs vs/\s.heap.DictOf (mixKind X.prog X.w) p vs:=I.hok p _ hx
   have hlen:kvs.length=vs.length:=QhE r;exact wpAny_truthy_dict hS m (by omega) ⟨H,I.tok _,by rw[Qkz r];exact q⟩
 |_=>exact(show False from e).elim
theorem Qos(ha:PE X a ta)(he:∀whole,isTrue a X.env whole=(do let v <- whole;standAt a.pos;holding [v] (truthy v))) :
  PT X a (λσ H Q=>ta σ H λx H'=>∃k,Qzp X.K x H' k/\Q k H'):=by
 intro pins s σ H Q I h;exact isTrue_plain (thn (ha pins s σ H _ I h) λv s1 ⟨x,H1,I1,r1,q1⟩=>QuV pins s1 σ H1 x v Q I1 r1 q1) (he _)
theorem vals1{x:V}{us:List Value}(r:Vals [x] us):∃u,us=[u]/\RelV x u:=by
 cases r with
 |cons r1 r2=>cases r2;exact⟨_,rfl,r1⟩
theorem vals2{x y:V}{us:List Value}(r:Vals [x,y] us):∃u w',us=[u,w']/\RelV x u/\RelV y w':=by
 cases r with
 |cons r1 r2=>
  cases r2 with
  |cons r3 r4=>cases r4;exact⟨_,_,rfl,r1,r3⟩
theorem Qnn(hc:X.calm=true):CallR X (.builtin "max") (λxs H Q=>∃i j,xs=[.int i,.int j]/\Q (.int (if j > i then j else i)) H):=by
 intro pins s σ H xs us Q I r h;obtain⟨i,j,rfl,q⟩:=h;obtain⟨u,w',rfl,⟨t,rfl⟩,⟨t',rfl⟩⟩:=vals2 r;refine max_two_ints (I.ok.hd hc) λh' tk k=>⟨_,H,I.kept k,?_,q⟩
 by_cases hj:j > i
 ·rw[if_pos hj,if_pos hj];exact⟨_,rfl⟩
 ·rw[if_neg hj,if_neg hj];exact⟨_,rfl⟩
theorem Qhn(hc:X.calm=true):CallR X (.builtin "min") (λxs H Q=>∃i j,xs=[.int i,.int j]/\Q (.int (if j<i then j else i)) H):=by
 intro pins s σ H xs us Q I r h;obtain⟨i,j,rfl,q⟩:=h;obtain⟨u,w',rfl,⟨t,rfl⟩,⟨t',rfl⟩⟩:=vals2 r;refine min_two_ints (I.ok.hd hc) λh' tk k=>⟨_,H,I.kept k,?_,q⟩
 by_cases hj:j<i
 ·rw[if_pos hj,if_pos hj];exact⟨_,rfl⟩
 ·rw[if_neg hj,if_neg hj];exact⟨_,rfl⟩
theorem Qhq:CallR X (.type "int") (λxs H Q=>(∃i,xs=[.int i]/\Q (.int i) H)∨∃k,xs=[.bl k]/\Q (.int (if k then 1 else 0)) H):=by
 intro pins s σ H xs us Q I r h;rcases h with⟨i,rfl,q⟩ | ⟨k,rfl,q⟩
 ·obtain⟨u,rfl,t,rfl⟩:=vals1 r;exact call_int_int ⟨.int i,H,I,⟨_,rfl⟩,q⟩
 ·obtain⟨u,rfl,r1⟩:=vals1 r;cases r1;exact call_int_bool ⟨.int (if k then 1 else 0),H,I.tok _,⟨_,rfl⟩,q⟩
end
structure ObjM (h:J5) (x dx C:Addr) (mA:Str->Option Value):Prop where
 obj:h.get? x=some (PySem.W.instObj C dx)
 ns:h.Ns1 dx mA
 ne:dx≠x
theorem Qmz{h:J5}{dx:Addr}{mA:Str->Option Value}(n:h.Ns1 dx mA):∃od,h.get? dx=some od/\∀name,PySem.W.lookIn name od=some (mA name):=by
 obtain⟨o,es,ep,ho,hd,hk,_,hm⟩:=n;refine⟨o,ho,λname=>?_⟩;have e:=hm name;unfold nsFind findBy at e;rw[<- Array.find?_toList] at e;unfold PySem.W.lookIn;rw[hd]
 dsimp only
 split
 ·rename_i y q
  rw[q] at e;exact congrArg some e
 ·rename_i q
  rw[q] at e;have a:es.toList.any (·.refKey)=false:=by
   rw[List.any_eq_false];intro y hy;obtain⟨z,t,hkey⟩:=hk y (QcE.mp hy);simp[DictEntry.refKey,hkey]
  have a':¬es.toList.any (·.refKey)=true:=by rw[a];exact QC
  rw[if_neg a'];exact congrArg some e
theorem ObjM.look{h:J5}{x dx C:Addr}{mA:Str->Option Value}(I:ObjM h x dx C mA):∃od,PySem.W.InstAt h x (PySem.W.instObj C dx) C (some od)/\∀name,PySem.W.lookIn name od=some (mA name):=
 let ⟨od,ho,hl⟩:=Qmz I.ns
 ⟨od,⟨I.obj,rfl,rfl,ho⟩,hl⟩
section
variable{prog:Qy}{w:Jg}{A:Q5}{E:Value->Shared->Prop}{s:Shared}{K:PySem.W.Frag}{x dx C f:Addr}{mA:Str->Option Value}{name:Str}{v:Value}
end
theorem RelO.some_of{v:V}{o:Option Value}(r:RelO (some v) o):∃u,o=some u/\RelV v u:=by
 cases o with
 |none=>exact(show False from r).elim
 |some u=>exact⟨u,rfl,r⟩
section
variable{P:Qy}{w:Jg}{H H':Hp}{h h':J5}{a C dx:Addr}{fs fs':List (Str×V)}
theorem QtZ(hok:HOk P w H h)(e:H a=some (.ins C dx fs)):∃mA,ObjM h a dx C mA/\(∀f,RelO (fs.lookup f) (mA f))/\PySem.Within mA (fs.map (·.1))/\fs.length<=1000/\H dx=some (.own a):=by
 obtain⟨d,z,ne,ob,mA,n,r,q⟩:=(show ObjOk P w H h a (.ins C dx fs) from hok a _ e);exact⟨mA,⟨ob,n,ne⟩,r,q,z,d⟩
end
structure Cls (K:PySem.W.Frag) (C:Addr):Prop where
 pg:PySem.W.plainGet K C Str.empty=true
 hd:PySem.W.hasDictIn K C=true
 po:PySem.W.plainOver K C=true
 sa:PySem.W.findIn K (.ref C) "__setattr__" = some (some (.builtin "object.__setattr__"))
theorem Cls.get{K:PySem.W.Frag}{C:Addr}(c:Cls K C)(f:Str):PySem.W.plainGet K C f=true:=c.pg
section
variable{X:Cx}{pins:List (Addr×Obj)}{σ:St}{H:Hp}{s:Shared}{a C dx:Addr}{fs:List (Str×V)}{f:Str}{v:V}{A:Q5}{E:Value->Shared->Prop}
end
section
variable{X:Cx}{o e value:QP}{f:Str}{pos pos' tpos:Pos}{ta tv:TE}
def rAdd:V->V->Hp->VK->Prop:=λx y H Q=>∃i j,x=.int i/\y=.int j/\Q (.int (i+j)) H
end
section
variable{X:Cx}{pins:List (Addr×Obj)}{σ:St}{H:Hp}{s:Shared}{A:Q5}{E:Value->Shared->Prop}{Q:Value->Shared->Prop}{c:Value}{b:Bool}
inductive TyOf (K:PySem.W.Frag) (H:Hp):V->Value->Prop where
 |non:TyOf K H .non (.type "NoneType")
 |bl (x:Bool):TyOf K H (.bl x) (.type "bool")
 |int (i:Int):TyOf K H (.int i) (.type "int")
 |str (x:Str):TyOf K H (.str x) (.type "str")
 |flt (x:UInt64):TyOf K H (.flt x) (.type "float")
 |lst {a:Addr} {xs:List V} (e:H a=some (.lst xs)):TyOf K H (.ref a) (.type "list")
 |frz {a:Addr} {o:Obj} {xs:List V} (e:H a=some (.frz o (.lst xs))):TyOf K H (.ref a) (.type "list")
 |tup {a:Addr} {xs:List V} (e:H a=some (.tup xs)):TyOf K H (.ref a) (.type "tuple")
 |dK {a:Addr} {kvs:List (Key×V)} (e:H a=some (.dK kvs)):TyOf K H (.ref a) (.type "dict")
 |dT {a:Addr} {kvs:List (List Key×V)} (e:H a=some (.dT kvs)):TyOf K H (.ref a) (.type "dict")
 |ins {a C dx:Addr} {fs:List (Str×V)} (e:H a=some (.ins C dx fs)) (cl:Cls K C) (ha:PySem.W.findIn K (.ref C) "__class__" = some (some (.builtin "object.__class__")))
   (hn:PySem.W.specialIn K (.builtin "object.__class__") "__get__" = some (some (.builtin "getset_descriptor.__get__"))) (htk:PySem.W.takesIn K (.builtin "object.__class__")=some true)
   (hm:PySem.W.mroIn K C (.type "object")=some true):TyOf K H (.ref a) (.ref C)
theorem QmI{x:V}{u t:Value}(I:Inv X pins σ H s)(rx:RelV x u)(ty:TyOf X.K H x t)(e:PySem.W.kitOne X.K t c=some b)(h:∀tk,Q (.bool b) { s with toks:=tk }) :
  wpAny (model X.prog X.w) A (call (.builtin "isinstance") [u,c]) Q E s:=by
 cases ty with
 |non=>cases(show u=Zd from rx);exact PySem.W.kia_one PySem.W.kitx_none I.kIn Z8 e (λz=>nomatch z) h
 |bl y=>cases(show u=Zz y from rx);exact PySem.W.kia_one PySem.W.kitx_bool I.kIn Z8 e (λz=>nomatch z) h
 |int i=>obtain⟨t,q⟩:=(show ∃t,u=Qbx i t from rx);cases q;exact PySem.W.kia_one PySem.W.kitx_int I.kIn Z8 e (λz=>nomatch z) h
 |str y=>obtain⟨t,q⟩:=(show ∃t,u=Qfw y t from rx);cases q;exact PySem.W.kia_one PySem.W.kitx_str I.kIn Z8 e (λz=>nomatch z) h
 |flt y=>obtain⟨t,q⟩:=(show ∃t,u=QxR y t from rx);cases q;exact PySem.W.kia_one PySem.W.kitx_float I.kIn Z8 e (λz=>nomatch z) h
 |@lst a xs ea=>
  cases(show u=JF a from rx);obtain⟨_,_,n,_,h1⟩:=(show ObjOk X.prog X.w H s.heap a (.lst xs) from I.hok a _ ea);exact PySem.W.kia_one PySem.W.kitx_list I.kIn ⟨_,h1,rfl⟩ e (λz=>nomatch z) h
 |@frz a ob xs ea=>
  cases(show u=JF a from rx);obtain⟨_,_,_,n,_,h1⟩:=(show ObjOk X.prog X.w H s.heap a (.frz ob (.lst xs)) from I.hok a _ ea);exact PySem.W.kia_one PySem.W.kitx_list I.kIn ⟨_,h1,rfl⟩ e (λz=>nomatch z) h
 |@tup a xs ea=>
  cases(show u=JF a from rx);obtain⟨_,_,_,p⟩:=(show ObjOk X.prog X.w H s.heap a (.tup xs) from I.hok a _ ea);obtain⟨o,h1,h2,_⟩:=p;exact PySem.W.kia_one PySem.W.kitx_tuple I.kIn ⟨o,h1,h2⟩ e (λz=>nomatch z) h
 |@dK a kvs ea=>
  cases(show u=JF a from rx);obtain⟨_,_,vs,_,p⟩:=(show ObjOk X.prog X.w H s.heap a (.dK kvs) from I.hok a _ ea);obtain⟨o,es,ep,h1,h2,_⟩:=p;exact PySem.W.kia_one PySem.W.kitx_dict I.kIn ⟨o,h1,h2.1⟩ e (λz=>nomatch z) h
 |@dT a kvs ea=>
  cases(show u=JF a from rx);obtain⟨_,_,xs,_,o,es,ep,h1,h2,_⟩:=(show ObjOk X.prog X.w H s.heap a (.dT kvs) from I.hok a _ ea);exact PySem.W.kia_one PySem.W.kitx_dict I.kIn ⟨o,h1,h2.1⟩ e (λz=>nomatch z) h
 |@ins a C dx fs ea cl ha hn htk hm=>
  cases(show u=JF a from rx);obtain⟨mA,O,_⟩:=QtZ I.hok ea;obtain⟨od,J,_⟩:=O.look;exact PySem.W.kia_one (PySem.W.kitx_own (cl.get _) cl.hd ha hn htk hm) I.kIn J e (λz=>nomatch z) h
end
structure Room (k:Nat) (A:Q5):Prop where
 hd:A.handled=none
 dp:A.depth+3*k+5<recursionLimit
 un:A.units+16*k+200<cLine
theorem Room.mono{j k:Nat}{A:Q5}(r:Room k A)(h:j<=k):Room j A:=⟨r.hd,by have:=r.dp;omega,by have:=r.un;omega⟩
theorem Room.deeper{k:Nat}{A:Q5}(r:Room (k+1) A)(env:Env):Room k (A.deeper env):=
 ⟨r.hd,by have:=r.dp;show A.depth+1+3*k+5<_;omega,by have:=r.un;show A.units+3+16*k+200<_;omega⟩
theorem Room.depth{k:Nat}{A:Q5}(r:Room k A):A.depth<recursionLimit:=by have:=r.dp;omega
theorem Room.units0{k:Nat}{A:Q5}(r:Room k A):A.units<cLine:=by have:=r.un;omega
def Qra:TA:=λ_ H Q=>Q [] H
def QdM(ta:TE)(tr:TA):TA:=λσ H Q=>ta σ H λx H1=>tr σ H1 λxs H2=>Q (x::xs) H2
section
variable{X:Cx}{e:QP}{es:List QP}{te:TE}{t:TA}{pos:Pos}
theorem JQ:PA X [] Qra:=λ_ _ _ _ H Q I h=>QnY ⟨[],H,I,.nil,h⟩
theorem JA(ha:PE X e te)(hr:PA X es t)(hs:starEach (e::es) X.env=(false,eval e X.env)::starEach es X.env:=by rfl):PA X (e::es) (QdM te t):=by
 intro pos pins s σ H Q I h;rw[hs];show wpAny _ _ (spliced ((false,eval e X.env)::backTo pos (starEach es X.env))) _ _ s;refine QnO (thn (ha pins s σ H _ I h) λu s1 ⟨x,H1,I1,r1,q1⟩=>?_);exact thn (hr pos pins s1 σ H1 _ I1 q1) λus s2 ⟨xs,H2,I2,r2,q2⟩=>⟨x::xs,H2,I2,.cons r1 r2,q2⟩
def QAi(t:TA):TE:=λσ H Q=>t σ H λxs H1=>xs.length<=sizeLine/\∀p,H1 p=none->Q (.ref p) (upd H1 p (.lst xs))
theorem Qrx(h:PA X es t):PE X (.List es pos) (QAi t):=by
 intro pins s σ H Q I hq;refine Qxk (thn (h pos pins s σ H _ I hq) λus s1 ⟨xs,H1,I1,r,z,q⟩=>⟨by rw[<- r.length];exact z,?_⟩);have hf:H1 s1.heap.objs.size=none:=I1.hok.fresh (Qi _);refine⟨.ref s1.heap.objs.size,upd H1 s1.heap.objs.size (.lst xs),I1.laid (t':=s1.toks) (λb u e=>Qc _ e) (Qi _) ?_,rfl,q _ hf⟩;exact⟨z,us,0,r,QB _ rfl⟩
end
abbrev Sp:=List V->Hp->VK->XK->Prop
abbrev CXT:=List Env->Hp->Shared->XK->Value->Shared->Prop
structure Env0 (P:Qy) (w:Jg) (K:PySem.W.Frag) (mg:Str->Option Value) (base:J5) (A:Q5) (outer:List Env) (s:Shared) (H:Hp):Prop where
 frames:A.frames=some outer
 mod:Mod K mg base
 bs:∀b o,base.get? b=some o->s.heap.get? b=some o/\H b=none
 bsz:base.objs.size<=s.heap.objs.size
 funs:s.heap.FunFrames base outer
 frf:∀b∈frs outer,H b=none
 hok:HOk P w H s.heap
 bare:QdL s.gens
def CE(outer:List Env)(P:Qy)(w:Jg)(H:Hp)(s:Shared)(Q:VK)(u:Value)(s':Shared):Prop:=
 ∃v H',s'.os=s.os/\QdL s'.gens/\Un (frs outer) [] H H' s.heap s'.heap/\HOk P w H' s'.heap/\RelV v u/\Q v H'
def CR(CX:CXT)(outer:List Env)(P:Qy)(w:Jg)(H:Hp)(s:Shared)(Q:VK)(E:XK)(r:Qr4)(s':Shared):Prop:=
 match r with
 |.ok (.ret u)=>CE outer P w H s Q u s'
 |.ok _=>False
 |.error e=>CX outer H s E e s'
structure FnOk (P:Qy) (w:Jg) (K:PySem.W.Frag) (mg:Str->Option Value) (base:J5) (CX:CXT) (k:Nat) (f:Addr) (fd:QN) (ps:List Str) (sp:Sp):Prop where
 len:∀vs H Q E,sp vs H Q E->vs.length=ps.length
 run:∀(A:Q5)(outer:List Env)(s:Shared)(H:Hp)(args:Args)(us:List Value)(vs:List V)(Q:VK)(E:XK),Room k A->Env0 P w K mg base A outer s H->QeL s fd args (ps.zip us)->Vals vs us->sp vs H Q E ->
  codeAny (model P w) A (.call (.ref f) args) (CR CX outer P w H s Q E) s
theorem FnOk.imp{P:Qy}{w:Jg}{K:PySem.W.Frag}{mg:Str->Option Value}{base:J5}{CX:CXT}{k:Nat}{f:Addr}{fd:QN}{ps:List Str}{sp sp':Sp}(F:FnOk P w K mg base CX k f fd ps sp)
  (h:∀vs H Q E,sp' vs H Q E->sp vs H Q E):FnOk P w K mg base CX k f fd ps sp':=
 ⟨λvs H Q E q=>F.len vs H Q E (h _ _ _ _ q),λA outer s H args us vs Q E hr he hb hv hs=>F.run A outer s H args us vs Q E hr he hb hv (h _ _ _ _ hs)⟩
section
variable{X:Cx}{pins:List (Addr×Obj)}{σ:St}{H:Hp}{s s':Shared}
theorem Inv.env0(I:Inv X pins σ H s):Env0 X.prog X.w X.K X.mg X.base X.A X.stack s H:=
 ⟨I.ok.frames,I.ok.mod,I.bs,Q2 I.ok.bsz I.sz,I.stack,I.stkFree,I.hok,I.bare⟩
theorem Inv.after{Q:VK}{u:Value}(I:Inv X pins σ H s)(h:CE X.stack X.prog X.w H s Q u s'):EP X pins σ Q u s':=by
 obtain⟨v,H',os,bare,un,hok,r,q⟩:=h;obtain⟨hh,g,d,t,os'⟩:=s';obtain rfl:os'=s.os:=os;exact⟨v,H',I.call (h':=hh) (g':=g) (d':=d) (t':=t) (ch:=[]) un hok bare (λb z=>absurd z (by simp)),r,q⟩
end
def Qn3(sp:Sp)(dvs:List V)(E:XK)(t:TA):TE:=λσ H Q=>t σ H λvs H1=>sp (vs++dvs) H1 Q E
def Binds(K:PySem.W.Frag)(fd:QN)(ps:List Str)(ds:List Value):Prop:=
 ∀(s:Shared)(us:List Value),K.In s.heap->(us++ds).length=ps.length->QeL s fd ⟨us,[]⟩ (ps.zip (us++ds))
theorem Binds.all{K:PySem.W.Frag}{fd:QN}{ps:List Str}(h:∀us:List Value,us.length=ps.length->bindArgs fd ⟨us,[]⟩=pure (ps.zip us)):Binds K fd ps []:=λs us _ hl=>by
 rw[JB] at hl ⊢;exact .of_eq (h us hl)
def Qbu(CX:CXT)(X:Cx)(E:XK):Prop:=∀(pins:List (Addr×Obj))(σ:St)(H:Hp)(s:Shared)(e:Value)(s':Shared),Inv X pins σ H s->CX X.stack H s E e s'->X.xe e s'
section
variable{X:Cx}{CX:CXT}{k:Nat}{f C:Addr}{fd:QN}{ps:List Str}{sp:Sp}{dvs:List V}{ds:List Value}{E:XK}{x m:Str}{p pos apos:Pos}{e o:QP}{es:List QP}{ta:TE}{t:TA}
theorem Qvg{pins:List (Addr×Obj)}{σ:St}{H:Hp}{s:Shared}{Q:VK}{us:List Value}{vs:List V}(F:FnOk X.prog X.w X.K X.mg X.base CX k f fd ps sp)(hr:Room k X.A)(hb:Binds X.K fd ps ds)(hd:Vals dvs ds)(hx:Qbu CX X E)
  (I:Inv X pins σ H s)(r:Vals vs us)(h:sp (vs++dvs) H Q E):wpAny (model X.prog X.w) X.A (call (.ref f) us) (EP X pins σ Q) X.xe s:=by
 have r2:Vals (vs++dvs) (us++ds):=r.append hd;have hl:(us++ds).length=ps.length:=by rw[<- r2.length];exact F.len _ _ _ _ h
 refine Qgs (QbZ (F.run X.A X.stack s H ⟨us,[]⟩ (us++ds) (vs++dvs) Q E hr I.env0 (hb s us I.kIn hl) r2 h) λr s' hq=>?_);cases r with
 |error e=>exact hx pins σ H s e s' I hq
 |ok fl=>
  cases fl with
  |ret u=>exact I.after hq
  |next=>exact JP hq
  |brk=>exact JP hq
  |cont=>exact JP hq
theorem Qdh(F:FnOk X.prog X.w X.K X.mg X.base CX k f fd ps sp)(hr:Room k X.A)(hg:Gl X x)(hm:X.mg x=some (.ref f))(hk:PySem.W.keepIn X.K (.ref f)=true)(hb:Binds X.K fd ps ds)(hd:Vals dvs ds)(hx:Qbu CX X E)
  (ha:PA X (e::es) t)(hdb:(x == ("__debug__" : Str))=false:=by decide)(he:starEach (e::es) X.env=(false,eval e X.env)::starEach es X.env:=by rfl)(hpl:(backTo pos (starEach es X.env)).any (·.1)=false:=by rfl) :
  PE X (.Call (.Name x p) (e::es) [] pos) (Qn3 sp dvs E t):=by
 intro pins s σ H Q I h;refine YA (Qdn I hg hm ?_ hdb);refine PySem.W.callWith_K (h₀:=X.base) I.ok.mod.kin hk (thn (ha pos pins s σ H _ I h) λus s1 ⟨vs,H1,I1,r,q⟩=>⟨I1.kIn,?_⟩) he hpl;exact Qvg F hr hb hd hx I1 r q
end
section
variable{X:Cx}{CX:CXT}{k:Nat}{f C:Addr}{fd:QN}{ps ks:List Str}{sp:Sp}{E:XK}{x m:Str}{p pos apos kpos:Pos}{e o:QP}{es:List QP}{kws:List QeK}{te ta:TE}{t tk:TA}{nm:Option Str}
variable{g:List Value->List Value->List Value}{gV:List V->List V->List V}
end
structure Jw (N P:List Str) (sc:Z5):Prop where
 kind:sc.kind=.function
 co:sc.isCoroutine=false
 gen:sc.isGenerator=false
 nd:N.Nodup
 pre:N.take P.length=P
 par:∀x∈P,sc.names.lookup x=some .local∨sc.names.lookup x=some .cell
 nofree:∀y∈sc.names,y.2≠.free
theorem Qht{kindOf:Str->Option QaU}{x:Str}:∀{binds:List (Str×Value)}{m:Str->Option Value},(∀v,(x,v)∉binds)->bindL kindOf binds m x=m x
 |[],_,_=>rfl
 |(n,v)::r,m,h=>by
  unfold bindL;rw[Qht λw hw=>h w (Jk _ hw)];split
  ·have:x≠n:=by rintro rfl;exact h v Ze
   simp[this]
  ·rfl
theorem Qhv{kindOf:Str->Option QaU}{x:Str}:∀{binds:List (Str×Value)}{m:Str->Option Value},(∀v,(x,v)∉binds)->bindC kindOf binds m x=m x
 |[],_,_=>rfl
 |(n,v)::r,m,h=>by
  unfold bindC;rw[Qhv λw hw=>h w (Jk _ hw)];split
  ·rfl
  ·have:x≠n:=by rintro rfl;exact h v Ze
   simp[this]
theorem Qhu{kindOf:Str->Option QaU}{x:Str}{v:Value}:∀{P:List Str}{vs:List Value}{i:Nat}{m:Str->Option Value},P.Nodup->P[i]? = some x->vs[i]? = some v->kindOf x=some .local ->
  bindL kindOf (P.zip vs) m x=some v
 |[],_,_,_,_,h,_,_=>by simp at h
 |_::_,[],_,_,_,_,h,_=>by simp at h
 |p::P,w::vs,0,m,nd,h1,h2,hk=>by
  simp at h1 h2;subst h1;subst h2;show bindL kindOf ((p,w)::P.zip vs) m p=_;unfold bindL;rw[Qht λv hv=>(Qcv.mp nd).1 (Qcu hv).1,if_pos hk];simp
 |p::P,w::vs,i+1,m,nd,h1,h2,hk=>by
  show bindL kindOf ((p,w)::P.zip vs) m x=_;unfold bindL;exact Qhu (i:=i) (Qcv.mp nd).2 (by simpa using h1) (by simpa using h2) hk
theorem Qhw{kindOf:Str->Option QaU}{x:Str}{v:Value}:∀{P:List Str}{vs:List Value}{i:Nat}{m:Str->Option Value},P.Nodup->P[i]? = some x->vs[i]? = some v->kindOf x≠some .local ->
  bindC kindOf (P.zip vs) m x=some v
 |[],_,_,_,_,h,_,_=>by simp at h
 |_::_,[],_,_,_,_,h,_=>by simp at h
 |p::P,w::vs,0,m,nd,h1,h2,hk=>by
  simp at h1 h2;subst h1;subst h2;show bindC kindOf ((p,w)::P.zip vs) m p=_;unfold bindC;rw[Qhv λv hv=>(Qcv.mp nd).1 (Qcu hv).1,if_neg hk];simp
 |p::P,w::vs,i+1,m,nd,h1,h2,hk=>by
  show bindC kindOf ((p,w)::P.zip vs) m x=_;unfold bindC;exact Qhw (i:=i) (Qcv.mp nd).2 (by simpa using h1) (by simpa using h2) hk
def start(N:List Str)(vs:List V):St:=vs.map some++Jc (N.length - vs.length) none
def cxOf(CX:CXT)(P:Qy)(w:Jg)(K:PySem.W.Frag)(mg:Str->Option Value)(base:J5)(N:List Str)(qual:Str)(scope:Z5)(f:Addr)(cd:Value)(A:Q5)(outer:List Env)(s:Shared)(H:Hp)(E:XK):Cx where
 prog:=P
 w:=w
 K:=K
 mg:=mg
 base:=base
 A:=A.deeper (envOfC qual scope s.heap.objs.size f cd)
 N:=N
 s₀:=s
 H₀:=H
 env:=envOfC qual scope s.heap.objs.size f cd
 outer:=outer
 stack:=envOfC qual scope s.heap.objs.size f cd::outer
 ex:=[]
 calm:=true
 fn:=λ_=>true
 pn:=[]
 xe:=λe s'=>wpAny (model P w) (A.deeper (envOfC qual scope s.heap.objs.size f cd)) (leaving (envOfC qual scope s.heap.objs.size f cd) e) (λ_ s''=>CX outer H s E e s'') (λe' s''=>CX outer H s E e' s'') s'
theorem QjO{sc:Z5}{n:Nat}{x:Str}(h:sc.names.lookup x=some .cell):∃c,(cellsFrom n sc.names []).lookup x=some c:=by
 have q:=PySem.W.cellsFrom_some sc.names n [] (.inl h);exact Qgx.mp q
theorem Qhe{CX:CXT}{P:Qy}{w:Jg}{K:PySem.W.Frag}{mg:Str->Option Value}{base:J5}{N ps:List Str}{qual:Str}{scope:Z5}{f:Addr}{cd:Value}{A:Q5}{outer:List Env}{s s1:Shared}{H:Hp}{E:XK}{us:List Value}{vs:List V}
  (S:Jw N ps scope)(hd:A.handled=none)(e0:Env0 P w K mg base A outer s H)(hl:vs.length=ps.length)(r:Vals vs us)
  (x:InCallC s s.heap.objs.size (bindL (envOfC qual scope s.heap.objs.size f cd).kindOf (ps.zip us) λ_=>none) (cellsFrom (s.heap.objs.size+1) scope.names []) (bindC (envOfC qual scope s.heap.objs.size f cd).kindOf (ps.zip us) λ_=>none) s1) :
  Inv (cxOf CX P w K mg base N qual scope f cd A outer s H E) [] (start N vs) H s1:=by
 have hpl:ps.length<=N.length:=by have:=congrArg List.length S.pre;rw[J8] at this;omega
 obtain⟨h1,tk,rfl,hk⟩:=x.done;have noA:∀b:Addr,b∉(cxOf CX P w K mg base N qual scope f cd A outer s H E).ex:=λb z=>absurd (show b∈([]:List Addr) from z) (by simp)
 refine⟨⟨e0.mod,S.kind,rfl,rfl,Qi _,λy z c h1 h2=>?_,λy hy=>?_,λy c _ h=>?_,λ_=>hd,Around.frames_deeper e0.frames,.inr ⟨rfl,rfl⟩,λb z=>absurd z (noA b),e0.bs,e0.bsz,λb _ _=>noA b,λb z=>absurd z (noA b),e0.funs,e0.frf⟩,
  rfl,e0.bare,Un.kept hk,⟨_,x.toInCall.ns,λi y v h1 h2 h3=>?_⟩,λy c h=>⟨_,x.cell y c h⟩,e0.hok.fresh (Qi _),λy c h=>?_,λp hp=>absurd (show p∈([]:List (Addr×Obj)) from hp) (by simp),e0.hok.kept hk,?_⟩
 ·exact name_of_addr x.apart (PySem.mem_of_lookup h1) (PySem.mem_of_lookup h2)
 ·have hy:scope.names.lookup y=some .cell∨scope.names.lookup y=some .free:=hy;rcases hy with hy | hy
  ·exact QjO hy
  ·exact absurd rfl (S.nofree _ (PySem.mem_of_lookup hy))
 ·exact Z1 (x.above y c (PySem.mem_of_lookup h))
 ·have hi:i<vs.length:=by
   unfold start at h2;by_cases hi:i<vs.length
   ·exact hi
   ·rw[J3 (by simpa using hi)] at h2;rw[Z2] at h2;split at h2<;>cases h2
  have ha:vs[i]? = some v:=by
   unfold start at h2;rw[ZM (by simpa using hi),QR] at h2;cases e:vs[i]? with
   |none=>rw[e] at h2;cases h2
   |some a=>rw[e] at h2;cases h2;rfl
  obtain⟨u,hu,rv⟩:=r.get ha;have hp:ps[i]? = some y:=by
   rw[<- S.pre,List.getElem?_take_of_lt (by omega)];exact h1
  have ndP:ps.Nodup:=by rw[<- S.pre];exact S.nd.sublist (Qp1 _ _)
  refine⟨u,rv,?_⟩;rcases S.par y (Q9 hp) with k | k
  ·exact .inl ⟨k,Qhu ndP hp hu k⟩
  ·obtain⟨c,e⟩:=QjO (n:=s.heap.objs.size+1) k;refine .inr ⟨.inl k,c,e,?_⟩;have q:=x.cell y c e;rw[Qhw ndP hp hu (by show scope.names.lookup y≠_;rw[k];decide)] at q;exact q
 ·exact e0.hok.fresh (Z1 (x.above y c (PySem.mem_of_lookup h)))
 ·unfold start;show _=N.length;rw[Qu,Qg,Qav];omega
theorem QwI{CX:CXT}{P:Qy}{w:Jg}{K:PySem.W.Frag}{mg:Str->Option Value}{base:J5}{k:Nat}{f:Addr}{name qual:Str}{params:Arguments}{body:List ZZ}{scope:Z5}{dV kV doc pm cdv ct oc:Value}{an od:Option Addr}
  {osl:Array (Option Value)} {N ps:List Str} {sp:Sp} (lk:K.lookup f=some ⟨oc,od,.func (PySem.W.fnOf name qual params body scope dV kV doc pm an cdv ct),osl⟩) (hcd:PySem.W.codeIn K cdv qual=true) (S:Jw N ps scope)
  (len:∀vs H Q E,sp vs H Q E->vs.length=ps.length)
  (hbody:∀(A:Q5)(outer:List Env)(s:Shared)(H:Hp)(vs:List V)(Q:VK)(E:XK),Room k (A.deeper (envOfC qual scope s.heap.objs.size f cdv))->sp vs H Q E ->
   ∃t,PSs (cxOf CX P w K mg base N qual scope f cdv A outer s H E) body t/\t { nx:=λ_ H'=>Q .non H',rt:=Q } (start N vs) H) :
  FnOk P w K mg base CX (k+1) f (PySem.W.fnOf name qual params body scope dV kV doc pm an cdv ct) ps sp:=by
 refine⟨len,λA outer s H args us vs Q E hr e0 hb r hsp=>?_⟩;have hl:=len _ _ _ _ hsp;have KX:K.In s.heap:=e0.mod.kin.keeps λb o e=>(e0.bs b o e).1
 have lim:s.heap.NoLimit:=e0.mod.nolimit.keeps λb o e=>(e0.bs b o e).1
 have hkind:∀y∈ps.zip us,scope.names.lookup y.1=some .local∨(scope.names.lookup y.1=some .cell/\((cellsFrom (s.heap.objs.size+1) scope.names []).lookup y.1).isSome=true):=λ⟨n,v⟩ hy=>by
  rcases S.par n (Qcu hy).1 with q | q
  ·exact .inl q
  ·exact .inr ⟨q,PySem.W.cellsFrom_some _ _ _ (.inl q)⟩
 refine Qr3 hr.depth (KX _ _ lk) rfl S.co S.gen rfl (PySem.W.codeRec_of KX hcd) (hb _ _ _ _ ?_);refine QkO S.kind hkind λenv he s1 x=>?_
 subst he;refine⟨lim.keeps x.toInCall.keep,codeAny_func ?_⟩;obtain⟨t,ht,hq⟩:=hbody A outer s H vs Q E (hr.deeper _) hsp;have I:Inv (cxOf CX P w K mg base N qual scope f cdv A outer s H E) [] (start N vs) H s1:=Qhe S hr.hd e0 hl r x;refine wpAny_mono (ht [] s1 (start N vs) H _ I hq) (λfl s' hs=>?_) λe s' hs=>hs
 have fin:∀{σ':St}{H':Hp}{v:V}{u:Value},Inv (cxOf CX P w K mg base N qual scope f cdv A outer s H E) [] σ' H' s'->RelV v u->Q v H'->CE outer P w H s Q u s':=
  λ{σ' H' v u} J rv q=>⟨v,H',J.os,J.bare,J.base,J.hok,rv,q⟩
 cases fl with
 |ret u=>
  obtain⟨v,σ',H',J,rv,q⟩:=hs;exact fin J rv q
 |next=>
  obtain⟨σ',H',J,q⟩:=hs;exact fin (v:=V.non) (u:=Zd) J rfl q
 |brk=>
  obtain⟨_,_,_,q⟩:=hs;exact JP q
 |cont=>
  obtain⟨_,_,_,q⟩:=hs;exact JP q
section
variable{X:Cx}{x:Str}{p pos:Pos}{e:QP}{es:List QP}{t:TA}{id T:String}{r:List V->Hp->VK->Prop}
def tCB(r:List V->Hp->VK->Prop)(t:TA):TE:=λσ H Q=>t σ H λvs H1=>r vs H1 Q
theorem Zh(hc:CallR X (.builtin id) r)(hg:Gl X x)(hm:X.mg x=none)(hv:bootBuiltins x=some (.builtin id))(ha:PA X (e::es) t)(hn:x ≠ "__name__" := by decide)(hdb:(x == ("__debug__" : Str))=false:=by decide)
  (he:starEach (e::es) X.env=(false,eval e X.env)::starEach es X.env:=by rfl)(hpl:(backTo pos (starEach es X.env)).any (·.1)=false:=by rfl):PE X (.Call (.Name x p) (e::es) [] pos) (tCB r t):=by
 intro pins s σ H Q I h;refine YA (Qch I hg hm hv ?_ hn hdb);exact PyProof.Rows.callWith_builtin1 (thn (ha pos pins s σ H _ I h) λus s1 ⟨vs,H1,I1,r1,q1⟩=>hc pins s1 σ H1 vs us Q I1 r1 q1) he hpl
theorem Qei(hc:CallR X (.type T) r)(hg:Gl X x)(hm:X.mg x=none)(hv:bootBuiltins x=some (.type T))(ha:PA X (e::es) t)(hn:x ≠ "__name__" := by decide)(hdb:(x == ("__debug__" : Str))=false:=by decide)
  (he:starEach (e::es) X.env=(false,eval e X.env)::starEach es X.env:=by rfl)(hpl:(backTo pos (starEach es X.env)).any (·.1)=false:=by rfl):PE X (.Call (.Name x p) (e::es) [] pos) (tCB r t):=by
 intro pins s σ H Q I h;refine YA (Qch I hg hm hv ?_ hn hdb);exact JE (thn (ha pos pins s σ H _ I h) λus s1 ⟨vs,H1,I1,r1,q1⟩=>hc pins s1 σ H1 vs us Q I1 r1 q1) he hpl
end
end L2
namespace HT
theorem Qok(A:Q5)(s:Shared)(a:Int)(t:Tok)(c:Int)(u:Tok)(prog:Qy)(w:Jg)(E:Value->Shared->Prop)(Q:Value->Shared->Prop)(h:Q (.bool (decide (a<c))) s) :
  wpAny (model prog w) A (richCompare .Lt (.int a t) (.int c u)) Q E s:=
 (PyProof.Rows.lt_int h:wpAny (model prog w) A (compareOp .Lt (.int a t) (.int c u)) Q E s)
section
open PySem.SeqAt
open PySem.AutoSeq1 (wpAny_loadPart')
open PySem.MeetsSeq PySem.MeetsSeq2 PySem.MeetsSeq3
end
section
variable{prog:Qy}{w:Jg}{A:Q5}{E:Value->Shared->Prop}{s:Shared}
theorem Qul{t b:Addr}{vs ws:List Value}{Q:Value->Shared->Prop}(ht:IsTup s.heap t vs.toArray)(hb:IsTup s.heap b ws.toArray)(hv:vs≠[])
  (h1:ws=[]->Q (.ref t) s)(h2:ws≠[]->Q (.ref s.heap.objs.size) { s with heap:=s.heap.push { cls:=.type "tuple",data:=.seq (vs++ws).toArray } })
  (hsz:vs.length+ws.length<=sizeLine):wpAny (model prog w) A (binaryOp .Add (.ref t) (.ref b)) Q E s:=by
 obtain⟨⟨cls,dd,data,sl⟩,ho,hc,n,hd⟩:=id ht;obtain⟨⟨cls2,dd2,data2,sl2⟩,ho2,hc2,n2,hd2⟩:=id hb;simp only at hc hd hc2 hd2;subst hc hd hc2 hd2;have e:vs.toArray++ws.toArray=(vs++ws).toArray:=by simp
 by_cases hw:ws=[]
 ·exact Qr2 ⟨_,ho,rfl⟩ ⟨_,ho2,rfl⟩ QhO QnR PySem.F.slot_tuple_add PySem.F.entry_tuple_add (PySem.F.args_tuple_add_2 _ _)
   (tuple_addW1 t b vs.toArray ws.toArray n n2 dd dd2 sl sl2 (by simpa using hv) (by simp[hw])) ⟨ho,ho2,h1 hw⟩
 ·refine Qr2 ⟨_,ho,rfl⟩ ⟨_,ho2,rfl⟩ QhO QnR PySem.F.slot_tuple_add PySem.F.entry_tuple_add (PySem.F.args_tuple_add_2 _ _)
   (tuple_addW2 t b vs.toArray ws.toArray n n2 dd dd2 sl sl2 (by simpa using hv) (by simpa using hw) (by rw[Qr,Qr];exact hsz)) ⟨ho,ho2,?_⟩
  rw[e];exact h2 hw
def sIx(n d:Nat):Option Int->Nat
 |none=>d
 |some v=>if v<0 then(v+(n:Int)).toNat else min v.toNat n
theorem QfP(n d:Nat):sIx n d none=d:=rfl
theorem Qlv(n d k:Nat):sIx n d (some (k:Int))=min k n:=by
 show(if(k:Int)<0 then((k:Int)+(n:Int)).toNat else min (k:Int).toNat n)=min k n;rw[if_neg (by omega),QK]
theorem Qvf(n d:Nat)(hd:d<=n)(o:Option Int):sIx n d o<=n:=by
 cases o with
 |none=>exact hd
 |some v=>
  show(if v<0 then(v+(n:Int)).toNat else min v.toNat n)<=n;by_cases hv:v<0
  ·rw[if_pos hv];omega
  ·rw[if_neg hv];exact Qfz _ _
theorem Qng(v:Int)(n d:Nat):(if v<0 then max (v+(n:Int)) 0 else min v (n:Int))=((sIx n d (some v):Nat):Int):=by
 show(if v<0 then max (v+(n:Int)) 0 else min v (n:Int))=(((if v<0 then(v+(n:Int)).toNat else min v.toNat n):Nat):Int);by_cases hv:v<0
 ·simp only[if_pos hv];omega
 ·simp only[if_neg hv];omega
theorem QkN(lo hi:Option Int)(n:Nat):QaC lo hi 1 (n:Int)=(((sIx n 0 lo:Nat):Int),((sIx n n hi:Nat):Int)):=by
 have h1:¬((1:Int)<0):=by omega
 unfold QaC;simp only[h1,if_false];refine Qxq ?_ ?_
 ·cases lo with
  |none=>rfl
  |some v=>exact Qng v n 0
 ·cases hi with
  |none=>rfl
  |some v=>exact Qng v n n
theorem Qki(i j:Nat):Yi (i:Int) (j:Int) 1=j - i:=by
 unfold Yi;have h1:(1:Int) > 0:=by omega
 simp only[h1,if_true,Int.ediv_one];split<;>omega
theorem QeX{v:Value}{o:Option Int}{Q:Option Int->Shared->Prop}(p:QhI v o)(h:Q o s):wpAny (model prog w) A (Qyc v) Q E s:=by
 cases p with
 |none=>exact slicePart_none h
 |int i t=>exact slicePart_int h
theorem Qbs{sl:Addr}{vl vu:Value}{lo hi:Option Int}{n:Nat}{Q:Int×Int×Nat->Shared->Prop}(hs:s.heap.IsSliceOf sl vl vu .none)(pl:QhI vl lo)(pu:QhI vu hi)
  (h:Q (((sIx n 0 lo:Nat):Int),1,sIx n n hi - sIx n 0 lo) s):wpAny (model prog w) A (Qdy (.ref sl) (pure (n:Int))) Q E s:=by
 obtain⟨os,hos,hcs,hds⟩:=id hs;unfold Qdy Qyd;refine wpAny_bind (wpAny_bind (J7 hos hds (x:=vl) rfl (wpAny_bind (J7 hos hds (x:=vu) rfl (wpAny_bind (J7 hos hds (x:=.none) rfl (Qe ?_)))))));refine wpAny_bind (slicePart_none ?_);show wpAny _ _ (if((1:Int) == 0)=true then _ else _) _ _ s;rw[if_neg (by decide)];refine wpAny_bind (QeX pl (wpAny_bind (QeX pu (wpAny_bind (Qe ?_)))));show wpAny _ _ (match QaC lo hi 1 (n:Int) with | (lo,hi)=>pure (lo,(1:Int),Yi lo hi 1)) _ _ s;rw[QkN lo hi n];show wpAny _ _ (pure (((sIx n 0 lo:Nat):Int),(1:Int),Yi ((sIx n 0 lo:Nat):Int) ((sIx n n hi:Nat):Int) 1)) _ _ s;rw[Qki];exact Qe h
theorem Qow(xs:Array Value)(i k:Nat):((QQ k).filterMap λ(m:Nat)=>xs[((i:Int)+(m:Int)*1).toNat]?).toArray=((xs.toList.drop i).take k).toArray:=by
 have e:(λ(m:Nat)=>xs[((i:Int)+(m:Int)*1).toNat]?)=λm=>xs[i+m]? := by
  funext m
  have:((i:Int)+(m:Int)*1).toNat=i+m:=by omega
  rw[this]
 rw[e];have:=pick_run xs i k;rw[Y9] at this;have e2:((λx=>xs[x]?)∘λx=>i+x)=λm=>xs[i+m]? := rfl
 rw[e2] at this;rw[this]
theorem Qdq{t sl:Addr}{items:Array Value}{vl vu:Value}{lo hi:Option Int}{Q:Value->Shared->Prop}(ht:IsTup s.heap t items)(hs:s.heap.IsSliceOf sl vl vu .none)(pl:QhI vl lo)(pu:QhI vu hi)
  (hw:¬(sIx items.size 0 lo=0/\sIx items.size items.size hi=items.size))
  (h:Q (.ref s.heap.objs.size) { s with heap:=s.heap.push { cls:=.type "tuple",data:=.seq ((items.toList.drop (sIx items.size 0 lo)).take (sIx items.size items.size hi - sIx items.size 0 lo)).toArray } })
  (hsz:items.size<=sizeLine):wpAny (model prog w) A (getItem (.ref t) (.ref sl)) Q E s:=by
 have htake:sizeOk (.seq ((items.toList.drop (sIx items.size 0 lo)).take (sIx items.size items.size hi - sIx items.size 0 lo)).toArray):=by
  show((items.toList.drop (sIx items.size 0 lo)).take (sIx items.size items.size hi - sIx items.size 0 lo)).toArray.size<=sizeLine;rw[Qr,J8,QaN,Qj];omega
 have hj:sIx items.size items.size hi<=items.size:=Qvf _ _ (Qi _) hi;obtain⟨os,hos,hcs,hds⟩:=id hs;have hTs:s.TypeIs (.ref sl) "slice" := ⟨os,hos,hcs⟩;unfold getItem
 try with_reducible refine Zg ?_
 first | refine wpAny_bind (Qe ?_) | skip
 refine wpAny_bind (QxG ht.typeIs (by decide) ?_);refine wpAny_bind (ZF (name:=Qbp "__getitem__") ht.typeIs JX
  (ZO JX ht.typeIs QuG ?_ (Qxm _ _)))
 show wpAny _ _ (Qdx (.ref t) >>= _) _ _ s;refine wpAny_bind (tupleItemsOf_ ht ?_);refine wpAny_bind (QhB hTs ?_);rw[if_pos (by decide)];refine wpAny_bind (Qbs hs pl pu ?_);have hno:¬((((sIx items.size 0 lo:Nat):Int) == 0&&(1:Int) == 1&&(sIx items.size items.size hi - sIx items.size 0 lo) == items.size)=true):=by
  intro q;rw[JG,JG] at q;have q1:((sIx items.size 0 lo:Nat):Int)=0:=eq_of_beq q.1.1;have q2:sIx items.size items.size hi - sIx items.size 0 lo=items.size:=eq_of_beq q.2;exact hw ⟨by omega,by omega⟩
 show wpAny _ _ (if(((sIx items.size 0 lo:Nat):Int) == 0&&(1:Int) == 1&&(sIx items.size items.size hi - sIx items.size 0 lo) == items.size)=true then _ else _) _ _ s;rw[if_neg hno,Qow]
 first
  |exact wpAny_bind (m:=Zi _) (JC (Qe ⟨_,rfl,Qe h⟩) htake)
  |exact wpAny_bind (m:=Zi _) (JC (wpAny_bind (Qe (Qe ⟨_,rfl,Qe h⟩))) htake)
  |exact wpAny_bind (wpAny_bind (m:=Zi _) (JC (Qe (Qe ⟨_,rfl,Qe h⟩)) htake))
  |exact wpAny_bind (wpAny_bind (m:=Zi _) (JC (Qe ⟨_,rfl,Qe h⟩) htake))
end
end HT
namespace L2
abbrev TO:=St->Hp->(Option Int->Hp->Prop)->Prop
def PO(X:Cx)(e:Option QP)(t:TO):Prop:=
 ∀(pins:List (Addr×Obj))(s:Shared)(σ:St)(H:Hp)(Q:Option Int->Hp->Prop),Inv X pins σ H s->t σ H Q ->
  wpAny (model X.prog X.w) X.A (evalPart e X.env) (λu s'=>∃o H',Inv X pins σ H' s'/\QhI u o/\Q o H') X.xe s
def Qsj:TO:=λ_ H Q=>Q none H
def Qyk(t:TE):TO:=λσ H Q=>t σ H λx H1=>∃i,x=.int i/\Q (some i) H1
theorem intsAre_of{ns:List Int}:∀{us:List Value},Vals (ns.map V.int) us->IntsAre us ns:=by
 induction ns with
 |nil=>intro us r;rw[QkT] at r;cases r;exact .nil
 |cons n ns ih=>
  intro us r;rw[JN] at r;cases r with
  |cons r1 r2=>
   obtain⟨t,e⟩:=r1;subst e;exact .cons n t (ih r2)
section
variable{X:Cx}{e:QP}{te:TE}{lo hi:Option QP}{tl th:TO}{pos p2:Pos}
theorem QsX:PO X none Qsj:=by
 intro pins s σ H Q I h;rw[evalPart_none];exact Qe ⟨none,H,I,.none,h⟩
theorem QsW(h:PE X e te):PO X (some e) (Qyk te):=by
 intro pins s σ H Q I hw;rw[evalPart_some];refine thn (h pins s σ H _ I hw) λu s1 ⟨x,H1,I1,r1,q1⟩=>?_
 obtain⟨i,rfl,q⟩:=q1;obtain⟨t,rfl⟩:=r1;exact⟨some i,H1,I1,.int i t,q⟩
def SlR(X:Cx)(r:V->Option Int->Option Int->Hp->VK->Prop):Prop:=
 ∀(pins:List (Addr×Obj))(s:Shared)(σ:St)(H:Hp)(x:V)(v vl vu:Value)(lo hi:Option Int)(sl:Addr)(Q:VK),Inv X pins σ H s->RelV x v->s.heap.IsSliceOf sl vl vu .none->QhI vl lo->QhI vu hi->r x lo hi H Q ->
  ∃T id,typeLookup (.type T) "__getitem__" = pure (some (.builtin id))/\s.TypeIs v T/\wpAny (model X.prog X.w) X.A (getItem v (.ref sl)) (EP X pins σ Q) X.xe s
def tSl(r:V->Option Int->Option Int->Hp->VK->Prop)(te:TE)(tl th:TO):TE:=λσ H Q=>te σ H λx H1=>tl σ H1 λl H2=>th σ H2 λu H3=>r x l u H3 Q
theorem Qoy{r:V->Option Int->Option Int->Hp->VK->Prop}(hr:SlR X r)(he:PE X e te)(hl:PO X lo tl)(hu:PO X hi th):PE X (.Subscript e (.Slice lo hi none p2) pos) (tSl r te tl th):=by
 intro pins s σ H Q I h;refine Subscript_ (thn (he pins s σ H _ I h) λv s1 ⟨x,H1,I1,r1,q1⟩=>?_);refine wpAny_Slice (thn (hl pins s1 σ H1 _ I1 q1) λvl s2 ⟨l,H2,I2,pl,q2⟩=>thn (hu pins s2 σ H2 _ I2 q2) λvu s3 ⟨u,H3,I3,pu,q3⟩=>?_);rw[evalPart_none];refine Qe ?_
 have I4:Inv X pins σ H3 { s3 with heap:=s3.heap.push { cls:=.type "slice",data:=.fields #[vl,vu,.none] } }:=I3.kept (t':=s3.toks) λb ob q=>Qc _ q
 obtain⟨T,id,hT,ht,hg⟩:=hr pins { s3 with heap:=s3.heap.push { cls:=.type "slice",data:=.fields #[vl,vu,.none] } } σ H3 x v vl vu l u s3.heap.objs.size Q I4 r1 (Qxx ..) pl pu q3;show wpAny (model X.prog X.w) X.A (subscriptTail e (.Slice lo hi none p2) v (.ref s3.heap.objs.size)) (EP X pins σ Q) X.xe { s3 with heap:=s3.heap.push { cls:=.type "slice",data:=.fields #[vl,vu,.none] } };exact tail_any (ops:=[.ref s3.heap.objs.size,v]) ht hT hg (by with_unfolding_all rfl)
def QjK(xs:List V)(lo hi:Option Int):List V:=(xs.drop (HT.sIx xs.length 0 lo)).take (HT.sIx xs.length xs.length hi - HT.sIx xs.length 0 lo)
theorem Qey(xs:List V)(lo hi:Option Int):(QjK xs lo hi).length<=xs.length:=by
 unfold QjK;rw[J8,QaN];omega
def QAn(K:PySem.W.Frag):V->Option Int->Option Int->Hp->VK->Prop:=λx lo hi H Q=>∃a xs,x=.ref a/\SqT K H a xs /\
 ¬(HT.sIx xs.length 0 lo=0/\HT.sIx xs.length xs.length hi=xs.length)/\∀p,H p=none->Q (.ref p) (upd H p (.tup (QjK xs lo hi)))
theorem Qu9:SlR X (QAn X.K):=by
 intro pins s σ H x v vl vu lo hi sl Q I rx hs pl pu h;obtain⟨a,xs,rfl,hx,hw,q⟩:=h;cases rx;obtain⟨its,r,ht,hz⟩:=I.tuple hx;have hlen:its.toArray.size=xs.length:=by rw[Qr];exact r.length.symm
 refine⟨"tuple",_,JX.lookup,ht.typeIs,?_⟩;refine HT.Qdq ht hs pl pu (by rw[hlen];exact hw) ?_ (by rw[hlen];exact hz)
 rw[hlen];refine⟨.ref s.heap.objs.size,_,I.laid (t':=s.toks) (o:=.tup (QjK xs lo hi)) (λb ob q=>Qc _ q) (Qi _) ?_,rfl,q _ (I.hok.fresh (Qi _))⟩;exact⟨Q2 (Qey xs lo hi) hz,_,(r.drop (HT.sIx xs.length 0 lo)).take (HT.sIx xs.length xs.length hi - HT.sIx xs.length 0 lo),Qsb _ _⟩
def Qyz(K:PySem.W.Frag):R2:=λx y H Q=>∃a b xs ys,x=.ref a/\y=.ref b/\SqT K H a xs/\SqT K H b ys/\xs≠[]/\xs.length+ys.length<=sizeLine /\
 (ys=[]->Q (.ref a) H)/\(ys≠[]->∀p,H p=none->Q (.ref p) (upd H p (.tup (xs++ys))))
theorem Vals.nil_iff{xs:List V}{us:List Value}(r:Vals xs us):us=[]↔xs=[]:=by
 cases r with
 |nil=>simp
 |cons _ _=>simp
theorem Qtt:OpR X (binaryOp .Add) (Qyz X.K):=by
 intro pins s σ H x y v u Q I rx ry h;obtain⟨a,b,xs,ys,rfl,rfl,ha,hb,hx,hz,q1,q2⟩:=h;cases rx;cases ry;obtain⟨its,r1,p1,_⟩:=I.tuple ha;obtain⟨its2,r2,p2,_⟩:=I.tuple hb;refine HT.Qul p1 p2 (λz=>hx (r1.nil_iff.mp z)) (λz=>⟨.ref a,H,I,rfl,q1 (r2.nil_iff.mp z)⟩) (λz=>?_) (by rw[<- r1.length,<- r2.length];exact hz);refine⟨.ref s.heap.objs.size,_,I.laid (t':=s.toks) (o:=.tup (xs++ys)) (λb ob q=>Qc _ q) (Qi _) ?_,rfl,q2 (λw=>z (r2.nil_iff.mpr w)) _ (I.hok.fresh (Qi _))⟩;exact⟨by rw[Qu];exact hz,_,r1.append r2,Qsb _ _⟩
end
def ixN(n:Nat)(i:Int):Option Nat:=if 0<=i then(if i<n then some i.toNat else none) else if -(n:Int)<=i then some (i+n).toNat else none
def atI{α:Type}(xs:List α)(i:Int):Option α:=(ixN xs.length i).bind λj=>xs[j]?
theorem QmG{n:Nat}{i:Int}{j:Nat}(h:ixN n i=some j):seqIndex? i n=some j/\j<n /\ -(n:Int)<=i/\i<n:=by
 unfold ixN at h;by_cases h0:0<=i
 ·rw[if_pos h0] at h;by_cases h1:i<n
  ·rw[if_pos h1] at h;have e:i.toNat=j:=Qv h;exact⟨by rw[QjS h0 h1,e],by omega,by omega,h1⟩
  ·rw[if_neg h1] at h;cases h
 ·rw[if_neg h0] at h;by_cases h1 : -(n:Int)<=i
  ·rw[if_pos h1] at h;have e:(i+n).toNat=j:=Qv h;exact⟨by rw[QhC (by omega) h1,e],by omega,h1,by omega⟩
  ·rw[if_neg h1] at h;cases h
theorem QiE{α:Type}{xs:List α}{i:Int}{v:α}(h:atI xs i=some v):∃j,seqIndex? i xs.length=some j/\xs[j]? = some v/\j<xs.length /\ -(xs.length:Int)<=i/\i<xs.length:=by
 unfold atI at h;cases e:ixN xs.length i with
 |none=>rw[e] at h;cases h
 |some j=>
  rw[e] at h;obtain⟨h1,h2,h3,h4⟩:=QmG e;exact⟨j,h1,h,h2,h3,h4⟩
theorem ZY{α:Type}{xs:List α}{j:Nat}{v:α}(h:xs[j]? = some v):atI xs (j:Int)=some v:=by
 have hj:j<xs.length:=(QY.mp h).1;have e:ixN xs.length (j:Int)=some j:=by
  unfold ixN;rw[if_pos (by omega),if_pos (by omega)];simp
 unfold atI;rw[e];exact h
theorem QjQ{α:Type}(xs:List α)(v:α):atI (xs++[v]) (-1)=some v:=by
 have hl:(xs++[v]).length=xs.length+1:=by simp
 have e:ixN (xs++[v]).length (-1)=some xs.length:=by
  unfold ixN;rw[hl,if_neg (by decide),if_pos (by omega)]
  congr 1
  omega
 unfold atI;rw[e];show(xs++[v])[xs.length]? = some v;simp
def QiF(b:QP):Prop:=∀o i,subscripted b false o i=operate [o,i] (getItem o i)
def IxR(X:Cx)(r:R2):Prop:=
 ∀(value slice:QP)(pins:List (Addr×Obj))(s:Shared)(σ:St)(H:Hp)(x y:V)(v u:Value)(Q:VK),Inv X pins σ H s->RelV x v->RelV y u->r x y H Q ->
  subscripted slice false v u=operate [v,u] (getItem v u)->wpAny (model X.prog X.w) X.A (subscriptTail value slice v u) (EP X pins σ Q) X.xe s
def MtR(X:Cx)(id:String)(r:V->List V->Hp->VK->Prop):Prop:=
 ∀(pins:List (Addr×Obj))(s:Shared)(σ:St)(H:Hp)(x:V)(xs:List V)(v:Value)(us:List Value)(Q:VK),Inv X pins σ H s->RelV x v->Vals xs us->r x xs H Q ->
  wpAny (model X.prog X.w) X.A (call (.builtin id) (v::us)) (EP X pins σ Q) X.xe s
section
variable{X:Cx}{a b:QP}{ta tb:TE}{pos:Pos}
theorem QlW{r:R2}(hr:IxR X r)(ha:PE X a ta)(hb:PE X b tb)(hs:QiF b):PE X (.Subscript a b pos) (tOp r ta tb):=by
 intro pins s σ H Q I h;exact Subscript_ (Qzn ha hb I h λv u s2 x y H2 I2 rx ry q=>hr a b pins s2 σ H2 x y v u Q I2 rx ry q (hs _ _))
def QxA(K:PySem.W.Frag):R2:=λx y H Q=>∃p xs i v,x=.ref p/\y=.int i/\SqL K H p xs/\atI xs i=some v/\Q v H
def QzF(K:PySem.W.Frag):R2:=λx y H Q=>∃p xs i v,x=.ref p/\y=.int i/\SqT K H p xs/\atI xs i=some v/\Q v H
theorem Qer:IxR X (QxA X.K):=by
 intro value slice pins s σ H x y v u Q I rx ry h hs;obtain⟨p,xs,i,z,rfl,rfl,hq,he,q⟩:=h;cases rx;obtain⟨t,rfl⟩:=ry;obtain⟨its,r,pl,hz⟩:=I.list hq;obtain⟨j,h1,h2,h3,h4,h5⟩:=QiE he;obtain⟨w,ew,rw'⟩:=r.get h2;have hl:=r.length;have hn:=Qfm;have fin:EP X pins σ Q w s:=⟨z,H,I,rw',q⟩;by_cases h0:0<=i
 ·have hj:i.toNat=j:=by
   rw[QjS h0 h5] at h1;exact Qv h1
  exact item_listR pl.isList h0 (by omega) (by rw[hj];simpa using ew) fin hs
 ·have hj:(i+(its.toArray.size:Int)).toNat=j:=by
   rw[QhC (by omega) h4] at h1;rw[Qr,<- hl];exact Qv h1
  exact QpX (x:=w) pl.isList.typeIs QxM.lookup
   (QpW (Q:=λr s'=>r=w/\EP X pins σ Q r s') pl.isList (by omega) (by rw[Qr]<;>omega) (by omega) (by rw[hj];simpa using ew) ⟨rfl,fin⟩) hs
theorem Qwy:IxR X (QzF X.K):=by
 intro value slice pins s σ H x y v u Q I rx ry h hs;obtain⟨p,xs,i,z,rfl,rfl,hq,he,q⟩:=h;cases rx;obtain⟨t,rfl⟩:=ry;obtain⟨its,r,pl,hz⟩:=I.tuple hq;obtain⟨j,h1,h2,h3,h4,h5⟩:=QiE he;obtain⟨w,ew,rw'⟩:=r.get h2;have hl:=r.length;have hn:=Qfm;have fin:EP X pins σ Q w s:=⟨z,H,I,rw',q⟩;exact QpX (x:=w) pl.typeIs slot_tuple_getitem.lookup
  (getItem_tuple (j:=j) (Q:=λr s'=>r=w/\EP X pins σ Q r s') pl (by omega) (by omega) (by rw[Qr,<- hl];exact h1) (by simpa using ew) ⟨rfl,fin⟩) hs
theorem Qks(its:List Value)(n j:Nat)(u:Value):Yc (·.setIfInBounds j u) { cls:=.type "list",data:=.seq its.toArray n }={ cls:=.type "list",data:=.seq (its.set j u).toArray n }:=by
 simp[Yc]
theorem Inv.lst{pins:List (Addr×Obj)}{σ:St}{H:Hp}{s:Shared}{p:Addr}{xs:List V}(I:Inv X pins σ H s)(h:H p=some (.lst xs)) :
  ∃(its:List Value)(n:Nat),Vals xs its/\s.heap.get? p=some { cls:=.type "list",data:=.seq its.toArray n }/\xs.length<=sizeLine:=by
 obtain⟨z,its,n,r,e⟩:=I.hok p _ h;exact⟨its,n,r,e,z⟩
theorem Inv.lstUpd{pins:List (Addr×Obj)}{σ:St}{H:Hp}{s:Shared}{p:Addr}{xs ys:List V}{its its':List Value}{n n':Nat}{f:Obj->Obj}(I:Inv X pins σ H s)(h:H p=some (.lst xs))
  (ho:s.heap.get? p=some { cls:=.type "list",data:=.seq its.toArray n })(hf:f { cls:=.type "list",data:=.seq its.toArray n }={ cls:=.type "list",data:=.seq its'.toArray n' })(r:Vals ys its')(hz:ys.length<=sizeLine)(t:Nat) :
  Inv X pins σ (upd H p (.lst ys)) { s with heap:=s.heap.update p f,toks:=t }:=by
 have e:(s.heap.update p f).get? p=some { cls:=.type "list",data:=.seq its'.toArray n' }:=by
  rw[QkV f ho (by rw[hf]<;>rfl),hf]
 refine I.write (x:=p) (e:=p) (by rw[h];trivial) (.inl rfl) (λb u hb q=>(Qj0 _ _ (QcZ hb)).trans q) ⟨_,e⟩ ?_
 exact⟨hz,its',n',r,e⟩
def Qvk:V->V->V->Hp->(Hp->Prop)->Prop:=λo i v H Q=>∃p xs k j,o=.ref p/\i=.int k/\H p=some (.lst xs)/\ixN xs.length k=some j/\Q (upd H p (.lst (xs.set j v)))
theorem QiX:Qzr X Qvk:=by
 intro pins s σ H o i v ov iv u Q I ro ri rv h;obtain⟨p,xs,k,j,rfl,rfl,hp,hj,q⟩:=h;cases ro;obtain⟨t,rfl⟩:=ri;obtain⟨its,n,r,ho,hz⟩:=I.lst hp;obtain⟨h1,h2,h3,h4⟩:=QmG hj;have hl:=r.length;have hn:=Qfm;have I':Inv X pins σ (upd H p (.lst (xs.set j v))) { s with heap:=s.heap.update p (Yc (·.setIfInBounds j u)) }:=
  I.lstUpd hp ho (Qks its n j u) (r.set rv j) (by rw[ZD];exact hz) s.toks
 by_cases h0:0<=k
 ·have hk:k.toNat=j:=by
   rw[QjS h0 h4] at h1;exact Qv h1
  exact PySem.W.ki_setAt ho h0 (by omega) (by rw[Qr,<- hl];exact h4) (by rw[hk];exact⟨_,I',q⟩)
 ·have hk:(k+(its.toArray.size:Int)).toNat=j:=by
   rw[QhC (by omega) h3] at h1;rw[Qr,<- hl];exact Qv h1
  exact PySem.W.ki_setBack ho (by omega) (by rw[Qr,<- hl];exact h3) (by omega) (by rw[hk];exact⟨_,I',q⟩)
theorem QgO(lo hi:Option Int)(n:Nat):(sliceBounds lo hi none n).1=((HT.sIx n 0 lo:Nat):Int)/\(sliceBounds lo hi none n).2.1=((HT.sIx n n hi:Nat):Int)/\(sliceBounds lo hi none n).2.2=1:=by
 refine⟨?_,?_,rfl⟩
 ·cases lo with
  |none=>simp[sliceBounds,HT.sIx]
  |some i=>
   simp only[sliceBounds,HT.sIx,QnW,show(1:Int) > 0 by decide,if_true];by_cases h:i<0
   ·simp only[h,if_true]<;>omega
   ·simp only[h,if_false]<;>omega
 ·cases hi with
  |none=>simp[sliceBounds,HT.sIx]
  |some i=>
   simp only[sliceBounds,HT.sIx,QnW,show(1:Int) > 0 by decide,if_true];by_cases h:i<0
   ·simp only[h,if_true]<;>omega
   ·simp only[h,if_false]<;>omega
theorem QfM(its:List Value)(lo hi:Option Int):slicePick its.toArray lo hi none=((its.drop (HT.sIx its.length 0 lo)).take (HT.sIx its.length its.length hi - HT.sIx its.length 0 lo)).toArray:=by
 obtain⟨h1,h2,h3⟩:=QgO lo hi its.toArray.size;unfold slicePick;rw[h1,h2,h3];simp only[sliceRange_one,pick_run,Qr]<;>rfl
def QAo(K:PySem.W.Frag):V->Option Int->Option Int->Hp->VK->Prop:=λx lo hi H Q=>∃a xs,x=.ref a/\SqL K H a xs/\∀p,H p=none->Q (.ref p) (upd H p (.lst (QjK xs lo hi)))
theorem Qso:SlR X (QAo X.K):=by
 intro pins s σ H x v vl vu lo hi sl Q I rx hs pl pu h;obtain⟨a,xs,rfl,hx,q⟩:=h;cases rx;obtain⟨its,r,ht,hz⟩:=I.list hx;have hlen:=r.length;refine⟨"list",_,QxM.lookup,ht.isList.typeIs,?_⟩;refine wpAny_getItem_list_slice ht.isList hs pl pu .none (by simp) ?_ (by rw[Qr]<;>omega)
 rw[QfM,<- hlen];refine⟨.ref s.heap.objs.size,_,I.laid (t':=s.toks) (o:=.lst (QjK xs lo hi)) (λb ob q=>Qc _ q) (Qi _) ?_,rfl,q _ (I.hok.fresh (Qi _))⟩;exact⟨Q2 (Qey xs lo hi) hz,_,0,(r.drop (HT.sIx xs.length 0 lo)).take (HT.sIx xs.length xs.length hi - HT.sIx xs.length 0 lo),QB _ rfl⟩
theorem Qae:CallR X (.builtin "len") (λxs H Q=>∃p ys,xs=[.ref p]/\(SqL X.K H p ys∨SqT X.K H p ys)/\Q (.int ys.length) H):=by
 intro pins s σ H xs us Q I r h;obtain⟨p,ys,rfl,hq,q⟩:=h;obtain⟨u,rfl,rx⟩:=vals1 r;cases rx;have hn:=Qfm;rcases hq with hq | hq
 ·obtain⟨its,r',pl,hz⟩:=I.list hq;have hlen:=r'.length;exact Calls.call_len_list pl.isList (by simp only[Qr]<;>omega) ⟨.int ys.length,H,I.tok _,⟨s.toks+1,by rw[Qr,hlen]⟩,q⟩
 ·obtain⟨its,r',pl,hz⟩:=I.tuple hq;have hlen:=r'.length;exact len_tuple pl (by simp only[Qr]<;>omega) ⟨.int ys.length,H,I.tok _,⟨s.toks+1,by rw[Qr,hlen]⟩,q⟩
theorem Qho:CallR X (.type "list") (λxs H Q=>∃p ys,xs=[.ref p]/\(SqL X.K H p ys∨SqT X.K H p ys)/\∀l,H l=none->Q (.ref l) (upd H l (.lst ys))):=by
 intro pins s σ H xs us Q I r h;obtain⟨p,ys,rfl,hq,q⟩:=h;obtain⟨u,rfl,rx⟩:=vals1 r;cases rx;have fin:∀(its:List Value),Vals ys its->ys.length<=sizeLine->∀(h':J5)(c':Nat),(∀b o',s.heap.get? b=some o'->h'.get? b=some o') ->
   h'.get? s.heap.objs.size=some { cls:=.type "list",dict:=none,data:=.seq its.toArray c',slots:=#[] }->EP X pins σ Q (.ref s.heap.objs.size) { s with heap:=h' }:=λits r' hz h' c' kp e=>
  ⟨.ref s.heap.objs.size,_,I.laid (t':=s.toks) kp (Qi _) (show ObjOk X.prog X.w _ h' _ (.lst ys) from⟨hz,its,c',r',e⟩),rfl,q _ (I.hok.fresh (Qi _))⟩
 rcases hq with hq | hq
 ·obtain⟨its,r',pl,hz⟩:=I.list hq;have hlen:=r'.length;obtain⟨o,ho,hc,n,hd⟩:=pl.isList;exact call_list_seq p (.inl rfl) ho hc hd (λh' c' kp e=>fin its r' hz h' c' kp e) (by simp only[Qr]<;>omega)
 ·obtain⟨its,r',pl,hz⟩:=I.tuple hq;have hlen:=r'.length;obtain⟨o,ho,hc,n,hd⟩:=pl;exact call_list_seq p (.inr rfl) ho hc hd (λh' c' kp e=>fin its r' hz h' c' kp e) (by simp only[Qr]<;>omega)
theorem Qgf:CallR X (.type "tuple") (λxs H Q=>∃p ys,xs=[.ref p]/\((SqL X.K H p ys/\∀l,H l=none->Q (.ref l) (upd H l (.tup ys)))∨(SqT X.K H p ys/\Q (.ref p) H))):=by
 intro pins s σ H xs us Q I r h;obtain⟨p,ys,rfl,h⟩:=h;obtain⟨u,rfl,rx⟩:=vals1 r;cases rx;rcases h with⟨hq,q⟩ | ⟨hq,q⟩
 ·obtain⟨its,r',pl,hz⟩:=I.list hq;have hlen:=r'.length;refine call_tuple_list pl.isList (λh' kp=>?_) (by simp only[Qr]<;>omega);have I1:Inv X pins σ H { s with heap:=h' }:=I.kept (t':=s.toks) kp;have I2:Inv X pins σ (upd H h'.objs.size (.tup ys)) { s with heap:=h'.push { cls:=.type "tuple",data:=.seq its.toArray } }:=
   I1.laid (t':=s.toks) (λb o e=>Qc _ e) (Qi _) (show ObjOk X.prog X.w _ _ _ (.tup ys) from⟨hz,its,r',Qsb _ _⟩)
  exact⟨.ref h'.objs.size,_,I2,rfl,q _ (I1.hok.fresh (Qi _))⟩
 ·obtain⟨its,r',pl,hz⟩:=I.tuple hq;exact call_tuple_same pl ⟨.ref p,H,I,rfl,q⟩
def tyV(K:PySem.W.Frag)(T:String)(x:V)(H:Hp):Prop:=match x with
 |.str _=>T = "str"
 |.int _=>T = "int"
 |.ref p=>(T = "list" /\ ∃xs,SqL K H p xs)∨(T = "tuple" /\ ∃o,K.lookup p=some o/\o.cls=.type "tuple" /\ o.dict=none) ∨
   (T = "dict" /\ ((∃kvs,H p=some (.dK kvs))∨∃kvs,H p=some (.dT kvs)))∨(T = "set" /\ ∃S n,H p=some (.set S n))
 |_=>False
theorem QuS{pins:List (Addr×Obj)}{σ:St}{H:Hp}{s:Shared}{T:String}{x:V}{v:Value}(I:Inv X pins σ H s)(r:RelV x v)(ty:tyV X.K T x H) :
  s.TypeIs v T/\∀a,v=.ref a->∃ob,s.heap.get? a=some ob/\ob.dict=none:=by
 cases x with
 |str z=>
  obtain⟨t,rfl⟩:=r;cases(show T = "str" from ty);exact⟨typeIs_str s z t,λ_ e=>nomatch e⟩
 |int i=>
  obtain⟨t,rfl⟩:=r;cases(show T = "int" from ty);exact⟨QxL s i t,λ_ e=>nomatch e⟩
 |ref p=>
  cases r;rcases ty with⟨rfl,xs,hq⟩ | ⟨rfl,o,hk,hc,hd⟩ | ⟨rfl,hk⟩ | ⟨rfl,S,n,hk⟩
  ·obtain⟨its,_,pl,_⟩:=I.list hq;refine⟨pl.isList.typeIs,λa e=>?_⟩;cases e;obtain⟨o,n,e,c,hd,_⟩:=pl;exact⟨o,e,hd⟩
  ·refine⟨⟨o,I.kIn p o hk,hc⟩,λa e=>?_⟩;cases e;exact⟨o,I.kIn _ o hk,hd⟩
  ·have z:∃o,s.heap.get? p=some o/\o.ExactDict:=by
    rcases hk with⟨kvs,hk⟩ | ⟨kvs,hk⟩
    ·obtain⟨_,_,_,_,o,_,_,e,ex,_⟩:=I.hok p _ hk;exact⟨o,e,ex⟩
    ·obtain⟨_,_,_,_,o,_,_,e,ex,_⟩:=I.hok p _ hk;exact⟨o,e,ex⟩
   obtain⟨o,e,ex⟩:=z;refine⟨⟨o,e,ex.1⟩,λa e2=>?_⟩;cases e2;exact⟨o,e,ex.2.1⟩
  ·obtain⟨o,_,_,_,e,ex,_⟩:=I.hok p _ hk;refine⟨⟨o,e,ex.1⟩,λa e2=>?_⟩;cases e2;exact⟨o,e,ex.2.1⟩
 |_=>exact JP ty
def tBM(K:PySem.W.Frag)(T:String)(r:V->List V->Hp->VK->Prop)(to:TE)(t:TA):TE:=λσ H Q=>to σ H λx H1=>tyV K T x H1/\t σ H1 λxs H2=>r x xs H2 Q
variable{o e:QP}{es:List QP}{to:TE}{t:TA}{name:Str}{apos cpos:Pos}{T id:String}{r:V->List V->Hp->VK->Prop}
theorem QlY(pa:PlainAttrs T)(slot:Slot T name id)(hty:typeOf (.builtin id)=pure (.type "method_descriptor"))(hm:MtR X id r)(ho:PE X o to)(ha:PA X (e::es) t)
  (hbase:attributeBase o name X.env (eval o X.env)=eval o X.env:=by rfl)
  (hfew:((backTo cpos (starEach (e::es) X.env)).all (λx => !x.1)&&(backToKw cpos (keywordEach [] X.env)).all (λx=>x.1.isSome)
   && decide ((e::es).length+([]:List QeK).length+(if([]:List QeK).isEmpty then 0 else 1)<30))=true:=by rfl)
  (hline:(apos.endLine == cpos.line)=true:=by rfl) (hs:starEach (e::es) X.env=(false,eval e X.env)::starEach es X.env:=by rfl) (hplain:(backTo cpos (starEach es X.env)).any (·.1)=false:=by rfl) :
  PE X (.Call (.Attribute o name apos) (e::es) [] cpos) (tBM X.K T r to t):=by
 intro pins s σ H Q I h;refine wpAny_Call_method_late hbase hfew hline rfl (thn (ho pins s σ H _ I h) λv s1 ⟨x,H1,I1,r1,ty,q1⟩=>?_);obtain⟨h1,h2⟩:=QuS I1 r1 ty;refine⟨T,id,pa,slot,hty,h1,h2,?_⟩;have hA:=ha cpos pins s1 σ H1 _ I1 q1;rw[hs] at hA ⊢;refine Calls.callWith_builtin (by show(false||(backTo cpos (starEach es X.env)).any (·.1))=false;rw[hplain]<;>rfl) (QkW ?_);exact thn hA λus s2 ⟨vs,H2,I2,r2,q2⟩=>hm pins s2 σ H2 x vs v us Q I2 r1 r2 q2
end
def MtM(X:Cx)(id:String)(r:V->List V->Hp->VK->Prop):Prop:=
 ∀(pins:List (Addr×Obj))(s:Shared)(σ:St)(H:Hp)(x:V)(xs:List V)(v:Value)(us:List Value)(Q:VK),Inv X pins σ H s->RelV x v->Vals xs us->r x xs H Q ->
  wpAny (model X.prog X.w) X.A (call (.builtin id) (v::us)) (EP X pins σ Q) X.xe s
theorem Vals.one:∀{x:V}{us:List Value},Vals [x] us->∃u,us=[u]/\RelV x u
 |_,_,.cons r .nil=>⟨_,rfl,r⟩
theorem Vals.zero:∀{us:List Value},Vals [] us->us=[]
 |_,.nil=>rfl
theorem Vals.reverse{xs:List V}{us:List Value}(h:Vals xs us):Vals xs.reverse us.reverse:=by
 induction h with
 |nil=>exact .nil
 |cons r t ih=>rw[Qp2,Qp2];exact Vals.append ih (.cons r .nil)
theorem Vals.rep{xs:List V}{us:List Value}(h:Vals xs us):∀k:Nat,Vals (Jc k xs).flatten (Jc k us).flatten
 |0=>.nil
 |k+1=>by
  rw[Zk,Zk,ZQ,ZQ];exact Vals.append h (Vals.rep h k)
theorem foldl_rep(its:List Value):∀(k:Nat)(acc:List Value),
  Qp3 (λx1 x2=>x1++x2) acc.toArray (Jc k its.toArray)=(acc++(Jc k its).flatten).toArray
 |0,acc=>by simp
 |k+1,acc=>by
  have e:acc.toArray++its.toArray=(acc++its).toArray:=by simp
  have e2:(acc++its)++(Jc k its).flatten=acc++(Jc (k+1) its).flatten:=by
   rw[Zk,ZQ,Q0]
  rw[<- e2,<- foldl_rep its k (acc++its),<- e,Zk,Qgo]
section
variable{X:Cx}{pins:List (Addr×Obj)}{σ:St}{H:Hp}{s:Shared}{l b:Addr}{xs ys zs:List V}
theorem Inv.lset{its its':List Value}{n:Nat}{f:Array Value->Array Value}{t':Nat}(I:Inv X pins σ H s)(hH:H l=some (.lst xs))
  (e:s.heap.get? l=some { cls:=.type "list",data:=.seq its.toArray n })(hf:f its.toArray=its'.toArray)(hv:Vals ys its')(hz:ys.length<=sizeLine) :
  Inv X pins σ (upd H l (.lst ys)) { s with heap:=s.heap.update l (Yc f),toks:=t' }:=by
 have q:=PySem.IsL.update e f;rw[hf] at q;refine I.write (x:=l) (e:=l) (by rw[hH];exact trivial) (.inl rfl) (λb' u hb hu=>(Qj0 s.heap (Yc f) (QcZ hb)).trans hu) ⟨_,q⟩ ?_
 exact⟨hz,its',_,hv,q⟩
theorem Inv.lnew{its:List Value}{t':Nat}(I:Inv X pins σ H s)(hv:Vals ys its)(hz:ys.length<=sizeLine) :
  Inv X pins σ (upd H s.heap.objs.size (.lst ys)) { s with heap:=s.heap.push { cls:=.type "list",data:=.seq its.toArray },toks:=t' }:=
 I.laid (λ_ _ q=>Qc _ q) (Qi _) ⟨hz,its,0,hv,QB _ rfl⟩
theorem Inv.fresh(I:Inv X pins σ H s):H s.heap.objs.size=none:=I.hok.fresh (Qi _)
theorem Inv.lstM(I:Inv X pins σ H s)(hH:H l=some (.lst xs)):xs.length<=sizeLine/\∃(its:List Value)(n:Nat),Vals xs its/\xs.length=its.length/\s.heap.get? l=some { cls:=.type "list",data:=.seq its.toArray n }:=by
 obtain⟨z,its,n,r,e⟩:=I.hok l _ hH;exact⟨z,its,n,r,r.length,e⟩
theorem Qjl{n:Nat}(h:n<=sizeLine):Yx n=false:=by
 unfold Yx;exact decide_eq_false (by omega)
end
section
variable{X:Cx}
def QlE:V->List V->Hp->VK->Prop:=λx vs H Q=>∃l xs y,x=.ref l/\vs=[y]/\H l=some (.lst xs)/\xs.length<sizeLine/\Q .non (upd H l (.lst (xs++[y])))
theorem Qg9:MtM X "list.append" QlE:=by
 intro pins s σ H x vs v us Q I rx rv h;obtain⟨l,xs,y,rfl,rfl,hH,hz,q⟩:=h;cases rx;obtain⟨u,rfl,ru⟩:=rv.one;obtain⟨z,its,n,r,hl,e⟩:=I.lstM hH;refine Qbo F.slot_list_append ⟨_,e,rfl⟩ F.entry_list_append (F.args_list_append_2 _ _) (PySem.list_append l its.toArray n u (by rw[Qr];omega)) ⟨e,?_⟩;refine⟨.non,_,I.lset (its':=its++[u]) hH e (by simp) (r.append (.cons ru .nil)) ?_,rfl,q⟩;rw[Qu,Qcx];omega
def QlD:V->List V->Hp->VK->Prop:=λx vs H Q=>∃l b xs zs,x=.ref l/\vs=[.ref b]/\H l=some (.lst xs)/\H b=some (.lst zs)/\xs.length+zs.length<=sizeLine/\Q .non (upd H l (.lst (xs++zs)))
theorem Qmw:MtM X "list.extend" QlD:=by
 intro pins s σ H x vs v us Q I rx rv h;obtain⟨l,b,xs,zs,rfl,rfl,hH,hB,hz,q⟩:=h;cases rx;obtain⟨u,rfl,ru⟩:=rv.one;cases ru;obtain⟨z,its,n,r,hl,e⟩:=I.lstM hH;obtain⟨z2,its2,n2,r2,hl2,e2⟩:=I.lstM hB;have hsz:its.toArray.size+its2.toArray.size<=sizeLine:=by rw[Qr,Qr];omega
 have hlong:¬(!its.toArray.isEmpty&&Yx (its.toArray.size+its2.toArray.size))=true:=by
  rw[Qjl hsz,Bool.and_false];exact QC
 refine Qbo F.slot_list_extend ⟨_,e,rfl⟩ F.entry_list_extend (F.args_list_extend_2 _ _)
  (AutoSeq1.list_extend_list_list_0 l its.toArray n b its2.toArray n2 hlong (by rw[Qr];omega) (by omega)) ⟨e,e2,?_⟩
 refine⟨.non,_,I.lset (its':=its++its2) hH e (by simp) (r.append r2) ?_,rfl,q⟩;rw[Qu];omega
def QzM:R2:=λx y H Q=>∃l b xs zs,x=.ref l/\y=.ref b/\H l=some (.lst xs)/\H b=some (.lst zs)/\xs.length+zs.length<=sizeLine/\∀p,H p=none->Q (.ref p) (upd H p (.lst (xs++zs)))
theorem Qry:OpR X (binaryOp .Add) QzM:=by
 intro pins s σ H x y v u Q I rx ry h;obtain⟨l,b,xs,zs,rfl,rfl,hH,hB,hz,q⟩:=h;cases rx;cases ry;obtain⟨z,its,n,r,hl,e⟩:=I.lstM hH;obtain⟨z2,its2,n2,r2,hl2,e2⟩:=I.lstM hB;refine PySem.P.add_list e e2 ?_ (by rw[Qr,Qr];omega)
 have ea:its.toArray++its2.toArray=(its++its2).toArray:=by simp
 rw[ea];exact⟨.ref _,_,I.lnew (t':=s.toks) (r.append r2) (by rw[Qu];omega),rfl,q _ I.fresh⟩
def QzB:R2:=λx y H Q=>∃l k xs,x=.ref l/\y=.int k/\H l=some (.lst xs) /\ -(2^63)<=k/\k<2^63/\xs.length*k.toNat<=sizeLine /\
 ∀p,H p=none->Q (.ref p) (upd H p (.lst (Jc k.toNat xs).flatten))
theorem QtO{α:Type}(xs:List α)(k:Nat):(Jc k xs).flatten.length=k*xs.length:=by
 induction k with
 |zero=>simp
 |succ k ih=>rw[Zk,ZQ,Qu,ih,Qk3,Nat.add_comm]
theorem QvY:OpR X (binaryOp .Mult) QzB:=by
 intro pins s σ H x y v u Q I rx ry h;obtain⟨l,k,xs,rfl,rfl,hH,h1,h2,hz,q⟩:=h;cases rx;obtain⟨t,rfl⟩:=ry;obtain⟨z,its,n,r,hl,e⟩:=I.lstM hH;have hlen:its.toArray.size*k.toNat<=sizeLine:=by rw[Qr,<- hl];exact hz
 have hcap:¬its.toArray.size*k.toNat > (2^63 - 1) / 8:=by
  have:(sizeLine:Nat)<=(2^63 - 1) / 8:=by decide
  omega
 have hfit:¬(!Builtin.List.listFitsIndex k)=true:=by
  rw[fitsIndex_both h1 h2];exact QC
 have hlong:¬Yx (its.toArray.size*k.toNat)=true:=by
  rw[Qjl hlen];exact QC
 have hnew:Qp3 (λx1 x2=>x1++x2) #[] (Jc (if its.toArray.isEmpty=true then 0 else k.toNat) its.toArray)=(Jc k.toNat its).flatten.toArray:=by
  have f0:∀m:Nat,Qp3 (λx1 x2=>x1++x2) #[] (Jc m its.toArray)=(Jc m its).flatten.toArray:=λm=>by
   have:=foldl_rep its m [];rw[Qcw] at this;exact this
  rw[f0];cases its with
  |nil=>simp
  |cons a r'=>rw[if_neg (by simp)]
 refine wpAny_binaryOp_repeat_ref (T := "list") (U := "int") (by decide) ⟨_,e,rfl⟩ (λs'=>QxL s' k t) noFill_list_mul F.fills_int_mul Qx8 repeat_list F.slot_int_index.lookup
  (Qbo Qx8 (QxL s k t) F.entry_int_rmul (F.args_int_rmul_2 _ _) (int___rmul___int_list k t l its.toArray n)
   ⟨e,rfl,⟨_,e,rfl⟩,Qbo F.slot_list_mul ⟨_,e,rfl⟩ F.entry_list_mul (F.args_list_mul_2 _ _) (AutoListH.list___mul___list_int_3 l its.toArray n k t hfit hcap hlong) ⟨e,?_⟩⟩)
 rw[hnew];exact⟨.ref _,_,I.lnew (t':=s.toks) (r.rep k.toNat) (by rw[QtO,Nat.mul_comm];exact hz),rfl,q _ I.fresh⟩
end
section
variable{prog:Qy}{w:Jg}{A:Q5}{E:Value->Shared->Prop}{s:Shared}
end
section
variable{X:Cx}
end
end L2
namespace Att
open PySem.W PySem.Calls
theorem Qes{P:Params}{h:J5}:∀(ns:List Int)(vs:List Value),WellAll P h vs (ns.map WData.int)->IntsAre vs ns:=by
 intro ns;induction ns with
 |nil=>
  intro vs w;rw[QkT] at w;cases w;exact .nil
 |cons n ns ih=>
  intro vs w;rw[JN] at w;cases w with
  |cons a b=>
   cases a;exact .cons _ _ (ih _ b)
theorem Qln{l:OpenLaw}{n:Nat}(hn:l.most=some n){P:Params}{h:J5}{args:List WData}{vals:List Value}
  (hpre:l.row.toRowW.claim.pre args=true)(hwl:WellAll P h vals args) :
  ∃a vs ns,vals=[JF a]/\args=[WData.list (ns.map WData.int)]/\h.get? a=some { cls:=.type "list",data:=.seq vs.toArray }/\IntsAre vs ns/\ns.length<=n:=by
 have hsh:WShape.hasAll [] args [.list .int]=true:=(pre_splitW hpre).1;have hc:l.pre.holds [] { args:=args }=true:=(pre_splitW hpre).2;obtain⟨d,r,rfl,h1,h2⟩:=hasAllW_cons hsh;obtain rfl:=hasAllW_nil h2;obtain⟨xs,rfl,h3⟩:=hasW_list h1;obtain⟨ns,rfl⟩:=items_int h3;have hlen:ns.length<=n:=by
  unfold OpenLaw.pre at hc;have h4:(WTm.not (.lt (.lit (.int (n:Int))) (.len (.arg 0)))).holds [] { args:=[.list (ns.map .int)] }=true:=by
   have h4:=(holds_andW hc).1;rw[hn] at h4;exact h4
  have h5:=condW_of h4 (w_not (w_lt w_lit (w_len_list (w_arg rfl))));rw[Qg] at h5;refine Nat.le_of_not_lt λq=>?_
  have q':(n:Int)<((ns.length:Nat):Int):=by omega
  first
   |(rw[decide_eq_true q'] at h5;exact absurd h5 (by decide))
   |(simp at h5;omega)
 cases hwl with
 |cons w1 w2=>
  cases w2;cases w1 with
  |list ho hall=>exact⟨_,_,ns,rfl,rfl,ho,Qes ns _ hall,hlen⟩
theorem QlO(l:OpenLaw)(args:List WData):l.row.toRowW.claim.post args (.bool true) args=true:=
 postW_of (r:=l.row.toRowW) (X:=(true == true))
  (show QxP [] (.bool true) .bool=true by first | rfl | decide | simp[QxP,WShape.arms,WShape.armsAll])
  (show(WTm.eq .res (.lit (.bool true))).value [] { args:=args,res:=some (.bool true),after:=args }=some (.bool (true == true)) from w_eq_bool (w_res rfl) w_lit) rfl
theorem QiD{l:OpenLaw}{n:Nat}{q:Qy}{loose:List Str}{XP:(Str->Option Value)->J5->Prop}{YP:Jg->J5->Prop}{d:DefRec}
  (hn:l.most=some n)(hdf:d.params.defaults=[])
  (call:∀(w:Jg)(s₀ s₁:Shared)(mg mb:Str->Option Value)(fa:Addr)(o:Obj)(pm cd doc:Value)(a:Addr)(vs:List Value)(ns:List Int),
   Ground q loose [] XP w s₀ mg mb s₁.heap->YP w s₁.heap ->
   s₁.heap.get? fa=some o->o.data=.func (docDef d.name d.params d.body d.scope pm cd doc)->s₁.heap.CodeRec cd d.name->mg d.name=some (.ref fa) ->
   s₁.heap.get? a=some { cls:=.type "list",data:=.seq vs.toArray }->IntsAre vs ns->ns.length<=n->s₁.gens=#[] ->
   codeAny (model l.prog w) callerA (.call (.ref fa) ⟨[.ref a],[]⟩) (λr s'=>r=.ok (.ret (.bool true))/\OldK s₁.heap s'.heap/\s'.os=s₁.os/\QdL s'.gens) s₁) :
  WalkO q loose XP YP l.row.toRowW d [] (λf vs=>PySem.call f vs):=by
 intro w s₀ s₁ mg mb G Y fa o pm cd doc dV kV ho hd hcd hD hmg hg args vals as hpre hlay hrd hwl hlo;obtain rfl:dV=.none:=Dflts.none hD hdf;obtain rfl:kV=.none:=Dflts.noKw hD;obtain⟨a,vs,ns,rfl,rfl,hobj,hints,hlen⟩:=Qln hn hpre hwl;refine enter_call (QbZ (call w s₀ s₁ mg mb fa o pm cd doc a vs ns G Y ho (fd_plain hd) hcd hmg hobj hints hlen hg) λr s' hq=>?_);obtain⟨rfl,h2,h3,h4⟩:=hq;exact⟨.inl ⟨.bool true,.bool true,[],rfl,λ_=>rfl,.bool true,QlO l _,λ_=>⟨Qx4,λ_ hm=>(nomatch hm)⟩⟩,h2,h3,h4⟩
section
variable{prog:Qy}{w:Jg}{A:Q5}{E:Value->Shared->Prop}{s:Shared}{K:Frag}
end
end Att
namespace L2
theorem QgD:∀{vs:List Value}{ns:List Int},IntsAre vs ns->Vals (ns.map V.int) vs
 |_,_,.nil=>.nil
 |_,_,.cons n t h=>.cons ⟨t,rfl⟩ (QgD h)
def Qzt(H:Hp):Prop:=∀b,H b=none∨∃o xs,H b=some (.frz o (.lst xs))
theorem Qpp{P:Qy}{w:Jg}{K:PySem.W.Frag}{mg mb:Str->Option Value}{CX:CXT}{k:Nat}{fa a:Addr}{fd:QN}{x:Str}{sp:Sp}{s₁:Shared}{vs:List Value}{ns:List Int}
  (KX:K.In s₁.heap)(hns:s₁.heap.Ns mainGlobals mg)(hb:s₁.heap.Ns builtinsNs mb)(hbb:∀x:Str,x ≠ "__name__" -> mb x=bootBuiltins x)(hlim:s₁.heap.NoLimit)(hg:s₁.gens=#[])
  (ha:s₁.heap.get? a=some { cls:=.type "list",data:=.seq vs.toArray })(hi:IntsAre vs ns)(hl:ns.length<=sizeLine)(hr:Room k callerA)
  (F:∀base:J5,K.In base->base.Ns mainGlobals mg->FnOk P w K mg base CX k fa fd [x] sp)(hbind:∀(s:Shared)(u:Value),QeL s fd ⟨[u],[]⟩ [(x,u)])
  (hsp:∀H:Hp,Qzt H->SqL K H a (ns.map V.int)->sp [.ref a] H (λv _=>v=.bl true) λ_ _ _=>False)
  (hCX:∀H e s',CX [] H s₁ (λ_ _ _=>False) e s'->False) :
  codeAny (model P w) callerA (.call (.ref fa) ⟨[.ref a],[]⟩) (λr s'=>r=.ok (.ret (.bool true))/\OldK s₁.heap s'.heap/\s'.os=s₁.os/\QdL s'.gens) s₁:=by
 have rv:=QgD hi;have lenV:=hi.length;have core:∀H:Hp,Qzt H->SqL K H a (ns.map V.int)->HOk P w H s₁.heap->(∀b,H b≠none->b=a)->(H a≠none->K.lookup a=none) ->
   codeAny (model P w) callerA (.call (.ref fa) ⟨[.ref a],[]⟩) (λr s'=>r=.ok (.ret (.bool true))/\OldK s₁.heap s'.heap/\s'.os=s₁.os/\QdL s'.gens) s₁:=by
  intro H hO hS hok hA hK;have base_of:∀{b:Addr}{o:Obj},s₁.heap.get? b=some o->H b=none->(Qpw s₁.heap H).get? b=some o:=λe n=>Qpv e n
  have noA:∀{b:Addr}{o:Obj}{es:Array DictEntry}{ep:Nat},s₁.heap.get? b=some o->o.data=.dict es ep->H b=none:=λ{b o es ep} e d=>by
   cases q:H b with
   |none=>rfl
   |some u=>
    have e':b=a:=hA b (by rw[q];simp);subst e';rw[ha] at e;cases e;have d':Data.seq vs.toArray _=Data.dict es ep:=d;cases d'
  have nsK:∀{b:Addr}{m:Str->Option Value},s₁.heap.Ns b m->(Qpw s₁.heap H).Ns b m:=λ{b m} ⟨o,es,ep,e,d,r⟩=>⟨o,es,ep,base_of e (noA e d),d,r⟩
  have hKb:K.In (Qpw s₁.heap H):=λb o e=>base_of (KX b o e) (by
   cases q:H b with
   |none=>rfl
   |some u=>
    have e':b=a:=hA b (by rw[q];simp);subst e';rw[hK (by rw[q];simp)] at e;cases e)
  have hM:Mod K mg (Qpw s₁.heap H):=⟨hKb,nsK hns,⟨mb,nsK hb,hbb⟩,let ⟨mc,h1,h2⟩:=hlim;⟨mc,nsK h1,h2⟩⟩;have e0:Env0 P w K mg (Qpw s₁.heap H) callerA [] s₁ H:=⟨rfl,hM,λb o e=>QtE e,Nat.le_of_eq (QmR _ _),trivial,λb hb=>absurd (show b∈([]:List Addr) from hb) (by simp),hok,.of_eq hg⟩;refine QbZ ((F _ hKb (nsK hns)).run callerA [] s₁ H ⟨[.ref a],[]⟩ [.ref a] [.ref a] _ _ hr e0 (hbind s₁ (.ref a)) (.cons rfl .nil) (hsp H hO hS)) λr s' h=>?_
  cases r with
  |error e=>exact(hCX H e s' h).elim
  |ok fl=>
   cases fl with
   |next=>exact JP h
   |brk=>exact JP h
   |cont=>exact JP h
   |ret u=>
    obtain⟨v,H',os,bare,un,hok',r',q⟩:=h;have q':v=.bl true:=q;subst q';obtain rfl:u=Zz true:=r';refine⟨rfl,OldK.of_keep λb o e=>?_,os,bare⟩;cases q:H b with
    |none=>exact un.keep b o e q (by intro z;exact absurd (show b∈([]:List Addr) from z) (by simp)) (by simp)
    |some u=>
     rcases hO b with z | ⟨ob,xs,z⟩
     ·rw[q] at z;cases z
     ·have z2:=un.frzs b ob _ z;obtain⟨e1,_⟩:=hok b _ z;obtain⟨e2,_⟩:=hok' b _ z2;rw[e] at e1;cases e1;exact e2
 cases hk:K.lookup a with
 |some o=>
  have e:=KX a o hk;rw[ha] at e;cases e;refine core (λ_=>none) (λ_=>.inl rfl) (.inr ⟨_,vs.toArray,_,hk,rfl,rfl,rfl,by rw[Qr,lenV];exact hl,by simpa using rv⟩) (λb u z=>by have z':(none:Option HO)=some u:=z;cases z') (λb z=>absurd rfl z) λz=>absurd rfl z
 |none=>
  refine core (λb=>if b=a then some (.frz { cls:=.type "list",data:=.seq vs.toArray } (.lst (ns.map V.int))) else none) (λb=>?_) (.inl (.inr ⟨{ cls:=.type "list",data:=.seq vs.toArray },if_pos rfl⟩)) (λb u z=>?_) (λb z=>?_) λ_=>hk
  ·by_cases hb:b=a
   ·exact .inr ⟨_,_,if_pos hb⟩
   ·exact .inl (if_neg hb)
  ·by_cases hb:b=a
   ·have z':=(if_pos hb).symm.trans z;cases z';subst hb;exact⟨ha,by rw[Qg];exact hl,vs,_,rv,ha⟩
   ·have z':=(if_neg hb).symm.trans z;cases z'
  ·by_cases hb:b=a
   ·exact hb
   ·exact absurd (if_neg hb) z
theorem Qsg{l:PySem.W.OpenLaw}{n k:Nat}{q:Qy}{loose:List Str}{XP:(Str->Option Value)->J5->Prop}{YP:Jg->J5->Prop}{d:DefRec}{K:Params->PySem.W.Frag}{CX:Jg->CXT}{sp:Jg->Sp}{x:Str}
  (hn:l.most=some n)(hn2:n<=sizeLine)(hdf:d.params.defaults=[])(hr:Room k callerA)
  (hY:∀(w:Jg)(h:J5),YP w h->(K w.params).In h)
  (F:∀(w:Jg)(mg:Str->Option Value)(fa:Addr)(h:J5),(K w.params).In h->h.Ns mainGlobals mg->mg d.name=some (.ref fa) ->
   ∃fd:QN,(∀(s:Shared)(u:Value),QeL s fd ⟨[u],[]⟩ [(x,u)]) /\
    ∀base:J5,(K w.params).In base->base.Ns mainGlobals mg->FnOk l.prog w (K w.params) mg base (CX w) k fa fd [x] (sp w))
  (hsp:∀(w:Jg)(H:Hp)(a:Addr)(ns:List Int),ns.length<=n->Qzt H->SqL (K w.params) H a (ns.map V.int)->sp w [.ref a] H (λv _=>v=.bl true) λ_ _ _=>False)
  (hCX:∀(w:Jg)(H:Hp)(s:Shared)(e:Value)(s':Shared),CX w [] H s (λ_ _ _=>False) e s'->False) :
  PySem.W.WalkO q loose XP YP l.row.toRowW d [] (λf vs=>PySem.call f vs):=by
 refine Att.QiD hn hdf λw s₀ s₁ mg mb fa o pm cd doc a vs ns G Y ho hd hcd hmg hobj hints hlen hg=>?_
 have KX:=hY w _ Y;obtain⟨fd,hb,hF⟩:=F w mg fa _ KX G.T.g hmg;exact Qpp KX G.T.g G.T.b G.T.builtins G.T.nolimit hg hobj hints (Q2 hlen hn2) hr hF hb (λH hO hS=>hsp w H a ns hlen hO hS) λH e s'=>hCX w H s₁ e s'
def JU(s:ZZ):Arguments:=match s with
 |.FunctionDef _ a _ _ _ _ _ _ _ _=>a
 |_=>{ posonlyargs:=[],args:=[],vararg:=none,kwonlyargs:=[],kw_defaults:=[],kwarg:=none,defaults:=[] }
def Ju(s:ZZ):List ZZ:=match s with
 |.FunctionDef _ _ b _ _ _ _ _ _ _=>b
 |_=>[]
def Qt(s:ZZ):Z5:=match s with
 |.FunctionDef _ _ _ _ _ _ sc _ _ _=>sc
 |_=>{ kind:=.function,names:=[],isGenerator:=false,isCoroutine:=false }
abbrev CX0:CXT:=λ_ _ _ _ _ _=>False
abbrev E0:XK:=λ_ _ _=>False
theorem QvW{X:Cx}:Qbu CX0 X E0:=λ_ _ _ _ _ _ _ h=>h.elim
structure Fun (K:PySem.W.Frag) (x qual:Str) (st:ZZ) (f:Addr) (fd:QN):Prop where
 ex:∃(oc:Value)(od:Option Addr)(kV doc pm:Value)(an:Option Addr)(cdv ct:Value)(osl:Array (Option Value)),
  fd=PySem.W.fnOf x qual (JU st) (Ju st) (Qt st) .none kV doc pm an cdv ct/\K.lookup f=some ⟨oc,od,.func fd,osl⟩/\PySem.W.codeIn K cdv qual=true
 kp:PySem.W.keepIn K (.ref f)=true
section
variable{P:Qy}{w:Jg}{K:PySem.W.Frag}{mg:Str->Option Value}{base:J5}
theorem Fun.ok{x qual:Str}{st:ZZ}{f:Addr}{fd:QN}{N ps:List Str}{k:Nat}{sp:Sp}(F:Fun K x qual st f fd)(S:Jw N ps (Qt st))(len:∀vs H Q E,sp vs H Q E->vs.length=ps.length)
  (hbody:∀(cdv:Value)(A:Q5)(outer:List Env)(s:Shared)(H:Hp)(vs:List V)(Q:VK)(E:XK),Room k (A.deeper (envOfC qual (Qt st) s.heap.objs.size f cdv))->sp vs H Q E ->
   ∃t,PSs (cxOf CX0 P w K mg base N qual (Qt st) f cdv A outer s H E).nox (Ju st) t/\t { nx:=λ_ H'=>Q .non H',rt:=Q } (start N vs) H):FnOk P w K mg base CX0 (k+1) f fd ps sp:=by
 obtain⟨oc,od,kV,doc,pm,an,cdv,ct,osl,rfl,lk,hcd⟩:=F.ex;refine QwI lk hcd S len λA outer s H vs Q E hr hsp=>?_
 obtain⟨t,h,q⟩:=hbody cdv A outer s H vs Q E hr hsp;exact⟨t,h.nox,q⟩
theorem Fun.binds{x qual:Str}{st:ZZ}{f:Addr}{fd:QN}{ps:List Str}(F:Fun K x qual st f fd)
  (h:∀(kV doc pm:Value)(an:Option Addr)(cdv ct:Value)(us:List Value),us.length=ps.length->bindArgs (PySem.W.fnOf x qual (JU st) (Ju st) (Qt st) .none kV doc pm an cdv ct) ⟨us,[]⟩=pure (ps.zip us)):Binds K fd ps []:=by
 obtain⟨oc,od,kV,doc,pm,an,cdv,ct,osl,rfl,lk,hcd⟩:=F.ex;exact .all (h kV doc pm an cdv ct)
theorem ZB{x qual:Str}{st:ZZ}{f:Addr}{oc:Value}{od an:Option Addr}{osl:Array (Option Value)}{kV doc pm cdv ct:Value}(l:K.lookup f=some ⟨oc,od,.func (PySem.W.fnOf x qual (JU st) (Ju st) (Qt st) .none kV doc pm an cdv ct),osl⟩)
  (c:PySem.W.codeIn K cdv qual=true)(k:PySem.W.keepIn K (.ref f)=true):Fun K x qual st f (PySem.W.fnOf x qual (JU st) (Ju st) (Qt st) .none kV doc pm an cdv ct):=⟨⟨oc,od,kV,doc,pm,an,cdv,ct,osl,rfl,l,c⟩,k⟩
end
section
variable{X:Cx}
theorem pv(i:Nat){x:Str}{pos:Pos}(hN:X.N[i]? = some x:=by rfl)(hv:Vis X.env.scope x:=by first | exact QV rfl | exact Q3 (QV rfl) | exact Q3 (Q3 rfl))(hd:(x == ("__debug__" : Str))=false:=by decide)
  (hcd:(x == ("__classdict__" : Str))=false:=by decide):PE X (.Name x pos) (QgF i):=Qru hN hv hd hcd
end
theorem Qin{A B:Prop}(h:B):if false=true then A else B:=by
 rw[if_neg QC];exact h
theorem Qf7{A B:Prop}(h:A):if true=true then A else B:=by
 rw[if_pos rfl];exact h
theorem QzR{c A B:Prop}[Decidable c](h1:c->A)(h2:¬c->B):if c then A else B:=by
 by_cases h:c
 ·rw[if_pos h];exact h1 h
 ·rw[if_neg h];exact h2 h
theorem QmH{c A B:Prop}[Decidable c](hc:c)(h:B):if(!decide c)=true then A else B:=by
 rw[decide_eq_true hc];exact Qin h
def Same(H H':Hp):Prop:=∀b o,H b=some o->H' b=some o
theorem Same.refl(H:Hp):Same H H:=λ_ _ h=>h
theorem Same.trans{H H1 H2:Hp}(a:Same H H1)(b:Same H1 H2):Same H H2:=λc o h=>b c o (a c o h)
theorem Same.free{H H':Hp}(e:Same H H'){l:Addr}(h:H' l=Qxr):H l=Qxr:=by
 cases q:H l with
 |none=>rfl
 |some o=>
  rw[e l o q] at h;cases h
theorem Same.seq{K:PySem.W.Frag}{H H':Hp}{a:Addr}{xs:List V}(e:Same H H')(h:SqL K H a xs):SqL K H' a xs:=by
 rcases h with(h | ⟨o,h⟩) | h
 ·exact .inl (.inl (e _ _ h))
 ·exact .inl (.inr ⟨o,e _ _ h⟩)
 ·exact .inr h
end L2
set_option maxHeartbeats 4000000
namespace Rt
def QbQ:Bool->Keyed->Array Keyed->Nat->Nat->Nat->StateT JW Sem (Option Nat):=sortPriv% PySem.Builtin.gallop
theorem QkC(lf:Bool)(kk:Keyed)(xs:Array Keyed)(b n h:Nat):QbQ lf kk xs b n h=(do
 let bey (z:Nat):StateT JW Sem (Option Bool):=do
  let x <- elem' xs (b+z)
  if lf then lt' x kk else return (<- lt' kk x).map (!·)
 let mut l0:=0
 let mut o0:=1
 let mut u:=0
 let mut v:=0
 let some r0 <- bey h | return none
 if r0 then
  let mo:=n - h
  for _ in [0:n] do
   if o0≥mo then break
   let some r1 <- bey (h+o0) | return none
   if !r1 then break
   l0:=o0
   o0:=2*o0+1
  u:=h+l0+1
  v:=h+min o0 mo
 else
  let mo:=h+1
  for _ in [0:n] do
   if o0≥mo then break
   let some r1 <- bey (h - o0) | return none
   if r1 then break
   l0:=o0
   o0:=2*o0+1
  u:=h+1 - min o0 mo
  v:=h - l0
 for _ in [0:n] do
  if u≥v then break
  let m:=u+(v - u) / 2
  let some r1 <- bey m | return none
  if r1 then u:=m+1 else v:=m
 return some v):=rfl
structure Ord (c:Keyed->Keyed->Bool):Prop where
 asym:∀x y,c x y=true->c y x=false
 trans:∀x y z,c y x=false->c z y=false->c z x=false
abbrev le (c:Keyed->Keyed->Bool) (x y:Keyed):Prop:=c y x=false
section
variable{c:Keyed->Keyed->Bool}
theorem Ord.irr(o:Ord c)(x:Keyed):c x x=false:=by
 cases h:c x x with
 |false=>rfl
 |true=>rw[o.asym x x h] at h;cases h
theorem Ord.tr(o:Ord c){x y z:Keyed}(a:le c x y)(b:le c y z):le c x z:=o.trans x y z a b
theorem Ord.lt_le(o:Ord c){x y:Keyed}(a:c x y=true):le c x y:=o.asym x y a
theorem Ord.tr_lt(o:Ord c){x y z:Keyed}(a:le c x y)(b:c y z=true):c x z=true:=by
 cases h:c x z with
 |true=>rfl
 |false=>rw[show c y z=false from o.trans z x y h a] at b;cases b
end
def kx(xs:Array Keyed)(i:Nat):Keyed:=(xs[i]?).getD (Zd,Zd)
theorem QtS{xs:Array Keyed}{i:Nat}(h:i<xs.size):xs[i]? = some (kx xs i):=by
 unfold kx;rw[getElem?_pos xs i h];rfl
theorem Qim{xs ys:Array Keyed}{i j:Nat}(h:xs[i]? = ys[j]?):kx xs i=kx ys j:=by unfold kx;rw[h]
def Sg(c:Keyed->Keyed->Bool)(xs:Array Keyed)(lo hi:Nat):Prop:=∀i j,lo<=i->i<=j->j<hi->le c (kx xs i) (kx xs j)
structure Asks (prog:Qy) (w:Jg) (A:Q5) (s:Shared) (κ:Yf) (a₀:Array Keyed) (c:Keyed->Keyed->Bool):Prop where
 ord:Ord c
 lt:∀x y,x∈a₀.toList->y∈a₀.toList->∀(C:Bool->Shared->Prop)(E':Value->Shared->Prop),C (c x y) s->wpAny (model prog w) A (keyLt' κ x.1 y.1) C E' s
structure SB (κ:Yf) (a₀:Array Keyed) (st:JW):Prop where
 perm:(arrOf st).Perm a₀
 kind:kindOf st=κ
 failed:failedOf st=none
theorem SB.size{κ:Yf}{a₀:Array Keyed}{st:JW}(h:SB κ a₀ st):(arrOf st).size=a₀.size:=h.perm.size_eq
theorem SB.mem{κ:Yf}{a₀:Array Keyed}{st:JW}(h:SB κ a₀ st){p:Keyed}(e:p∈(arrOf st).toList):p∈a₀.toList:=(YE.mp h.perm).mem_iff.mp e
theorem Qeq{xs:Array Keyed}{i:Nat}(h:i<xs.size):kx xs i∈xs.toList:=QcE.mpr (Qj3 (QtS h))
section
variable{prog:Qy}{w:Jg}{A:Q5}{E:Value->Shared->Prop}{s:Shared}{a₀:Array Keyed}{κ:Yf}{c:Keyed->Keyed->Bool}
theorem QgA{st:JW}{x y:Keyed}{Q:Option Bool->JW->Prop}(hA:Asks prog w A s κ a₀ c)(hk:kindOf st=κ)(hx:x∈a₀.toList)(hy:y∈a₀.toList)(h:Q (some (c x y)) st):wpS (model prog w) A E s (lt' x y) Q st:=by
 rw[lt'_eq];refine Qf (Qb7 ?_);rw[hk];refine Qf (QdP (Qcz (hA.lt x y hx hy _ _ ⟨rfl,?_⟩)));exact Qh h
theorem Q1{st:JW}{arr:Array Keyed}{i:Nat}{Q:Keyed->JW->Prop}(hi:i<arr.size)(h:Q (kx arr i) st):wpS (model prog w) A E s (elem' arr i) Q st:=by
 rw[elem'_eq,QtS hi];exact Qh h
theorem Qeb{st:JW}{i j:Nat}{Q:Option Bool->JW->Prop}(hA:Asks prog w A s κ a₀ c)(hB:SB κ a₀ st)(hi:i<a₀.size)(hj:j<a₀.size)(h:Q (some (c (kx (arrOf st) i) (kx (arrOf st) j))) st):wpS (model prog w) A E s (ltAt' i j) Q st:=by
 have h1:i<(arrOf st).size:=by rw[hB.size];exact hi
 have h2:j<(arrOf st).size:=by rw[hB.size];exact hj
 rw[ltAt'_eq];refine Qf (Qb7 ?_);refine Qf (Q1 h1 ?_);refine Qf (Q1 h2 ?_);exact QgA hA hB.kind (hB.mem (Qeq h1)) (hB.mem (Qeq h2)) h
def Qcs(c:Keyed->Keyed->Bool)(lf:Bool)(kk:Keyed)(xs:Array Keyed)(i:Nat):Bool:=if lf then c (kx xs i) kk else !c kk (kx xs i)
theorem QpS(o:Ord c){lf:Bool}{kk:Keyed}{xs:Array Keyed}{b n:Nat}(sg:Sg c xs b (b+n)){i j:Nat}(hij:i<=j)(hj:j<n)(h:Qcs c lf kk xs (b+j)=true):Qcs c lf kk xs (b+i)=true:=by
 have l:=sg (b+i) (b+j) (by omega) (by omega) (by omega);unfold Qcs at h ⊢;cases lf with
 |true=>exact o.tr_lt l h
 |false=>
  simp only[Qaa,if_false,Bool.not_eq_true'] at h ⊢;exact o.tr l h
theorem Zp{st:JW}{lf:Bool}{kk:Keyed}{xs:Array Keyed}{b n hint:Nat}{Q:Option Nat->JW->Prop}(hA:Asks prog w A s κ a₀ c)(hk:kindOf st=κ)(hkey:kk∈a₀.toList)(harr:∀p∈xs.toList,p∈a₀.toList)(hb:b+n<=xs.size)(hh:hint<n)(sg:Sg c xs b (b+n))
  (h:∀k,k<=n->(∀i,i<k->Qcs c lf kk xs (b+i)=true)->(∀i,k<=i->i<n->Qcs c lf kk xs (b+i)=false)->Q (some k) st):wpS (model prog w) A E s (QbQ lf kk xs b n hint) Q st:=by
 have bey:∀(i:Nat)(Q':Option Bool->JW->Prop),i<n->Q' (some (Qcs c lf kk xs (b+i))) st->wpS (model prog w) A E s (do
   let x <- elem' xs (b+i)
   if lf then lt' x kk else return (<- lt' kk x).map (!·)) Q' st:=λi Q' hi hq=>by
  have hs:b+i<xs.size:=by omega
  refine Qf (Q1 hs ?_);have pm:=harr _ (Qeq hs);unfold Qcs at hq;cases lf with
  |true=>exact QgA hA hk pm hkey hq
  |false=>exact Qf (QgA hA hk hkey pm (Qh hq))
 have mono:∀{i j:Nat},i<=j->j<n->Qcs c lf kk xs (b+j)=true->Qcs c lf kk xs (b+i)=true:=λhij hj h=>QpS hA.ord sg hij hj h
 have monoF:∀{i j:Nat},i<=j->j<n->Qcs c lf kk xs (b+i)=false->Qcs c lf kk xs (b+j)=false:=λ{i j} hij hj h=>by
  cases e:Qcs c lf kk xs (b+j) with
  |false=>rfl
  |true=>rw[mono hij hj e] at h;cases h
 rw[QkC]
 dsimp only
 refine Qf (bey hint _ hh ?_);cases hr:Qcs c lf kk xs (b+hint) with
 |true=>
  dsimp only
  rw[if_pos rfl];refine Qf (Ye (JV (I:=λx z st'=>st'=st/\∃l o,z=(none,l,o)/\l<o/\x+1<=o/\hint+l<n/\Qcs c lf kk xs (b+(hint+l))=true)
   (Q:=λz st'=>st'=st/\∃l o,z=(none,l,o)/\l<o/\hint+l<n/\Qcs c lf kk xs (b+(hint+l))=true/\(hint+o<n->Qcs c lf kk xs (b+(hint+o))=false)) ?step ?fin ⟨rfl,0,1,rfl,by omega,by omega,by omega,hr⟩) ?post)
  case fin=>
   rintro z st' ⟨rfl,l,o,rfl,h1,h2,h3,h4⟩;exact⟨rfl,l,o,rfl,h1,h3,h4,λh5=>by omega⟩
  case step=>
   rintro x z st' _ hx ⟨rfl,l,o,rfl,h1,h2,h3,h4⟩
   dsimp only
   by_cases g:o≥n - hint
   ·rw[if_pos g];exact Qh ⟨rfl,l,o,rfl,h1,h3,h4,λh5=>by omega⟩
   ·rw[if_neg g];refine Qf (bey (hint+o) _ (by omega) ?_);cases e:Qcs c lf kk xs (b+(hint+o)) with
    |true=>exact Qh ⟨rfl,o,2*o+1,rfl,by omega,by omega,by omega,e⟩
    |false=>exact Qh ⟨rfl,l,o,rfl,h1,h3,h4,λ_=>e⟩
  case post=>
   rintro z st' ⟨rfl,l,o,rfl,h1,h3,h4,h5⟩
   dsimp only
   refine Qf (Ye (JV (I:=λx z st''=>st''=st'/\∃u v,z=(none,u,v)/\v<=n/\u<=v/\v - u<=n - x/\(∀i,i<u->Qcs c lf kk xs (b+i)=true)/\(∀i,v<=i->i<n->Qcs c lf kk xs (b+i)=false))
    (Q:=λz st''=>st''=st'/\∃v,z=(none,v,v)/\v<=n/\(∀i,i<v->Qcs c lf kk xs (b+i)=true)/\(∀i,v<=i->i<n->Qcs c lf kk xs (b+i)=false)) ?step2 ?fin2 ?init2) ?post2)
   case init2=>
    refine⟨rfl,_,_,rfl,by omega,by omega,by omega,λi hi=>mono (by omega) h3 h4,λi hi hn=>?_⟩;exact monoF (i:=hint+o) (by omega) hn (h5 (by omega))
   case fin2=>
    rintro z st'' ⟨rfl,u,v,rfl,g1,g2,g3,g4,g5⟩;have:u=v:=by omega
    subst this;exact⟨rfl,u,rfl,g1,g4,g5⟩
   case step2=>
    rintro x z st'' _ hx ⟨rfl,u,v,rfl,g1,g2,g3,g4,g5⟩
    dsimp only
    by_cases g:u≥v
    ·rw[if_pos g];have:u=v:=by omega
     subst this;exact Qh ⟨rfl,u,rfl,g1,g4,g5⟩
    ·rw[if_neg g];refine Qf (bey (u+(v - u) / 2) _ (by omega) ?_);cases e:Qcs c lf kk xs (b+(u+(v - u) / 2)) with
     |true=>exact Qh ⟨rfl,_,_,rfl,g1,by omega,by omega,λi hi=>mono (by omega) (by omega) e,g5⟩
     |false=>exact Qh ⟨rfl,_,_,rfl,by omega,by omega,by omega,g4,λi hi hn=>monoF hi hn e⟩
   case post2=>
    rintro z st'' ⟨rfl,v,rfl,g1,g4,g5⟩;exact Qh (h v g1 g4 g5)
 |false=>
  dsimp only
  rw[if_neg (by decide)];refine Qf (Ye (JV (I:=λx z st'=>st'=st/\∃l o,z=(none,l,o)/\l<o/\x+1<=o/\l<=hint/\Qcs c lf kk xs (b+(hint - l))=false)
   (Q:=λz st'=>st'=st/\∃l o,z=(none,l,o)/\l<o/\l<=hint/\Qcs c lf kk xs (b+(hint - l))=false/\(o<=hint->Qcs c lf kk xs (b+(hint - o))=true)) ?step ?fin ⟨rfl,0,1,rfl,by omega,by omega,by omega,hr⟩) ?post)
  case fin=>
   rintro z st' ⟨rfl,l,o,rfl,h1,h2,h3,h4⟩;exact⟨rfl,l,o,rfl,h1,h3,h4,λh5=>by omega⟩
  case step=>
   rintro x z st' _ hx ⟨rfl,l,o,rfl,h1,h2,h3,h4⟩
   dsimp only
   by_cases g:o≥hint+1
   ·rw[if_pos g];exact Qh ⟨rfl,l,o,rfl,h1,h3,h4,λh5=>by omega⟩
   ·rw[if_neg g];refine Qf (bey (hint - o) _ (by omega) ?_);cases e:Qcs c lf kk xs (b+(hint - o)) with
    |false=>exact Qh ⟨rfl,o,2*o+1,rfl,by omega,by omega,by omega,e⟩
    |true=>exact Qh ⟨rfl,l,o,rfl,h1,h3,h4,λ_=>e⟩
  case post=>
   rintro z st' ⟨rfl,l,o,rfl,h1,h3,h4,h5⟩
   dsimp only
   refine Qf (Ye (JV (I:=λx z st''=>st''=st'/\∃u v,z=(none,u,v)/\v<=n/\u<=v/\v - u<=n - x/\(∀i,i<u->Qcs c lf kk xs (b+i)=true)/\(∀i,v<=i->i<n->Qcs c lf kk xs (b+i)=false))
    (Q:=λz st''=>st''=st'/\∃v,z=(none,v,v)/\v<=n/\(∀i,i<v->Qcs c lf kk xs (b+i)=true)/\(∀i,v<=i->i<n->Qcs c lf kk xs (b+i)=false)) ?step2 ?fin2 ?init2) ?post2)
   case init2=>
    refine⟨rfl,_,_,rfl,by omega,by omega,by omega,λi hi=>?_,λi hi hn=>monoF hi hn h4⟩;exact mono (j:=hint - o) (by omega) (by omega) (h5 (by omega))
   case fin2=>
    rintro z st'' ⟨rfl,u,v,rfl,g1,g2,g3,g4,g5⟩;have:u=v:=by omega
    subst this;exact⟨rfl,u,rfl,g1,g4,g5⟩
   case step2=>
    rintro x z st'' _ hx ⟨rfl,u,v,rfl,g1,g2,g3,g4,g5⟩
    dsimp only
    by_cases g:u≥v
    ·rw[if_pos g];have:u=v:=by omega
     subst this;exact Qh ⟨rfl,u,rfl,g1,g4,g5⟩
    ·rw[if_neg g];refine Qf (bey (u+(v - u) / 2) _ (by omega) ?_);cases e:Qcs c lf kk xs (b+(u+(v - u) / 2)) with
     |true=>exact Qh ⟨rfl,_,_,rfl,g1,by omega,by omega,λi hi=>mono (by omega) (by omega) e,g5⟩
     |false=>exact Qh ⟨rfl,_,_,rfl,by omega,by omega,by omega,g4,λi hi hn=>monoF hi hn e⟩
   case post2=>
    rintro z st'' ⟨rfl,v,rfl,g1,g4,g5⟩;exact Qh (h v g1 g4 g5)
structure Fb (κ:Yf) (a₀:Array Keyed) (lo:Nat) (st st':JW):Prop where
 sb:SB κ a₀ st'
 pend:pendingOf st'=pendingOf st
 low:∀k,k<lo->kx (arrOf st') k=kx (arrOf st) k
theorem Fb.refl{st:JW}{lo:Nat}(h:SB κ a₀ st):Fb κ a₀ lo st st:=⟨h,rfl,λ_ _=>rfl⟩
theorem QmC{xs:Array Keyed}{i j:Nat}(hj:j<=xs.size)(k:Nat):kx (mirror xs i j ((j - i) / 2)) k=if i<=k/\k<j then kx xs (i+j - 1 - k) else kx xs k:=by
 have e:=getElem?_mirror_all (i:=i) hj k
 by_cases h1:i<=k/\k<j
 ·rw[if_pos h1] at e ⊢;exact Qim e
 ·rw[if_neg h1] at e ⊢;exact Qim e
theorem QbG{st:JW}{i j lo:Nat}{st0:JW}{Q:Unit->JW->Prop}(fb:Fb κ a₀ lo st0 st)(hi:lo<=i)(hj:j<=a₀.size)
  (h:∀st',Fb κ a₀ lo st0 st'->(∀k,kx (arrOf st') k=if i<=k/\k<j then kx (arrOf st) (i+j - 1 - k) else kx (arrOf st) k)->Q () st'):wpS (model prog w) A E s (reverseSlice' i j) Q st:=by
 rw[reverseSlice'_eq];have km:∀k,kx (mirror (arrOf st) i j ((j - i) / 2)) k=if i<=k/\k<j then kx (arrOf st) (i+j - 1 - k) else kx (arrOf st) k:=λk=>QmC (by rw[fb.sb.size];exact hj) k
 refine Qaf (h _ ⟨⟨(mirror_perm _ _ _ _).trans fb.sb.perm,fb.sb.kind,fb.sb.failed⟩,fb.pend,λk hk=>?_⟩ km);show kx (mirror (arrOf st) i j ((j - i) / 2)) k=_;rw[km,if_neg (by omega)];exact fb.low k hk
def Qz7(lo a nr:Nat):StateT JW Sem (Option (Option Nat)×Nat):=
 forIn [a:nr] ((none,a):Option (Option Nat)×Nat) λ_ z=>do
  let r <- ltAt' (lo+z.2) (lo+z.2 - 1)
  match r with
  |some b=>if b=true then pure (QaZ (none,z.2)) else pure (JT (none,z.2+1))
  |_=>pure (QaZ (some none,z.2))
theorem Qed{st:JW}{lo a nr:Nat}{Q:Option (Option Nat)×Nat->JW->Prop}(hA:Asks prog w A s κ a₀ c)(hn:lo+nr<=a₀.size)(h1:1<=a)(han:a<=nr)(hB:SB κ a₀ st)(sg:Sg c (arrOf st) lo (lo+a))
  (h:∀n,a<=n->n<=nr->Sg c (arrOf st) lo (lo+n)->(n=nr∨c (kx (arrOf st) (lo+n)) (kx (arrOf st) (lo+n - 1))=true)->Q (none,n) st):wpS (model prog w) A E s (Qz7 lo a nr) Q st:=by
 unfold Qz7;refine JV (I:=λx z st'=>st'=st/\z=(none,x)/\Sg c (arrOf st) lo (lo+x)) ?step ?fin ⟨rfl,rfl,sg⟩
 case fin=>
  rintro z st' ⟨rfl,rfl,hs⟩;rw[show max a nr=nr by omega] at hs ⊢;exact h nr han (Qi _) hs (.inl rfl)
 case step=>
  rintro x z st' hax hxn ⟨rfl,rfl,hs⟩
  dsimp only
  refine Qf (Qeb hA hB (by omega) (by omega) ?_);cases e:c (kx (arrOf st') (lo+x)) (kx (arrOf st') (lo+x - 1)) with
  |true=>exact Qh (h x hax (by omega) hs (.inr e))
  |false=>
   refine Qh ⟨rfl,rfl,λi j hi hij hj=>?_⟩;by_cases z:j<lo+x
   ·exact hs i j hi hij z
   ·have zj:j=lo+x:=by omega
    subst zj;by_cases zi:i=lo+x
    ·subst zi;exact hA.ord.irr _
    ·exact hA.ord.tr (hs i (lo+x - 1) hi (by omega) (by omega)) e
def Ng(c:Keyed->Keyed->Bool)(xs:Array Keyed)(lo hi:Nat):Prop:=∀i j,lo<=i->i<=j->j<hi->le c (kx xs j) (kx xs i)
def Eqv(c:Keyed->Keyed->Bool)(x y:Keyed):Prop:=le c x y/\le c y x
theorem Eqv.ng(o:Ord c){xs ys:Array Keyed}{lo hi:Nat}(h:∀k,lo<=k->k<hi->Eqv c (kx ys k) (kx xs k))(n:Ng c xs lo hi):Ng c ys lo hi:=λi j hi' hij hj=>
 o.tr (h j (by omega) hj).1 (o.tr (n i j hi' hij hj) (h i hi' (by omega)).2)
theorem QfR(o:Ord c){xs ys:Array Keyed}{u v:Nat}(h:∀k,kx ys k=if u<=k/\k<v then kx xs (u+v - 1 - k) else kx xs k)(q:∀k,u<=k->k<v->Eqv c (kx xs k) (kx xs (v - 1)))(k:Nat):Eqv c (kx ys k) (kx xs k):=by
 rw[h k];split
 ·rename_i z
  have a:=q (u+v - 1 - k) (by omega) (by omega);have b:=q k z.1 z.2;exact⟨o.tr a.1 b.2,o.tr b.1 a.2⟩
 ·exact⟨o.irr _,o.irr _⟩
def QwP(lo n nr:Nat):StateT JW Sem (Option (Option Nat)×Nat×Nat):=
 forIn [n:nr] ((none,n,0):Option (Option Nat)×Nat×Nat) λ_ z=>do
  let r <- ltAt' (lo+z.2.1) (lo+z.2.1 - 1)
  match r with
  |some b=>
   if b=true then
    if z.2.2 > 0 then do
     reverseSlice' (lo+z.2.1 - (z.2.2+1)) (lo+z.2.1)
     pure (JT (none,z.2.1+1,0))
    else pure (JT (none,z.2.1+1,0))
   else do
    let r <- ltAt' (lo+z.2.1 - 1) (lo+z.2.1)
    match r with
    |some b=>
     if b=true then pure (QaZ (none,z.2.1,z.2.2))
     else pure (JT (none,z.2.1+1,z.2.2+1))
    |_=>pure (QaZ (some none,z.2.1,z.2.2))
  |_=>pure (QaZ (some none,z.2.1,z.2.2))
theorem Qem(o:Ord c){xs:Array Keyed}{lo n:Nat}(h:Ng c xs lo (lo+n))(h1:1<=n)(l:le c (kx xs (lo+n)) (kx xs (lo+n - 1))):Ng c xs lo (lo+(n+1)):=λi j hi hij hj=>by
 by_cases z:j<lo+n
 ·exact h i j hi hij z
 ·have zj:j=lo+n:=by omega
  subst zj;by_cases zi:i=lo+n
  ·subst zi;exact o.irr _
  ·exact o.tr l (h i (lo+n - 1) hi (by omega) (by omega))
theorem QiL{st st0:JW}{lo n nr:Nat}{Q:Option (Option Nat)×Nat×Nat->JW->Prop}(hA:Asks prog w A s κ a₀ c)(hn:lo+nr<=a₀.size)(h1:1<=n)(han:n<=nr)(fb:Fb κ a₀ lo st0 st)(ng:Ng c (arrOf st) lo (lo+n))
  (h:∀m q st',n<=m->m<=nr->Fb κ a₀ lo st0 st'->Ng c (arrOf st') lo (lo+m)->q+1<=m->(∀k,lo+m - (q+1)<=k->k<lo+m->Eqv c (kx (arrOf st') k) (kx (arrOf st') (lo+m - 1)))->Q (none,m,q) st'):wpS (model prog w) A E s (QwP lo n nr) Q st:=by
 unfold QwP;have ir:∀x,Eqv c x x:=λx=>⟨hA.ord.irr x,hA.ord.irr x⟩
 refine JV (I:=λx z st'=>∃q,z=(none,x,q)/\Fb κ a₀ lo st0 st'/\Ng c (arrOf st') lo (lo+x)/\q+1<=x/\(∀k,lo+x - (q+1)<=k->k<lo+x->Eqv c (kx (arrOf st') k) (kx (arrOf st') (lo+x - 1)))) ?step ?fin
  ⟨0,rfl,fb,ng,h1,λk k1 k2=>by rw[show k=lo+n - 1 by omega];exact ir _⟩
 case fin=>
  rintro z st' ⟨q,rfl,f,g,g1,g2⟩;rw[show max n nr=nr by omega] at g g1 g2 ⊢;exact h nr q st' han (Qi _) f g g1 g2
 case step=>
  rintro x z st' hax hxn ⟨q,rfl,f,g,g1,g2⟩
  dsimp only
  refine Qf (Qeb hA f.sb (by omega) (by omega) ?_);cases e:c (kx (arrOf st') (lo+x)) (kx (arrOf st') (lo+x - 1)) with
  |true=>
   dsimp only
   rw[if_pos rfl];by_cases zq:q > 0
   ·rw[if_pos zq];refine Qf (QbG f (by omega) (by omega) λst2 f2 km=>Qh ⟨0,rfl,f2,?_,by omega,λk k1 k2=>by rw[show k=lo+(x+1) - 1 by omega];exact ir _⟩);refine Eqv.ng hA.ord (xs:=arrOf st') (λk _ _=>QfR hA.ord km g2 k) (Qem hA.ord g (by omega) (hA.ord.lt_le e))
   ·rw[if_neg zq];exact Qh ⟨0,rfl,f,Qem hA.ord g (by omega) (hA.ord.lt_le e),by omega,λk k1 k2=>by rw[show k=lo+(x+1) - 1 by omega];exact ir _⟩
  |false=>
   dsimp only
   rw[if_neg (by decide)];refine Qf (Qeb hA f.sb (by omega) (by omega) ?_);cases e2:c (kx (arrOf st') (lo+x - 1)) (kx (arrOf st') (lo+x)) with
   |true=>exact Qh (h x q st' hax (by omega) f g g1 g2)
   |false=>
    refine Qh ⟨q+1,rfl,f,Qem hA.ord g (by omega) e2,by omega,λk k1 k2=>?_⟩;rw[show lo+(x+1) - 1=lo+x by omega];by_cases zk:k=lo+x
    ·subst zk;exact ir _
    ·have a:=g2 k (by omega) (by omega);exact⟨hA.ord.tr a.1 e,hA.ord.tr e2 a.2⟩
theorem Qpf{xs ys:Array Keyed}{lo hi:Nat}(h:∀k,kx ys k=if lo<=k/\k<hi then kx xs (lo+hi - 1 - k) else kx xs k)(n:Ng c xs lo hi):Sg c ys lo hi:=λi j hi' hij hj=>by
 rw[h i,h j,if_pos (by omega),if_pos (by omega)];exact n _ _ (by omega) (by omega) (by omega)
theorem QfE{st:JW}{lo nr:Nat}{Q:Option Nat->JW->Prop}(hA:Asks prog w A s κ a₀ c)(hn:lo+nr<=a₀.size)(h1:1<=nr)(hB:SB κ a₀ st)
  (h:∀m st',Fb κ a₀ lo st st'->1<=m->m<=nr->Sg c (arrOf st') lo (lo+m)->Q (some m) st'):wpS (model prog w) A E s (countRun' lo nr) Q st:=by
 rw[countRun'_eq]
 dsimp only
 refine Qf (Qed (lo:=lo) (a:=1) (nr:=nr) hA hn (Qi _) h1 hB (λi j hi hij hj=>by rw[show i=j by omega];exact hA.ord.irr _) λn n1 n2 sg hor=>?_)
 dsimp only
 by_cases zn:n=nr
 ·rw[if_pos (by simpa using zn)];exact Qh (h n st (Fb.refl hB) n1 n2 sg)
 ·rw[if_neg (by simpa using zn)];have hlt:=hor.resolve_left zn;by_cases zg:n > 1
  ·rw[if_pos zg];refine Qf (Qeb hA hB (by omega) (by omega) ?_);cases e:c (kx (arrOf st) lo) (kx (arrOf st) (lo+n - 1)) with
   |true=>exact Qh (h n st (Fb.refl hB) n1 n2 sg)
   |false=>
    have all:∀k,lo<=k->k<lo+n->Eqv c (kx (arrOf st) k) (kx (arrOf st) (lo+n - 1)):=λk k1 k2=>
     ⟨sg k (lo+n - 1) k1 (by omega) (by omega),hA.ord.tr e (sg lo k (Qi _) k1 k2)⟩
    dsimp only
    rw[if_neg (by decide)];refine Qf (QbG (Fb.refl hB) (Qi _) (by omega) λst2 f2 km=>?_);have ng2:Ng c (arrOf st2) lo (lo+(n+1)):=by
     refine Eqv.ng hA.ord (xs:=arrOf st) (λk k1 k2=>QfR hA.ord km all k) (Qem hA.ord (λi j i1 ij j1=>?_) n1 (hA.ord.lt_le hlt));have a:=all i i1 (by omega);have b:=all j (by omega) j1;exact hA.ord.tr b.1 a.2
    refine Qf (QdP (wpAny_rule ⟨rfl,?_⟩));refine Qf (QiL (lo:=lo) (n:=n+1) (nr:=nr) hA hn (by omega) (by omega) f2 (ng2) λm q st' m1 m2 f5 g g1 g2=>?_)
    dsimp only
    by_cases zq:q > 0
    ·rw[if_pos zq];refine Qf (QbG f5 (by omega) (by omega) λst3 f3 km3=>?_);refine Qf (QbG f3 (Qi _) (by omega) λst4 f4 km4=>?_);refine Qf (Qed (lo:=lo) (a:=m) (nr:=nr) hA hn (by omega) m2 f4.sb (Qpf km4 (Eqv.ng hA.ord (xs:=arrOf st') (λk _ _=>QfR hA.ord km3 g2 k) g)) λk k1 k2 sg4 _=>Qh (h k st4 f4 (by omega) k2 sg4))
    ·rw[if_neg zq];refine Qf (QbG f5 (Qi _) (by omega) λst4 f4 km4=>?_);refine Qf (Qed (lo:=lo) (a:=m) (nr:=nr) hA hn (by omega) m2 f4.sb (Qpf km4 (g)) λk k1 k2 sg4 _=>Qh (h k st4 f4 (by omega) k2 sg4))
  ·rw[if_neg zg];have z1:n=1:=by omega
   subst z1;refine Qf (QdP (wpAny_rule ⟨rfl,?_⟩));refine Qf (QiL (lo:=lo) (n:=1+1) (nr:=nr) hA hn (by omega) (by omega) (Fb.refl hB) (Qem hA.ord (λi j i1 ij j1=>by rw[show i=j by omega];exact hA.ord.irr _) n1 (hA.ord.lt_le hlt)) λm q st' m1 m2 f5 g g1 g2=>?_)
   dsimp only
   by_cases zq:q > 0
   ·rw[if_pos zq];refine Qf (QbG f5 (by omega) (by omega) λst3 f3 km3=>?_);refine Qf (QbG f3 (Qi _) (by omega) λst4 f4 km4=>?_);refine Qf (Qed (lo:=lo) (a:=m) (nr:=nr) hA hn (by omega) m2 f4.sb (Qpf km4 (Eqv.ng hA.ord (xs:=arrOf st') (λk _ _=>QfR hA.ord km3 g2 k) g)) λk k1 k2 sg4 _=>Qh (h k st4 f4 (by omega) k2 sg4))
   ·rw[if_neg zq];refine Qf (QbG f5 (Qi _) (by omega) λst4 f4 km4=>?_);refine Qf (Qed (lo:=lo) (a:=m) (nr:=nr) hA hn (by omega) m2 f4.sb (Qpf km4 (g)) λk k1 k2 sg4 _=>Qh (h k st4 f4 (by omega) k2 sg4))
theorem QmD{xs:Array Keyed}{src d:Nat}(hs:src<xs.size)(hd:d<=src)(k:Nat):kx (bubble xs src d) k=if k=src - d then kx xs src else if src - d<k/\k<=src then kx xs (k - 1) else kx xs k:=by
 have e:=getElem?_bubble hs d hd k
 by_cases h1:k=src - d
 ·rw[if_pos h1] at e ⊢;exact Qim e
 ·rw[if_neg h1] at e ⊢;by_cases h2:src - d<k/\k<=src
  ·rw[if_pos h2] at e ⊢;exact Qim e
  ·rw[if_neg h2] at e ⊢;exact Qim e
theorem Qec{st:JW}{lo n ok:Nat}{Q:Bool->JW->Prop}(hA:Asks prog w A s κ a₀ c)(hn:lo+n<=a₀.size)(h1:1<=ok)(hok:ok<=n)(hB:SB κ a₀ st)(sg:Sg c (arrOf st) lo (lo+ok))
  (h:∀st',Fb κ a₀ lo st st'->Sg c (arrOf st') lo (lo+n)->Q true st'):wpS (model prog w) A E s (binarySort' lo n ok) Q st:=by
 rw[binarySort'_eq];refine Qf (Ye (JV (I:=λk z st'=>z=(none,())/\Fb κ a₀ lo st st'/\Sg c (arrOf st') lo (lo+min k n)) (Q:=λz st'=>z=(none,())/\Fb κ a₀ lo st st'/\Sg c (arrOf st') lo (lo+n)) ?step ?fin ⟨rfl,Fb.refl hB,by rw[show min (max ok 1) n=ok by omega];exact sg⟩) ?post)
 case post=>
  rintro z st' ⟨rfl,f,g⟩;exact Qh (h st' f g)
 case fin=>
  rintro z st' ⟨rfl,f,g⟩;rw[show min (max (max ok 1) n) n=n by omega] at g;exact⟨rfl,f,g⟩
 case step=>
  rintro k z st' hak hkn ⟨rfl,f,g⟩;rw[show min k n=k by omega] at g;refine Qf (Ye (JV (I:=λx z st''=>st''=st'/\∃l r,z=(none,l,r)/\l<=r/\r<=k/\r - l<=k - x/\(∀i,i<l->le c (kx (arrOf st') (lo+i)) (kx (arrOf st') (lo+k)))/\(∀i,r<=i->i<k->le c (kx (arrOf st') (lo+k)) (kx (arrOf st') (lo+i))))
   (Q:=λz st''=>st''=st'/\∃l r,z=(none,l,r)/\l<=k/\(∀i,i<l->le c (kx (arrOf st') (lo+i)) (kx (arrOf st') (lo+k)))/\(∀i,l<=i->i<k->le c (kx (arrOf st') (lo+k)) (kx (arrOf st') (lo+i)))) ?istep ?ifin ⟨rfl,0,k,rfl,by omega,by omega,by omega,λi hi=>by omega,λi a b=>by omega⟩) ?ipost)
  case ifin=>
   rintro z st'' ⟨rfl,l,r,rfl,h1,h2,h3,h4,h5⟩;have:l=r:=by omega
   subst this;exact⟨rfl,l,l,rfl,h2,h4,h5⟩
  case istep=>
   rintro x z st'' _ hx ⟨rfl,l,r,rfl,h1,h2,h3,h4,h5⟩
   dsimp only
   by_cases zz:l≥r
   ·rw[if_pos zz];have:l=r:=by omega
    subst this;exact Qh ⟨rfl,l,l,rfl,h2,h4,h5⟩
   ·rw[if_neg zz];refine Qf (Qeb hA f.sb (by omega) (by omega) ?_);cases e:c (kx (arrOf st'') (lo+k)) (kx (arrOf st'') (lo+(l+r) / 2)) with
    |true=>exact Qh ⟨rfl,_,_,rfl,by omega,by omega,by omega,h4,λi a b=>hA.ord.tr (hA.ord.lt_le e) (g _ _ (by omega) (by omega) (by omega))⟩
    |false=>exact Qh ⟨rfl,_,_,rfl,by omega,by omega,by omega,λi a=>hA.ord.tr (g (lo+i) (lo+(l+r) / 2) (by omega) (by omega) (by omega)) e,h5⟩
  case ipost=>
   rintro z st'' ⟨rfl,l,r,rfl,h2,h4,h5⟩
   dsimp only
   rw[moveDown'_eq];have hs:lo+k<(arrOf st'').size:=by rw[f.sb.size];omega
   have kb:∀j,kx (bubble (arrOf st'') (lo+k) (lo+k - (lo+l))) j=if j=lo+l then kx (arrOf st'') (lo+k) else if lo+l<j/\j<=lo+k then kx (arrOf st'') (j - 1) else kx (arrOf st'') j:=λj=>by
    rw[QmD hs (by omega),show lo+k - (lo+k - (lo+l))=lo+l by omega]
   refine Qf (Qaf (Qh ⟨rfl,⟨⟨(bubble_perm _ _ _).trans f.sb.perm,f.sb.kind,f.sb.failed⟩,f.pend,λj hj=>?_⟩,λi j hi hij hj=>?_⟩))
   ·show kx (bubble (arrOf st'') (lo+k) (lo+k - (lo+l))) j=_;rw[kb,if_neg (by omega),if_neg (by omega)];exact f.low j hj
   ·show le c (kx (bubble (arrOf st'') (lo+k) (lo+k - (lo+l))) i) (kx (bubble (arrOf st'') (lo+k) (lo+k - (lo+l))) j);rw[kb,kb];have low:∀i,lo<=i->i<lo+l->le c (kx (arrOf st'') i) (kx (arrOf st'') (lo+k)):=λi a b=>by have:=h4 (i - lo) (by omega);rwa [show lo+(i - lo)=i by omega] at this
    have high:∀i,lo+l<=i->i<lo+k->le c (kx (arrOf st'') (lo+k)) (kx (arrOf st'') i):=λi a b=>by have:=h5 (i - lo) (by omega) (by omega);rwa [show lo+(i - lo)=i by omega] at this
    repeat' split
    all_goals first
     |(exfalso;omega)
     |exact hA.ord.irr _
     |exact low _ (by omega) (by omega)
     |exact high _ (by omega) (by omega)
     |exact g _ _ (by omega) (by omega) (by omega)
end
def Yj:Nat->StateT JW Sem Unit:=sortPriv% PySem.Builtin.setMinGallop
theorem QdN(g:Nat):Yj g=modify λz=>QxS (kindOf z) (arrOf z) (pendingOf z) g (failedOf z):=rfl
def Qf2:Array Keyed->Array Keyed->StateT JW Sem (Array Keyed):=sortPriv% PySem.Builtin.mergeLo
def Qf3:Array Keyed->Array Keyed->StateT JW Sem (Array Keyed):=sortPriv% PySem.Builtin.mergeHi
theorem Qii(a b:Array Keyed):Qf2 a b=(do
 rule "list.sort.merge-lo"
 let tot:=a.size+b.size
 let dn (r:Array Keyed) (i j:Nat):=r++a.extract i a.size++b.extract j b.size
 let la (r:Array Keyed) (i j:Nat):=r++b.extract j b.size++a.extract i a.size
 let mut r:Array Keyed:=#[<- elem' b 0]
 let mut i:=0
 let mut j:=1
 if j == b.size then return dn r i j
 if i+1 == a.size then return la r i j
 let mut mg:=gallopOf (<- get)
 for _ in [0:tot] do
  let mut p:=0
  let mut q:=0
  for _ in [0:tot] do
   let some t <- lt' (<- elem' b j) (<- elem' a i) | return dn r i j
   if t then
    r:=r.push (<- elem' b j);j:=j+1;q:=q+1;p:=0
    if j == b.size then return dn r i j
    if q≥mg then break
   else
    r:=r.push (<- elem' a i);i:=i+1;p:=p+1;q:=0
    if i+1 == a.size then return la r i j
    if p≥mg then break
  rule "list.sort.gallop"
  mg:=mg+1
  for _ in [0:tot] do
   if mg > 1 then mg:=mg - 1
   Yj mg
   let some k <- QbQ false (<- elem' b j) a i (a.size - i) 0 | return dn r i j
   p:=k
   if k > 0 then
    r:=r++a.extract i (i+k);i:=i+k
    if i+1 == a.size then return la r i j
    if i == a.size then return dn r i j
   r:=r.push (<- elem' b j);j:=j+1
   if j == b.size then return dn r i j
   let some k <- QbQ true (<- elem' a i) b j (b.size - j) 0 | return dn r i j
   q:=k
   if k > 0 then
    r:=r++b.extract j (j+k);j:=j+k
    if j == b.size then return dn r i j
   r:=r.push (<- elem' a i);i:=i+1
   if i+1 == a.size then return la r i j
   if p<7&&q<7 then break
  mg:=mg+1
  Yj mg
 unsupported "internal:list.sort.merge-bound"):=rfl
section
variable{c:Keyed->Keyed->Bool}
abbrev Pw (c:Keyed->Keyed->Bool) (l:List Keyed):Prop:=l.Pairwise (le c)
theorem QrR{r ch x y:List Keyed}(h1:Pw c (r++(ch++x)))(h2:Pw c (r++y))(h:∀u∈ch,∀v∈y,le c u v):Pw c ((r++ch)++x)/\Pw c ((r++ch)++y):=by
 have h1':Pw c ((r++ch)++x):=by rw[Q0];exact h1
 refine⟨h1',?_⟩;have g:=Je.mp h1';have g2:=Je.mp h2;refine Je.mpr ⟨g.1,g2.2.1,λu hu v hv=>?_⟩;rcases Jo.mp hu with z | z
 ·exact g2.2.2 u z v hv
 ·exact h u z v hv
theorem QaJ{xs:Array Keyed}{i:Nat}(h:i<xs.size):xs.toList[i]? = some (kx xs i):=by rw[Zr];exact QtS h
theorem Qm3{xs:Array Keyed}{i:Nat}(h:i<xs.size):xs.toList.drop i=kx xs i::xs.toList.drop (i+1):=by
 have hl:i<xs.toList.length:=by rw[Qj];exact h
 rw[Qbr hl];have:=QaJ h;rw[Ql hl] at this;rw[Qv this]
theorem Qbi{xs:Array Keyed}{i:Nat}{p:Keyed}(h:p∈xs.toList.drop i):∃k,i<=k/\k<xs.size/\p=kx xs k:=by
 obtain⟨n,hn⟩:=JM.mp h;rw[Qbf] at hn;have hl:=(QY.mp hn).1;rw[Qj] at hl;rw[QaJ hl] at hn;exact⟨i+n,by omega,hl,(Qv hn).symm⟩
theorem Qd3(xs:Array Keyed)(i k:Nat):(xs.extract i (i+k)).toList=(xs.toList.drop i).take k:=by
 rw[QaO,YO,Nat.add_sub_cancel_left]
theorem Qds(xs:Array Keyed)(i:Nat):(xs.extract i xs.size).toList=xs.toList.drop i:=by
 rw[QaO,YO,Qah (by rw[QaN,Qj];exact Qi _)]
theorem Qen{xs:Array Keyed}{i k:Nat}{p:Keyed}(h:p∈(xs.toList.drop i).take k):∃t,t<k/\i+t<xs.size/\p=kx xs (i+t):=by
 obtain⟨n,hn⟩:=JM.mp h;rw[QdS] at hn;split at hn
 ·rename_i z
  rw[Qbf] at hn;have hl:=(QY.mp hn).1;rw[Qj] at hl;rw[QaJ hl] at hn;exact⟨n,z,hl,(Qv hn).symm⟩
 ·cases hn
structure MI (c:Keyed->Keyed->Bool) (a b r:Array Keyed) (i j:Nat):Prop where
 ha:Pw c (r.toList++a.toList.drop i)
 hb:Pw c (r.toList++b.toList.drop j)
 pm:(r.toList++(a.toList.drop i++b.toList.drop j)).Perm (a.toList++b.toList)
def Out(c:Keyed->Keyed->Bool)(a b z:Array Keyed):Prop:=Pw c z.toList/\z.toList.Perm (a.toList++b.toList)
variable{a b r:Array Keyed}{i j k:Nat}
theorem MI.chA(m:MI c a b r i j)(h:∀t,t<k->i+t<a.size->∀n,j<=n->n<b.size->le c (kx a (i+t)) (kx b n)):MI c a b (r++a.extract i (i+k)) (i+k) j:=by
 have e:a.toList.drop i=(a.toList.drop i).take k++a.toList.drop (i+k):=by rw[<- QhH,JL]
 have e2:(r++a.extract i (i+k)).toList=r.toList++(a.toList.drop i).take k:=by rw[Jn,Qd3]
 have h1:=m.ha;have pm:=m.pm;rw[e] at h1 pm;obtain⟨g1,g2⟩:=QrR h1 m.hb λu hu v hv=>by
  obtain⟨t,t1,t2,rfl⟩:=Qen hu;obtain⟨n,n1,n2,rfl⟩:=Qbi hv;exact h t t1 t2 n n1 n2
 refine⟨by rw[e2];exact g1,by rw[e2];exact g2,?_⟩;rw[e2,Q0,<- Q0 ((a.toList.drop i).take k)];exact pm
theorem MI.chB(m:MI c a b r i j)(h:∀t,t<k->j+t<b.size->∀n,i<=n->n<a.size->le c (kx b (j+t)) (kx a n)):MI c a b (r++b.extract j (j+k)) i (j+k):=by
 have e:b.toList.drop j=(b.toList.drop j).take k++b.toList.drop (j+k):=by rw[<- QhH,JL]
 have e2:(r++b.extract j (j+k)).toList=r.toList++(b.toList.drop j).take k:=by rw[Jn,Qd3]
 have h1:=m.hb;have pm:=m.pm;rw[e] at h1 pm;obtain⟨g1,g2⟩:=QrR h1 m.ha λu hu v hv=>by
  obtain⟨t,t1,t2,rfl⟩:=Qen hu;obtain⟨n,n1,n2,rfl⟩:=Qbi hv;exact h t t1 t2 n n1 n2
 refine⟨by rw[e2];exact g2,by rw[e2];exact g1,?_⟩;rw[e2,Q0];refine QaB (Qac _ ?_) pm;rw[<- Q0,<- Q0];exact Y4 _ Qau
theorem Qja{xs:Array Keyed}{i:Nat}(h:i<xs.size):r.push (kx xs i)=r++xs.extract i (i+1):=by
 apply QeM.mp
 rw[Qd9,Jn,Qd3,Qm3 h];rfl
theorem MI.puA(m:MI c a b r i j)(hi:i<a.size)(h:∀n,j<=n->n<b.size->le c (kx a i) (kx b n)):MI c a b (r.push (kx a i)) (i+1) j:=by
 rw[Qja hi];refine m.chA λt t1 t2=>?_
 have:t=0:=by omega
 subst this;exact h
theorem MI.puB(m:MI c a b r i j)(hj:j<b.size)(h:∀n,i<=n->n<a.size->le c (kx b j) (kx a n)):MI c a b (r.push (kx b j)) i (j+1):=by
 rw[Qja hj];refine m.chB λt t1 t2=>?_
 have:t=0:=by omega
 subst this;exact h
theorem MI.dnB(m:MI c a b r i j)(hj:j=b.size):Out c a b (r++a.extract i a.size++b.extract j b.size):=by
 have e:b.toList.drop j=[]:=Yd (by rw[Qj];omega);have e2:(r++a.extract i a.size++b.extract j b.size).toList=r.toList++a.toList.drop i:=by rw[Jn,Jn,Qds,Qds,e,JB]
 have pm:=m.pm;rw[e,JB] at pm;exact⟨by rw[e2];exact m.ha,by rw[e2];exact pm⟩
theorem MI.dnA(m:MI c a b r i j)(hi:i=a.size):Out c a b (r++a.extract i a.size++b.extract j b.size):=by
 have e:a.toList.drop i=[]:=Yd (by rw[Qj];omega);have e2:(r++a.extract i a.size++b.extract j b.size).toList=r.toList++b.toList.drop j:=by rw[Jn,Jn,Qds,Qds,e,JB]
 have pm:=m.pm;rw[e,Qcw] at pm;exact⟨by rw[e2];exact m.hb,by rw[e2];exact pm⟩
theorem MI.last(m:MI c a b r i j)(hi:i+1=a.size)(p2:∀k,k<b.size->le c (kx b k) (kx a (a.size - 1))):Out c a b (r++b.extract j b.size++a.extract i a.size):=by
 have e2:(r++b.extract j b.size++a.extract i a.size).toList=(r.toList++b.toList.drop j)++a.toList.drop i:=by rw[Jn,Jn,Qds,Qds]
 have g:=Je.mp m.ha;refine⟨by
  rw[e2];refine Je.mpr ⟨m.hb,g.2.1,λu hu v hv=>?_⟩;rcases Jo.mp hu with z | z
  ·exact g.2.2 u z v hv
  ·obtain⟨n,n1,n2,rfl⟩:=Qbi hv;obtain⟨n',n3,n4,rfl⟩:=Qbi z;rw[show n=a.size - 1 by omega];exact p2 n' n4,?_⟩
 rw[e2,Q0];exact QaB (Qac _ Qau) m.pm
end
structure Sm (st st':JW):Prop where
 kind:kindOf st'=kindOf st
 arr:arrOf st'=arrOf st
 pend:pendingOf st'=pendingOf st
 failed:failedOf st'=failedOf st
theorem Sm.refl(st:JW):Sm st st:=⟨rfl,rfl,rfl,rfl⟩
section
variable{prog:Qy}{w:Jg}{A:Q5}{E:Value->Shared->Prop}{s:Shared}{a₀:Array Keyed}{κ:Yf}{c:Keyed->Keyed->Bool}
theorem QeT{st st0:JW}{g:Nat}{Q:Unit->JW->Prop}(m:Sm st0 st)(h:∀st',Sm st0 st'->Q () st'):wpS (model prog w) A E s (Yj g) Q st:=by
 rw[QdN];exact Qaf (h _ ⟨m.kind,m.arr,m.pend,m.failed⟩)
theorem JK{x y:Nat}(h:x≠y):¬((x == y)=true):=λz=>h (beq_iff_eq.mp z)
theorem QhR{st:JW}{a b:Array Keyed}{Q:Array Keyed->JW->Prop}(hA:Asks prog w A s κ a₀ c)(hk:kindOf st=κ)(ma:∀p∈a.toList,p∈a₀.toList)(mb:∀p∈b.toList,p∈a₀.toList)(na:1<=a.size)(nb:1<=b.size)
  (sa:Sg c a 0 a.size)(sb:Sg c b 0 b.size)(p1:∀k,k<a.size->le c (kx b 0) (kx a k))(p2:∀k,k<b.size->le c (kx b k) (kx a (a.size - 1)))(h:∀z st',Sm st st'->Out c a b z->Q z st'):wpS (model prog w) A E s (Qf2 a b) Q st:=by
 have pwl:∀{xs:Array Keyed},Sg c xs 0 xs.size->Pw c xs.toList:=λ{xs} sg=>ZL.mpr λx y hx hy hxy=>by
  rw[Qj] at hx hy;have e1:=QaJ hx;have e2:=QaJ hy;rw[Ql (by rw[Qj];exact hx)] at e1;rw[Ql (by rw[Qj];exact hy)] at e2;rw[Qv e1,Qv e2];exact sg x y (Qw _) (by omega) hy
 rw[Qii]
 dsimp only
 refine Qf (QdP (wpAny_rule ⟨rfl,?_⟩));refine Qf (Q1 (by omega) ?_);have m0:MI c a b #[] 0 0:=⟨by rw[Zn];exact pwl sa,by rw[Zn];exact pwl sb,by rw[Zn,Zn];exact QnN _⟩;have m1:MI c a b #[kx b 0] 0 1:=MI.puB m0 (by omega) λn _ hn=>p1 n hn
 by_cases z1:1=b.size
 ·rw[if_pos (beq_iff_eq.mpr z1)];exact Qh (h _ _ (Sm.refl st) (m1.dnB z1))
 ·rw[if_neg (JK z1)];by_cases z2:0+1=a.size
  ·rw[if_pos (beq_iff_eq.mpr z2)];exact Qh (h _ _ (Sm.refl st) (m1.last z2 p2))
  ·rw[if_neg (JK z2)];refine Qf (Qb7 ?_);refine Qf (Ye (JV (I:=λx z st'=>∃r i j mg,z=(none,r,i,j,mg)/\MI c a b r i j/\i+1<a.size/\j<b.size/\x+1<=i+j/\Sm st st')
    (Q:=λz st'=>∃o y,z=(some o,y)/\Out c a b o/\Sm st st') ?step ?fin ⟨_,0,1,_,rfl,m1,by omega,by omega,by omega,Sm.refl st⟩) ?post)
   case post=>
    rintro z st' ⟨o,y,rfl,ho,sm⟩;exact Qh (h o st' sm ho)
   case fin=>
    rintro z st' ⟨r,i,j,mg,rfl,m,i1,j1,x1,sm⟩;exfalso
    omega
   case step=>
    rintro x z st' _ hx ⟨r,i,j,mg,rfl,m,i1,j1,x1,sm⟩
    dsimp only
    refine Qf (Ye (JV (I:=λy z st2=>∃r i j p q,z=(none,r,i,j,p,q)/\MI c a b r i j/\i+1<a.size/\j<b.size/\x+1+y<=i+j/\Sm st st2)
     (Q:=λz st2=>(∃o y,z=(some o,y)/\Out c a b o/\Sm st st2)∨∃r i j p q,z=(none,r,i,j,p,q)/\MI c a b r i j/\i+1<a.size/\j<b.size/\x+2<=i+j/\Sm st st2) ?step1 ?fin1 ⟨r,i,j,0,0,rfl,m,i1,j1,by omega,sm⟩) ?post1)
    case fin1=>
     rintro z st2 ⟨r,i,j,p,q,rfl,m,i1,j1,x1,sm⟩;exact .inr ⟨r,i,j,p,q,rfl,m,i1,j1,by omega,sm⟩
    case step1=>
     rintro y z st2 _ hy ⟨r,i,j,p,q,rfl,m,i1,j1,x1,sm⟩
     dsimp only
     refine Qf (Q1 j1 ?_);refine Qf (Q1 (by omega) ?_);refine Qf (QgA hA (sm.kind.trans hk) (mb _ (Qeq j1)) (ma _ (Qeq (by omega))) ?_);cases e:c (kx b j) (kx a i) with
     |true=>
      dsimp only
      rw[if_pos rfl];refine Qf (Q1 j1 ?_);have m2:=MI.puB m j1 λn n1 n2=>hA.ord.tr (hA.ord.lt_le e) (sa i n (Qw _) n1 n2)
      by_cases z3:j+1=b.size
      ·rw[if_pos (beq_iff_eq.mpr z3)];exact Qh (.inl ⟨_,_,rfl,m2.dnB z3,sm⟩)
      ·rw[if_neg (JK z3)];split
       ·exact Qh (.inr ⟨_,_,_,_,_,rfl,m2,by omega,by omega,by omega,sm⟩)
       ·exact Qh ⟨_,_,_,_,_,rfl,m2,by omega,by omega,by omega,sm⟩
     |false=>
      dsimp only
      rw[if_neg (by decide)];refine Qf (Q1 (by omega) ?_);have m2:=MI.puA m (by omega) λn n1 n2=>hA.ord.tr e (sb j n (Qw _) n1 n2)
      by_cases z3:i+1+1=a.size
      ·rw[if_pos (beq_iff_eq.mpr z3)];exact Qh (.inl ⟨_,_,rfl,m2.last z3 p2,sm⟩)
      ·rw[if_neg (JK z3)];split
       ·exact Qh (.inr ⟨_,_,_,_,_,rfl,m2,by omega,by omega,by omega,sm⟩)
       ·exact Qh ⟨_,_,_,_,_,rfl,m2,by omega,by omega,by omega,sm⟩
    case post1=>
     rintro z st2 (⟨o,y,rfl,ho,sm⟩ | ⟨r,i,j,p,q,rfl,m,i1,j1,x1,sm⟩)
     ·exact Qh ⟨o,_,rfl,ho,sm⟩
     ·dsimp only
      refine Qf (QdP (wpAny_rule ⟨rfl,?_⟩));refine Qf (Ye (JV (I:=λy z st3=>∃r i j mg p q,z=(none,r,i,j,mg,p,q)/\MI c a b r i j/\i+1<a.size/\j<b.size/\x+2<=i+j/\Sm st st3)
       (Q:=λz st3=>(∃o y,z=(some o,y)/\Out c a b o/\Sm st st3)∨∃r i j mg p q,z=(none,r,i,j,mg,p,q)/\MI c a b r i j/\i+1<a.size/\j<b.size/\x+2<=i+j/\Sm st st3) ?step2 ?fin2 ⟨r,i,j,_,p,q,rfl,m,i1,j1,by omega,sm⟩) ?post2)
      case fin2=>
       rintro z st3 ⟨r,i,j,mg,p,q,rfl,m,i1,j1,x1,sm⟩;exact .inr ⟨r,i,j,mg,p,q,rfl,m,i1,j1,by omega,sm⟩
      case post2=>
       rintro z st3 (⟨o,y,rfl,ho,sm⟩ | ⟨r,i,j,mg,p,q,rfl,m,i1,j1,x1,sm⟩)
       ·exact Qh ⟨o,_,rfl,ho,sm⟩
       ·dsimp only
        exact Qf (QeT sm λst4 sm4=>Qh ⟨_,_,_,_,rfl,m,i1,j1,by omega,sm4⟩)
      case step2=>
       rintro y z st3 _ hy ⟨r,i,j,mg,p,q,rfl,m,i1,j1,x1,sm⟩
       dsimp only
       by_cases z0:mg > 1
       ·rw[if_pos z0];refine Qf (QeT sm λst4 sm4=>?_);refine Qf (Q1 (by omega) ?_);refine Qf (Zp hA (sm4.kind.trans hk) (mb _ (Qeq (by omega))) ma (by omega) (by omega) (λx y x1 xy y1=>sa x y (Qw _) xy (by omega)) λk kn b1 b2=>?_);have b1:∀t,t<k->(!c (kx b j) (kx a (i+t)))=true:=λt ht=>b1 t ht
        have b2:∀t,k<=t->t<a.size - i->(!c (kx b j) (kx a (i+t)))=false:=λt h1 h2=>b2 t h1 h2
        dsimp only
        have hB1:∀n,i+k<=n->n<a.size->le c (kx b j) (kx a n):=λn n1 n2=>by
         have:=b2 (n - i) (by omega) (by omega);rw[show i+(n - i)=n by omega] at this;exact hA.ord.lt_le (by simpa using this)
        by_cases zk:k > 0
        ·rw[if_pos zk];have m2:=MI.chA (k:=k) m λt t1 t2 n n1 n2=>by
          have:=b1 t t1;exact hA.ord.tr (show le c (kx a (i+t)) (kx b j) by simpa using this) (sb j n (Qw _) n1 n2)
         by_cases z2:i+k+1=a.size
         ·rw[if_pos (beq_iff_eq.mpr z2)];exact Qh (.inl ⟨_,_,rfl,m2.last z2 p2,sm4⟩)
         ·rw[if_neg (JK z2)];by_cases z3:i+k=a.size
          ·rw[if_pos (beq_iff_eq.mpr z3)];exact Qh (.inl ⟨_,_,rfl,m2.dnA z3,sm4⟩)
          ·rw[if_neg (JK z3)];refine Qf (Q1 (by omega) ?_);have m5:=MI.puB m2 (by omega) hB1;by_cases z5:j+1=b.size
           ·rw[if_pos (beq_iff_eq.mpr z5)];exact Qh (.inl ⟨_,_,rfl,m5.dnB z5,sm4⟩)
           ·rw[if_neg (JK z5)];refine Qf (Q1 (by omega) ?_);refine Qf (Zp hA (sm4.kind.trans hk) (ma _ (Qeq (by omega))) mb (by omega) (by omega) (λx y x1 xy y1=>sb x y (Qw _) xy (by omega)) λk2 k2n b1 b2=>?_);have b1:∀t,t<k2->c (kx b (j+1+t)) (kx a (i+k))=true:=λt ht=>b1 t ht
            have b2:∀t,k2<=t->t<b.size - (j+1)->c (kx b (j+1+t)) (kx a (i+k))=false:=λt h1 h2=>b2 t h1 h2
            dsimp only
            have gA:∀n,j+1+k2<=n->n<b.size->le c (kx a (i+k)) (kx b n):=λn n1 n2=>by have:=b2 (n - (j+1)) (by omega) (by omega);rwa [show j+1+(n - (j+1))=n by omega] at this
            by_cases zk2:k2 > 0
            ·rw[if_pos zk2];have m6:=MI.chB (k:=k2) m5 λt t1 t2 n n1 n2=>hA.ord.tr (hA.ord.lt_le (b1 t t1)) (sa (i+k) n (Qw _) n1 n2)
             by_cases z6:j+1+k2=b.size
             ·rw[if_pos (beq_iff_eq.mpr z6)];exact Qh (.inl ⟨_,_,rfl,m6.dnB z6,sm4⟩)
             ·rw[if_neg (JK z6)];refine Qf (Q1 (by omega) ?_);have m9:=MI.puA m6 (by omega) gA;by_cases z9:i+k+1+1=a.size
              ·rw[if_pos (beq_iff_eq.mpr z9)];exact Qh (.inl ⟨_,_,rfl,m9.last z9 p2,sm4⟩)
              ·rw[if_neg (JK z9)];split
               ·exact Qh (.inr ⟨_,_,_,_,_,_,rfl,m9,by omega,by omega,by omega,sm4⟩)
               ·exact Qh ⟨_,_,_,_,_,_,rfl,m9,by omega,by omega,by omega,sm4⟩
            ·rw[if_neg zk2];have zk2:k2=0:=by omega
             subst zk2;refine Qf (Q1 (by omega) ?_);have m9:=MI.puA m5 (by omega) gA;by_cases z9:i+k+1+1=a.size
             ·rw[if_pos (beq_iff_eq.mpr z9)];exact Qh (.inl ⟨_,_,rfl,m9.last z9 p2,sm4⟩)
             ·rw[if_neg (JK z9)];split
              ·exact Qh (.inr ⟨_,_,_,_,_,_,rfl,m9,by omega,by omega,by omega,sm4⟩)
              ·exact Qh ⟨_,_,_,_,_,_,rfl,m9,by omega,by omega,by omega,sm4⟩
        ·rw[if_neg zk];have zk:k=0:=by omega
         subst zk;refine Qf (Q1 (by omega) ?_);have m5:=MI.puB m (by omega) hB1;by_cases z5:j+1=b.size
         ·rw[if_pos (beq_iff_eq.mpr z5)];exact Qh (.inl ⟨_,_,rfl,m5.dnB z5,sm4⟩)
         ·rw[if_neg (JK z5)];refine Qf (Q1 (by omega) ?_);refine Qf (Zp hA (sm4.kind.trans hk) (ma _ (Qeq (by omega))) mb (by omega) (by omega) (λx y x1 xy y1=>sb x y (Qw _) xy (by omega)) λk2 k2n b1 b2=>?_);have b1:∀t,t<k2->c (kx b (j+1+t)) (kx a (i))=true:=λt ht=>b1 t ht
          have b2:∀t,k2<=t->t<b.size - (j+1)->c (kx b (j+1+t)) (kx a (i))=false:=λt h1 h2=>b2 t h1 h2
          dsimp only
          have gA:∀n,j+1+k2<=n->n<b.size->le c (kx a (i)) (kx b n):=λn n1 n2=>by have:=b2 (n - (j+1)) (by omega) (by omega);rwa [show j+1+(n - (j+1))=n by omega] at this
          by_cases zk2:k2 > 0
          ·rw[if_pos zk2];have m6:=MI.chB (k:=k2) m5 λt t1 t2 n n1 n2=>hA.ord.tr (hA.ord.lt_le (b1 t t1)) (sa (i) n (Qw _) n1 n2)
           by_cases z6:j+1+k2=b.size
           ·rw[if_pos (beq_iff_eq.mpr z6)];exact Qh (.inl ⟨_,_,rfl,m6.dnB z6,sm4⟩)
           ·rw[if_neg (JK z6)];refine Qf (Q1 (by omega) ?_);have m9:=MI.puA m6 (by omega) gA;by_cases z9:i+1+1=a.size
            ·rw[if_pos (beq_iff_eq.mpr z9)];exact Qh (.inl ⟨_,_,rfl,m9.last z9 p2,sm4⟩)
            ·rw[if_neg (JK z9)];split
             ·exact Qh (.inr ⟨_,_,_,_,_,_,rfl,m9,by omega,by omega,by omega,sm4⟩)
             ·exact Qh ⟨_,_,_,_,_,_,rfl,m9,by omega,by omega,by omega,sm4⟩
          ·rw[if_neg zk2];have zk2:k2=0:=by omega
           subst zk2;refine Qf (Q1 (by omega) ?_);have m9:=MI.puA m5 (by omega) gA;by_cases z9:i+1+1=a.size
           ·rw[if_pos (beq_iff_eq.mpr z9)];exact Qh (.inl ⟨_,_,rfl,m9.last z9 p2,sm4⟩)
           ·rw[if_neg (JK z9)];split
            ·exact Qh (.inr ⟨_,_,_,_,_,_,rfl,m9,by omega,by omega,by omega,sm4⟩)
            ·exact Qh ⟨_,_,_,_,_,_,rfl,m9,by omega,by omega,by omega,sm4⟩
       ·rw[if_neg z0];refine Qf (QeT sm λst4 sm4=>?_);refine Qf (Q1 (by omega) ?_);refine Qf (Zp hA (sm4.kind.trans hk) (mb _ (Qeq (by omega))) ma (by omega) (by omega) (λx y x1 xy y1=>sa x y (Qw _) xy (by omega)) λk kn b1 b2=>?_);have b1:∀t,t<k->(!c (kx b j) (kx a (i+t)))=true:=λt ht=>b1 t ht
        have b2:∀t,k<=t->t<a.size - i->(!c (kx b j) (kx a (i+t)))=false:=λt h1 h2=>b2 t h1 h2
        dsimp only
        have hB1:∀n,i+k<=n->n<a.size->le c (kx b j) (kx a n):=λn n1 n2=>by
         have:=b2 (n - i) (by omega) (by omega);rw[show i+(n - i)=n by omega] at this;exact hA.ord.lt_le (by simpa using this)
        by_cases zk:k > 0
        ·rw[if_pos zk];have m2:=MI.chA (k:=k) m λt t1 t2 n n1 n2=>by
          have:=b1 t t1;exact hA.ord.tr (show le c (kx a (i+t)) (kx b j) by simpa using this) (sb j n (Qw _) n1 n2)
         by_cases z2:i+k+1=a.size
         ·rw[if_pos (beq_iff_eq.mpr z2)];exact Qh (.inl ⟨_,_,rfl,m2.last z2 p2,sm4⟩)
         ·rw[if_neg (JK z2)];by_cases z3:i+k=a.size
          ·rw[if_pos (beq_iff_eq.mpr z3)];exact Qh (.inl ⟨_,_,rfl,m2.dnA z3,sm4⟩)
          ·rw[if_neg (JK z3)];refine Qf (Q1 (by omega) ?_);have m5:=MI.puB m2 (by omega) hB1;by_cases z5:j+1=b.size
           ·rw[if_pos (beq_iff_eq.mpr z5)];exact Qh (.inl ⟨_,_,rfl,m5.dnB z5,sm4⟩)
           ·rw[if_neg (JK z5)];refine Qf (Q1 (by omega) ?_);refine Qf (Zp hA (sm4.kind.trans hk) (ma _ (Qeq (by omega))) mb (by omega) (by omega) (λx y x1 xy y1=>sb x y (Qw _) xy (by omega)) λk2 k2n b1 b2=>?_);have b1:∀t,t<k2->c (kx b (j+1+t)) (kx a (i+k))=true:=λt ht=>b1 t ht
            have b2:∀t,k2<=t->t<b.size - (j+1)->c (kx b (j+1+t)) (kx a (i+k))=false:=λt h1 h2=>b2 t h1 h2
            dsimp only
            have gA:∀n,j+1+k2<=n->n<b.size->le c (kx a (i+k)) (kx b n):=λn n1 n2=>by have:=b2 (n - (j+1)) (by omega) (by omega);rwa [show j+1+(n - (j+1))=n by omega] at this
            by_cases zk2:k2 > 0
            ·rw[if_pos zk2];have m6:=MI.chB (k:=k2) m5 λt t1 t2 n n1 n2=>hA.ord.tr (hA.ord.lt_le (b1 t t1)) (sa (i+k) n (Qw _) n1 n2)
             by_cases z6:j+1+k2=b.size
             ·rw[if_pos (beq_iff_eq.mpr z6)];exact Qh (.inl ⟨_,_,rfl,m6.dnB z6,sm4⟩)
             ·rw[if_neg (JK z6)];refine Qf (Q1 (by omega) ?_);have m9:=MI.puA m6 (by omega) gA;by_cases z9:i+k+1+1=a.size
              ·rw[if_pos (beq_iff_eq.mpr z9)];exact Qh (.inl ⟨_,_,rfl,m9.last z9 p2,sm4⟩)
              ·rw[if_neg (JK z9)];split
               ·exact Qh (.inr ⟨_,_,_,_,_,_,rfl,m9,by omega,by omega,by omega,sm4⟩)
               ·exact Qh ⟨_,_,_,_,_,_,rfl,m9,by omega,by omega,by omega,sm4⟩
            ·rw[if_neg zk2];have zk2:k2=0:=by omega
             subst zk2;refine Qf (Q1 (by omega) ?_);have m9:=MI.puA m5 (by omega) gA;by_cases z9:i+k+1+1=a.size
             ·rw[if_pos (beq_iff_eq.mpr z9)];exact Qh (.inl ⟨_,_,rfl,m9.last z9 p2,sm4⟩)
             ·rw[if_neg (JK z9)];split
              ·exact Qh (.inr ⟨_,_,_,_,_,_,rfl,m9,by omega,by omega,by omega,sm4⟩)
              ·exact Qh ⟨_,_,_,_,_,_,rfl,m9,by omega,by omega,by omega,sm4⟩
        ·rw[if_neg zk];have zk:k=0:=by omega
         subst zk;refine Qf (Q1 (by omega) ?_);have m5:=MI.puB m (by omega) hB1;by_cases z5:j+1=b.size
         ·rw[if_pos (beq_iff_eq.mpr z5)];exact Qh (.inl ⟨_,_,rfl,m5.dnB z5,sm4⟩)
         ·rw[if_neg (JK z5)];refine Qf (Q1 (by omega) ?_);refine Qf (Zp hA (sm4.kind.trans hk) (ma _ (Qeq (by omega))) mb (by omega) (by omega) (λx y x1 xy y1=>sb x y (Qw _) xy (by omega)) λk2 k2n b1 b2=>?_);have b1:∀t,t<k2->c (kx b (j+1+t)) (kx a (i))=true:=λt ht=>b1 t ht
          have b2:∀t,k2<=t->t<b.size - (j+1)->c (kx b (j+1+t)) (kx a (i))=false:=λt h1 h2=>b2 t h1 h2
          dsimp only
          have gA:∀n,j+1+k2<=n->n<b.size->le c (kx a (i)) (kx b n):=λn n1 n2=>by have:=b2 (n - (j+1)) (by omega) (by omega);rwa [show j+1+(n - (j+1))=n by omega] at this
          by_cases zk2:k2 > 0
          ·rw[if_pos zk2];have m6:=MI.chB (k:=k2) m5 λt t1 t2 n n1 n2=>hA.ord.tr (hA.ord.lt_le (b1 t t1)) (sa (i) n (Qw _) n1 n2)
           by_cases z6:j+1+k2=b.size
           ·rw[if_pos (beq_iff_eq.mpr z6)];exact Qh (.inl ⟨_,_,rfl,m6.dnB z6,sm4⟩)
           ·rw[if_neg (JK z6)];refine Qf (Q1 (by omega) ?_);have m9:=MI.puA m6 (by omega) gA;by_cases z9:i+1+1=a.size
            ·rw[if_pos (beq_iff_eq.mpr z9)];exact Qh (.inl ⟨_,_,rfl,m9.last z9 p2,sm4⟩)
            ·rw[if_neg (JK z9)];split
             ·exact Qh (.inr ⟨_,_,_,_,_,_,rfl,m9,by omega,by omega,by omega,sm4⟩)
             ·exact Qh ⟨_,_,_,_,_,_,rfl,m9,by omega,by omega,by omega,sm4⟩
          ·rw[if_neg zk2];have zk2:k2=0:=by omega
           subst zk2;refine Qf (Q1 (by omega) ?_);have m9:=MI.puA m5 (by omega) gA;by_cases z9:i+1+1=a.size
           ·rw[if_pos (beq_iff_eq.mpr z9)];exact Qh (.inl ⟨_,_,rfl,m9.last z9 p2,sm4⟩)
           ·rw[if_neg (JK z9)];split
            ·exact Qh (.inr ⟨_,_,_,_,_,_,rfl,m9,by omega,by omega,by omega,sm4⟩)
            ·exact Qh ⟨_,_,_,_,_,_,rfl,m9,by omega,by omega,by omega,sm4⟩
end
theorem Qij(a b:Array Keyed):Qf3 a b=(do
 rule "list.sort.merge-hi"
 let tot:=a.size+b.size
 let dn (r:Array Keyed) (i j:Nat):=a.extract 0 i++b.extract 0 j++r.reverse
 let fb (r:Array Keyed) (i j:Nat):=b.extract 0 j++a.extract 0 i++r.reverse
 let mut i:=a.size - 1
 let mut j:=b.size
 let mut r:Array Keyed:=#[<- elem' a i]
 if i == 0 then return dn r i j
 if j == 1 then return fb r i j
 let mut mg:=gallopOf (<- get)
 for _ in [0:tot] do
  let mut p:=0
  let mut q:=0
  for _ in [0:tot] do
   let some t <- lt' (<- elem' b (j - 1)) (<- elem' a (i - 1)) | return dn r i j
   if t then
    i:=i - 1;r:=r.push (<- elem' a i);p:=p+1;q:=0
    if i == 0 then return dn r i j
    if p≥mg then break
   else
    j:=j - 1;r:=r.push (<- elem' b j);q:=q+1;p:=0
    if j == 1 then return fb r i j
    if q≥mg then break
  rule "list.sort.gallop"
  mg:=mg+1
  for _ in [0:tot] do
   if mg > 1 then mg:=mg - 1
   Yj mg
   let some t <- QbQ false (<- elem' b (j - 1)) a 0 i (i - 1) | return dn r i j
   let k:=i - t
   p:=k
   if k > 0 then
    r:=r++(a.extract t i).reverse;i:=t
    if i == 0 then return dn r i j
   j:=j - 1;r:=r.push (<- elem' b j)
   if j == 1 then return fb r i j
   let some t <- QbQ true (<- elem' a (i - 1)) b 0 j (j - 1) | return dn r i j
   let k:=j - t
   q:=k
   if k > 0 then
    r:=r++(b.extract t j).reverse;j:=t
    if j == 1 then return fb r i j
    if j == 0 then return dn r i j
   i:=i - 1;r:=r.push (<- elem' a i)
   if i == 0 then return dn r i j
   if p<7&&q<7 then break
  mg:=mg+1
  Yj mg
 unsupported "internal:list.sort.merge-bound"):=rfl
section
variable{c:Keyed->Keyed->Bool}
theorem QrQ{r ch x y:List Keyed}(h1:Pw c ((x++ch)++r))(h2:Pw c (y++r))(h:∀u∈y,∀v∈ch,le c u v):Pw c (x++(ch++r))/\Pw c (y++(ch++r)):=by
 have h1':Pw c (x++(ch++r)):=by rw[<- Q0];exact h1
 refine⟨h1',?_⟩;have g:=Je.mp h1';have g2:=Je.mp h2;refine Je.mpr ⟨g2.1,g.2.1,λu hu v hv=>?_⟩;rcases Jo.mp hv with z | z
 ·exact h u hu v z
 ·exact g2.2.2 u hu v z
theorem Qjz(xs:Array Keyed)(i:Nat):(xs.extract 0 i).toList=xs.toList.take i:=by
 rw[QaO,YO,Qk4,Zn]
theorem QaK(xs:Array Keyed)(t i:Nat):(xs.extract t i).toList=(xs.toList.take i).drop t:=by
 rw[QaO,YO,List.take_drop];by_cases z:t<=i
 ·rw[show t+(i - t)=i by omega]
 ·rw[show i - t=0 by omega,QeR,Yd (by rw[J8];omega),Yd (by rw[J8];omega)]
theorem YK{xs:Array Keyed}{t i:Nat}{p:Keyed}(h:p∈(xs.toList.take i).drop t):∃n,t<=n/\n<i/\n<xs.size/\p=kx xs n:=by
 obtain⟨n,hn⟩:=JM.mp h;rw[Qbf,QdS] at hn;split at hn
 ·rename_i z
  have hl:=(QY.mp hn).1;rw[Qj] at hl;rw[QaJ hl] at hn;exact⟨t+n,by omega,z,hl,(Qv hn).symm⟩
 ·cases hn
structure MH (c:Keyed->Keyed->Bool) (a b r:Array Keyed) (i j:Nat):Prop where
 ha:Pw c (a.toList.take i++r.toList.reverse)
 hb:Pw c (b.toList.take j++r.toList.reverse)
 pm:((a.toList.take i++b.toList.take j)++r.toList.reverse).Perm (a.toList++b.toList)
variable{a b r:Array Keyed}{i j t:Nat}
theorem Qde(r x:Array Keyed):(r++x.reverse).toList.reverse=x.toList++r.toList.reverse:=by
 rw[Jn,QcD,List.reverse_append,List.reverse_reverse]
theorem MH.chA(m:MH c a b r i j)(ht:t<=i)(h:∀n,t<=n->n<i->n<a.size->∀k,k<j->k<b.size->le c (kx b k) (kx a n)):MH c a b (r++(a.extract t i).reverse) t j:=by
 have e:a.toList.take i=a.toList.take t++(a.toList.take i).drop t:=by
  have:=(JL t (a.toList.take i)).symm
  rwa [Qc3,Yw ht] at this
 have h1:=m.ha;have pm:=m.pm;rw[e] at h1 pm;obtain⟨g1,g2⟩:=QrQ h1 m.hb λu hu v hv=>by
  obtain⟨n,n1,n2,n3,rfl⟩:=YK hv;obtain⟨k,_,k2,k3,rfl⟩:=YK (t:=0) (by rw[Zn];exact hu);exact h n n1 n2 n3 k k2 k3
 refine⟨by rw[Qde,QaK];exact g1,by rw[Qde,QaK];exact g2,?_⟩;rw[Qde,QaK];refine QaB ?_ pm
 rw[<- Q0];refine Y4 _ ?_
 rw[Q0,Q0];exact Qac _ Qau
theorem MH.chB(m:MH c a b r i j)(ht:t<=j)(h:∀n,t<=n->n<j->n<b.size->∀k,k<i->k<a.size->le c (kx a k) (kx b n)):MH c a b (r++(b.extract t j).reverse) i t:=by
 have e:b.toList.take j=b.toList.take t++(b.toList.take j).drop t:=by
  have:=(JL t (b.toList.take j)).symm
  rwa [Qc3,Yw ht] at this
 have h1:=m.hb;have pm:=m.pm;rw[e] at h1 pm;obtain⟨g1,g2⟩:=QrQ h1 m.ha λu hu v hv=>by
  obtain⟨n,n1,n2,n3,rfl⟩:=YK hv;obtain⟨k,_,k2,k3,rfl⟩:=YK (t:=0) (by rw[Zn];exact hu);exact h n n1 n2 n3 k k2 k3
 refine⟨by rw[Qde,QaK];exact g2,by rw[Qde,QaK];exact g1,?_⟩;rw[Qde,QaK];refine QaB ?_ pm
 rw[<- Q0,Q0 (a.toList.take i)]
theorem Qi9{xs:Array Keyed}{i:Nat}(h1:1<=i)(h:i<=xs.size):r.push (kx xs (i - 1))=r++(xs.extract (i - 1) i).reverse:=by
 apply QeM.mp
 have e:=Qd3 xs (i - 1) 1;rw[show i - 1+1=i by omega] at e;rw[Qd9,Jn,QcD,e,Qm3 (by omega)];rfl
theorem MH.puA(m:MH c a b r i j)(h1:1<=i)(hi:i<=a.size)(h:∀k,k<j->k<b.size->le c (kx b k) (kx a (i - 1))):MH c a b (r.push (kx a (i - 1))) (i - 1) j:=by
 rw[Qi9 h1 hi];refine m.chA (by omega) λn n1 n2 _=>?_
 rw[show n=i - 1 by omega];exact h
theorem MH.puB(m:MH c a b r i j)(h1:1<=j)(hj:j<=b.size)(h:∀k,k<i->k<a.size->le c (kx a k) (kx b (j - 1))):MH c a b (r.push (kx b (j - 1))) i (j - 1):=by
 rw[Qi9 h1 hj];refine m.chB (by omega) λn n1 n2 _=>?_
 rw[show n=j - 1 by omega];exact h
theorem Qb3(x y r:Array Keyed)(i j:Nat):(x.extract 0 i++y.extract 0 j++r.reverse).toList=(x.toList.take i++y.toList.take j)++r.toList.reverse:=by
 rw[Jn,Jn,Qjz,Qjz,QcD]
theorem MH.dnA(m:MH c a b r i j)(hi:i=0):Out c a b (a.extract 0 i++b.extract 0 j++r.reverse):=by
 have pm:=m.pm;subst hi;refine⟨?_,by rw[Qb3];exact pm⟩;rw[Qb3,QuL,Qcw];exact m.hb
theorem MH.dnB(m:MH c a b r i j)(hj:j=0):Out c a b (a.extract 0 i++b.extract 0 j++r.reverse):=by
 have pm:=m.pm;subst hj;refine⟨?_,by rw[Qb3];exact pm⟩;rw[Qb3,QuL,JB];exact m.ha
theorem MH.fb(m:MH c a b r i j)(hj:j=1)(p1:∀k,k<a.size->le c (kx b 0) (kx a k)):Out c a b (b.extract 0 j++a.extract 0 i++r.reverse):=by
 refine⟨?_,?_⟩
 ·rw[Qb3];have g:=Je.mp m.hb;rw[Q0];refine Je.mpr ⟨g.1,m.ha,λu hu v hv=>?_⟩;rcases Jo.mp hv with z | z
  ·obtain⟨k,_,k2,k3,rfl⟩:=YK (t:=0) (by rw[Zn];exact hu);obtain⟨n,_,n2,n3,rfl⟩:=YK (t:=0) (by rw[Zn];exact z);rw[show k=0 by omega];exact p1 n n3
  ·exact g.2.2 u hu v z
 ·rw[Qb3];exact QaB (Y4 _ Qau) m.pm
end
section
variable{prog:Qy}{w:Jg}{A:Q5}{E:Value->Shared->Prop}{s:Shared}{a₀:Array Keyed}{κ:Yf}{c:Keyed->Keyed->Bool}
theorem Qi8{xs:Array Keyed}(sg:Sg c xs 0 xs.size):Pw c xs.toList:=ZL.mpr λx y hx hy hxy=>by
 rw[Qj] at hx hy;have e1:=QaJ hx;have e2:=QaJ hy;rw[Ql (by rw[Qj];exact hx)] at e1;rw[Ql (by rw[Qj];exact hy)] at e2;rw[Qv e1,Qv e2];exact sg x y (Qw _) (by omega) hy
theorem QhS{st:JW}{a b:Array Keyed}{Q:Array Keyed->JW->Prop}(hA:Asks prog w A s κ a₀ c)(hk:kindOf st=κ)(ma:∀p∈a.toList,p∈a₀.toList)(mb:∀p∈b.toList,p∈a₀.toList)(na:1<=a.size)(nb:1<=b.size)
  (sa:Sg c a 0 a.size)(sb:Sg c b 0 b.size)(p1:∀k,k<a.size->le c (kx b 0) (kx a k))(p2:∀k,k<b.size->le c (kx b k) (kx a (a.size - 1)))(h:∀z st',Sm st st'->Out c a b z->Q z st'):wpS (model prog w) A E s (Qf3 a b) Q st:=by
 rw[Qij]
 dsimp only
 refine Qf (QdP (wpAny_rule ⟨rfl,?_⟩));refine Qf (Q1 (by omega) ?_);have tk:∀xs:Array Keyed,xs.toList.take xs.size=xs.toList:=λxs=>Qah (by rw[Qj];exact Qi _)
 have m0:MH c a b #[] a.size b.size:=⟨by rw[tk];show Pw c (a.toList++[]);rw[JB];exact Qi8 sa,by rw[tk];show Pw c (b.toList++[]);rw[JB];exact Qi8 sb,by rw[tk,tk];show((a.toList++b.toList)++[]).Perm _;rw[JB]⟩;have m1:MH c a b #[kx a (a.size - 1)] (a.size - 1) b.size:=MH.puA m0 na (Qi _) λk _ hk=>p2 k hk
 by_cases z1:a.size - 1=0
 ·rw[if_pos (beq_iff_eq.mpr z1)];exact Qh (h _ _ (Sm.refl st) (m1.dnA z1))
 ·rw[if_neg (JK z1)];by_cases z2:b.size=1
  ·rw[if_pos (beq_iff_eq.mpr z2)];exact Qh (h _ _ (Sm.refl st) (m1.fb z2 p1))
  ·rw[if_neg (JK z2)];refine Qf (Qb7 ?_);refine Qf (Ye (JV (I:=λx z st'=>∃r i j mg,z=(none,i,j,r,mg)/\MH c a b r i j/\1<=i/\i<=a.size/\2<=j/\j<=b.size/\x+1+i+j<=a.size+b.size/\Sm st st')
    (Q:=λz st'=>∃o y,z=(some o,y)/\Out c a b o/\Sm st st') ?step ?fin ⟨_,_,_,_,rfl,m1,by omega,by omega,by omega,by omega,by omega,Sm.refl st⟩) ?post)
   case post=>
    rintro z st' ⟨o,y,rfl,ho,sm⟩;exact Qh (h o st' sm ho)
   case fin=>
    rintro z st' ⟨r,i,j,mg,rfl,m,i1,i2,j1,j2,x1,sm⟩;exfalso
    omega
   case step=>
    rintro x z st' _ hx ⟨r,i,j,mg,rfl,m,i1,i2,j1,j2,x1,sm⟩
    dsimp only
    refine Qf (Ye (JV (I:=λy z st2=>∃r i j p q,z=(none,i,j,r,p,q)/\MH c a b r i j/\1<=i/\i<=a.size/\2<=j/\j<=b.size/\x+1+y+i+j<=a.size+b.size/\Sm st st2)
     (Q:=λz st2=>(∃o y,z=(some o,y)/\Out c a b o/\Sm st st2)∨∃r i j p q,z=(none,i,j,r,p,q)/\MH c a b r i j/\1<=i/\i<=a.size/\2<=j/\j<=b.size/\x+2+i+j<=a.size+b.size/\Sm st st2) ?step1 ?fin1 ⟨r,i,j,0,0,rfl,m,i1,i2,j1,j2,by omega,sm⟩) ?post1)
    case fin1=>
     rintro z st2 ⟨r,i,j,p,q,rfl,m,i1,i2,j1,j2,x1,sm⟩;exact .inr ⟨r,i,j,p,q,rfl,m,i1,i2,j1,j2,by omega,sm⟩
    case step1=>
     rintro y z st2 _ hy ⟨r,i,j,p,q,rfl,m,i1,i2,j1,j2,x1,sm⟩
     dsimp only
     refine Qf (Q1 (by omega) ?_);refine Qf (Q1 (by omega) ?_);refine Qf (QgA hA (sm.kind.trans hk) (mb _ (Qeq (by omega))) (ma _ (Qeq (by omega))) ?_);cases e:c (kx b (j - 1)) (kx a (i - 1)) with
     |true=>
      dsimp only
      rw[if_pos rfl];refine Qf (Q1 (by omega) ?_);have m2:=MH.puA m i1 i2 λk k1 k2=>hA.ord.tr (sb k (j - 1) (Qw _) (by omega) (by omega)) (hA.ord.lt_le e)
      by_cases z3:i - 1=0
      ·rw[if_pos (beq_iff_eq.mpr z3)];exact Qh (.inl ⟨_,_,rfl,m2.dnA z3,sm⟩)
      ·rw[if_neg (JK z3)];split
       ·exact Qh (.inr ⟨_,_,_,_,_,rfl,m2,by omega,by omega,by omega,by omega,by omega,sm⟩)
       ·exact Qh ⟨_,_,_,_,_,rfl,m2,by omega,by omega,by omega,by omega,by omega,sm⟩
     |false=>
      dsimp only
      rw[if_neg (by decide)];refine Qf (Q1 (by omega) ?_);have m2:=MH.puB m (by omega) j2 λk k1 k2=>hA.ord.tr (sa k (i - 1) (Qw _) (by omega) (by omega)) e
      by_cases z3:j - 1=1
      ·rw[if_pos (beq_iff_eq.mpr z3)];exact Qh (.inl ⟨_,_,rfl,m2.fb z3 p1,sm⟩)
      ·rw[if_neg (JK z3)];split
       ·exact Qh (.inr ⟨_,_,_,_,_,rfl,m2,by omega,by omega,by omega,by omega,by omega,sm⟩)
       ·exact Qh ⟨_,_,_,_,_,rfl,m2,by omega,by omega,by omega,by omega,by omega,sm⟩
    case post1=>
     rintro z st2 (⟨o,y,rfl,ho,sm⟩ | ⟨r,i,j,p,q,rfl,m,i1,i2,j1,j2,x1,sm⟩)
     ·exact Qh ⟨o,_,rfl,ho,sm⟩
     ·dsimp only
      refine Qf (QdP (wpAny_rule ⟨rfl,?_⟩));refine Qf (Ye (JV (I:=λy z st3=>∃r i j mg p q,z=(none,i,j,r,mg,p,q)/\MH c a b r i j/\1<=i/\i<=a.size/\2<=j/\j<=b.size/\x+2+i+j<=a.size+b.size/\Sm st st3)
       (Q:=λz st3=>(∃o y,z=(some o,y)/\Out c a b o/\Sm st st3)∨∃r i j mg p q,z=(none,i,j,r,mg,p,q)/\MH c a b r i j/\1<=i/\i<=a.size/\2<=j/\j<=b.size/\x+2+i+j<=a.size+b.size/\Sm st st3) ?step2 ?fin2 ⟨r,i,j,_,p,q,rfl,m,i1,i2,j1,j2,by omega,sm⟩) ?post2)
      case fin2=>
       rintro z st3 ⟨r,i,j,mg,p,q,rfl,m,i1,i2,j1,j2,x1,sm⟩;exact .inr ⟨r,i,j,mg,p,q,rfl,m,i1,i2,j1,j2,by omega,sm⟩
      case post2=>
       rintro z st3 (⟨o,y,rfl,ho,sm⟩ | ⟨r,i,j,mg,p,q,rfl,m,i1,i2,j1,j2,x1,sm⟩)
       ·exact Qh ⟨o,_,rfl,ho,sm⟩
       ·dsimp only
        exact Qf (QeT sm λst4 sm4=>Qh ⟨_,_,_,_,rfl,m,i1,i2,j1,j2,by omega,sm4⟩)
      case step2=>
       rintro y z st3 _ hy ⟨r,i,j,mg,p,q,rfl,m,i1,i2,j1,j2,x1,sm⟩
       dsimp only
       by_cases z0:mg > 1
       ·rw[if_pos z0];refine Qf (QeT sm λst4 sm4=>?_);refine Qf (Q1 (by omega) ?_);refine Qf (Zp hA (sm4.kind.trans hk) (mb _ (Qeq (by omega))) ma (by omega) (by omega) (λx y x1 xy y1=>sa x y (Qw _) xy (by omega)) λt tn b1 b2=>?_);have lowA:∀n,n<t->le c (kx a n) (kx b (j - 1)):=λn hn=>by
         have:(!c (kx b (j - 1)) (kx a (0+n)))=true:=b1 n hn;rw[ZA] at this
         simpa using this
        have b2:∀n,t<=n->n<i->c (kx b (j - 1)) (kx a n)=true:=λn h1 h2=>by
         have:(!c (kx b (j - 1)) (kx a (0+n)))=false:=b2 n h1 h2;rw[ZA] at this
         simpa using this
        dsimp only
        by_cases zk:i - t > 0
        ·rw[if_pos zk];have m2:=MH.chA (t:=t) m tn λn n1 n2 _ k k1 k2=>hA.ord.tr (sb k (j - 1) (Qw _) (by omega) (by omega)) (hA.ord.lt_le (b2 n n1 n2))
         by_cases z2:t=0
         ·rw[if_pos (beq_iff_eq.mpr z2)];exact Qh (.inl ⟨_,_,rfl,m2.dnA z2,sm4⟩)
         ·rw[if_neg (JK z2)];refine Qf (Q1 (by omega) ?_);have m5:=MH.puB m2 (by omega) (by omega) λk k1 k2=>lowA k k1
          by_cases z5:j - 1=1
          ·rw[if_pos (beq_iff_eq.mpr z5)];exact Qh (.inl ⟨_,_,rfl,m5.fb z5 p1,sm4⟩)
          ·rw[if_neg (JK z5)];refine Qf (Q1 (by omega) ?_);refine Qf (Zp hA (sm4.kind.trans hk) (ma _ (Qeq (by omega))) mb (by omega) (by omega) (λx y x1 xy y1=>sb x y (Qw _) xy (by omega)) λt2 t2n b1 b2=>?_);have b1:∀n,n<t2->c (kx b n) (kx a (t - 1))=true:=λn hn=>by have:=b1 n hn;rwa [ZA] at this
           have b2:∀n,t2<=n->n<j - 1->c (kx b n) (kx a (t - 1))=false:=λn h1 h2=>by have:=b2 n h1 h2;rwa [ZA] at this
           dsimp only
           by_cases zk2:j - 1 - t2 > 0
           ·rw[if_pos zk2];have m6:=MH.chB (t:=t2) m5 t2n λn n1 n2 _ k k1 k2=>hA.ord.tr (sa k (t - 1) (Qw _) (by omega) (by omega)) (b2 n n1 n2)
            by_cases z6:t2=1
            ·rw[if_pos (beq_iff_eq.mpr z6)];exact Qh (.inl ⟨_,_,rfl,m6.fb z6 p1,sm4⟩)
            ·rw[if_neg (JK z6)];by_cases z7:t2=0
             ·rw[if_pos (beq_iff_eq.mpr z7)];exact Qh (.inl ⟨_,_,rfl,m6.dnB z7,sm4⟩)
             ·rw[if_neg (JK z7)];refine Qf (Q1 (by omega) ?_);have m9:=MH.puA m6 (by omega) (by omega) λk k1 k2=>hA.ord.lt_le (b1 k k1)
              by_cases z9:t - 1=0
              ·rw[if_pos (beq_iff_eq.mpr z9)];exact Qh (.inl ⟨_,_,rfl,m9.dnA z9,sm4⟩)
              ·rw[if_neg (JK z9)];split
               ·exact Qh (.inr ⟨_,_,_,_,_,_,rfl,m9,by omega,by omega,by omega,by omega,by omega,sm4⟩)
               ·exact Qh ⟨_,_,_,_,_,_,rfl,m9,by omega,by omega,by omega,by omega,by omega,sm4⟩
           ·rw[if_neg zk2];have zt:t2=j - 1:=by omega
            refine Qf (Q1 (by omega) ?_);have m9:=MH.puA m5 (by omega) (by omega) λk k1 k2=>hA.ord.lt_le (b1 k (by omega))
            by_cases z9:t - 1=0
            ·rw[if_pos (beq_iff_eq.mpr z9)];exact Qh (.inl ⟨_,_,rfl,m9.dnA z9,sm4⟩)
            ·rw[if_neg (JK z9)];split
             ·exact Qh (.inr ⟨_,_,_,_,_,_,rfl,m9,by omega,by omega,by omega,by omega,by omega,sm4⟩)
             ·exact Qh ⟨_,_,_,_,_,_,rfl,m9,by omega,by omega,by omega,by omega,by omega,sm4⟩
        ·rw[if_neg zk];have zt:t=i:=by omega
         subst zt;refine Qf (Q1 (by omega) ?_);have m5:=MH.puB m (by omega) (by omega) λk k1 k2=>lowA k k1
         by_cases z5:j - 1=1
         ·rw[if_pos (beq_iff_eq.mpr z5)];exact Qh (.inl ⟨_,_,rfl,m5.fb z5 p1,sm4⟩)
         ·rw[if_neg (JK z5)];refine Qf (Q1 (by omega) ?_);refine Qf (Zp hA (sm4.kind.trans hk) (ma _ (Qeq (by omega))) mb (by omega) (by omega) (λx y x1 xy y1=>sb x y (Qw _) xy (by omega)) λt2 t2n b1 b2=>?_);have b1:∀n,n<t2->c (kx b n) (kx a (t - 1))=true:=λn hn=>by have:=b1 n hn;rwa [ZA] at this
          have b2:∀n,t2<=n->n<j - 1->c (kx b n) (kx a (t - 1))=false:=λn h1 h2=>by have:=b2 n h1 h2;rwa [ZA] at this
          dsimp only
          by_cases zk2:j - 1 - t2 > 0
          ·rw[if_pos zk2];have m6:=MH.chB (t:=t2) m5 t2n λn n1 n2 _ k k1 k2=>hA.ord.tr (sa k (t - 1) (Qw _) (by omega) (by omega)) (b2 n n1 n2)
           by_cases z6:t2=1
           ·rw[if_pos (beq_iff_eq.mpr z6)];exact Qh (.inl ⟨_,_,rfl,m6.fb z6 p1,sm4⟩)
           ·rw[if_neg (JK z6)];by_cases z7:t2=0
            ·rw[if_pos (beq_iff_eq.mpr z7)];exact Qh (.inl ⟨_,_,rfl,m6.dnB z7,sm4⟩)
            ·rw[if_neg (JK z7)];refine Qf (Q1 (by omega) ?_);have m9:=MH.puA m6 (by omega) (by omega) λk k1 k2=>hA.ord.lt_le (b1 k k1)
             by_cases z9:t - 1=0
             ·rw[if_pos (beq_iff_eq.mpr z9)];exact Qh (.inl ⟨_,_,rfl,m9.dnA z9,sm4⟩)
             ·rw[if_neg (JK z9)];split
              ·exact Qh (.inr ⟨_,_,_,_,_,_,rfl,m9,by omega,by omega,by omega,by omega,by omega,sm4⟩)
              ·exact Qh ⟨_,_,_,_,_,_,rfl,m9,by omega,by omega,by omega,by omega,by omega,sm4⟩
          ·rw[if_neg zk2];have zt:t2=j - 1:=by omega
           refine Qf (Q1 (by omega) ?_);have m9:=MH.puA m5 (by omega) (by omega) λk k1 k2=>hA.ord.lt_le (b1 k (by omega))
           by_cases z9:t - 1=0
           ·rw[if_pos (beq_iff_eq.mpr z9)];exact Qh (.inl ⟨_,_,rfl,m9.dnA z9,sm4⟩)
           ·rw[if_neg (JK z9)];split
            ·exact Qh (.inr ⟨_,_,_,_,_,_,rfl,m9,by omega,by omega,by omega,by omega,by omega,sm4⟩)
            ·exact Qh ⟨_,_,_,_,_,_,rfl,m9,by omega,by omega,by omega,by omega,by omega,sm4⟩
       ·rw[if_neg z0];refine Qf (QeT sm λst4 sm4=>?_);refine Qf (Q1 (by omega) ?_);refine Qf (Zp hA (sm4.kind.trans hk) (mb _ (Qeq (by omega))) ma (by omega) (by omega) (λx y x1 xy y1=>sa x y (Qw _) xy (by omega)) λt tn b1 b2=>?_);have lowA:∀n,n<t->le c (kx a n) (kx b (j - 1)):=λn hn=>by
         have:(!c (kx b (j - 1)) (kx a (0+n)))=true:=b1 n hn;rw[ZA] at this
         simpa using this
        have b2:∀n,t<=n->n<i->c (kx b (j - 1)) (kx a n)=true:=λn h1 h2=>by
         have:(!c (kx b (j - 1)) (kx a (0+n)))=false:=b2 n h1 h2;rw[ZA] at this
         simpa using this
        dsimp only
        by_cases zk:i - t > 0
        ·rw[if_pos zk];have m2:=MH.chA (t:=t) m tn λn n1 n2 _ k k1 k2=>hA.ord.tr (sb k (j - 1) (Qw _) (by omega) (by omega)) (hA.ord.lt_le (b2 n n1 n2))
         by_cases z2:t=0
         ·rw[if_pos (beq_iff_eq.mpr z2)];exact Qh (.inl ⟨_,_,rfl,m2.dnA z2,sm4⟩)
         ·rw[if_neg (JK z2)];refine Qf (Q1 (by omega) ?_);have m5:=MH.puB m2 (by omega) (by omega) λk k1 k2=>lowA k k1
          by_cases z5:j - 1=1
          ·rw[if_pos (beq_iff_eq.mpr z5)];exact Qh (.inl ⟨_,_,rfl,m5.fb z5 p1,sm4⟩)
          ·rw[if_neg (JK z5)];refine Qf (Q1 (by omega) ?_);refine Qf (Zp hA (sm4.kind.trans hk) (ma _ (Qeq (by omega))) mb (by omega) (by omega) (λx y x1 xy y1=>sb x y (Qw _) xy (by omega)) λt2 t2n b1 b2=>?_);have b1:∀n,n<t2->c (kx b n) (kx a (t - 1))=true:=λn hn=>by have:=b1 n hn;rwa [ZA] at this
           have b2:∀n,t2<=n->n<j - 1->c (kx b n) (kx a (t - 1))=false:=λn h1 h2=>by have:=b2 n h1 h2;rwa [ZA] at this
           dsimp only
           by_cases zk2:j - 1 - t2 > 0
           ·rw[if_pos zk2];have m6:=MH.chB (t:=t2) m5 t2n λn n1 n2 _ k k1 k2=>hA.ord.tr (sa k (t - 1) (Qw _) (by omega) (by omega)) (b2 n n1 n2)
            by_cases z6:t2=1
            ·rw[if_pos (beq_iff_eq.mpr z6)];exact Qh (.inl ⟨_,_,rfl,m6.fb z6 p1,sm4⟩)
            ·rw[if_neg (JK z6)];by_cases z7:t2=0
             ·rw[if_pos (beq_iff_eq.mpr z7)];exact Qh (.inl ⟨_,_,rfl,m6.dnB z7,sm4⟩)
             ·rw[if_neg (JK z7)];refine Qf (Q1 (by omega) ?_);have m9:=MH.puA m6 (by omega) (by omega) λk k1 k2=>hA.ord.lt_le (b1 k k1)
              by_cases z9:t - 1=0
              ·rw[if_pos (beq_iff_eq.mpr z9)];exact Qh (.inl ⟨_,_,rfl,m9.dnA z9,sm4⟩)
              ·rw[if_neg (JK z9)];split
               ·exact Qh (.inr ⟨_,_,_,_,_,_,rfl,m9,by omega,by omega,by omega,by omega,by omega,sm4⟩)
               ·exact Qh ⟨_,_,_,_,_,_,rfl,m9,by omega,by omega,by omega,by omega,by omega,sm4⟩
           ·rw[if_neg zk2];have zt:t2=j - 1:=by omega
            refine Qf (Q1 (by omega) ?_);have m9:=MH.puA m5 (by omega) (by omega) λk k1 k2=>hA.ord.lt_le (b1 k (by omega))
            by_cases z9:t - 1=0
            ·rw[if_pos (beq_iff_eq.mpr z9)];exact Qh (.inl ⟨_,_,rfl,m9.dnA z9,sm4⟩)
            ·rw[if_neg (JK z9)];split
             ·exact Qh (.inr ⟨_,_,_,_,_,_,rfl,m9,by omega,by omega,by omega,by omega,by omega,sm4⟩)
             ·exact Qh ⟨_,_,_,_,_,_,rfl,m9,by omega,by omega,by omega,by omega,by omega,sm4⟩
        ·rw[if_neg zk];have zt:t=i:=by omega
         subst zt;refine Qf (Q1 (by omega) ?_);have m5:=MH.puB m (by omega) (by omega) λk k1 k2=>lowA k k1
         by_cases z5:j - 1=1
         ·rw[if_pos (beq_iff_eq.mpr z5)];exact Qh (.inl ⟨_,_,rfl,m5.fb z5 p1,sm4⟩)
         ·rw[if_neg (JK z5)];refine Qf (Q1 (by omega) ?_);refine Qf (Zp hA (sm4.kind.trans hk) (ma _ (Qeq (by omega))) mb (by omega) (by omega) (λx y x1 xy y1=>sb x y (Qw _) xy (by omega)) λt2 t2n b1 b2=>?_);have b1:∀n,n<t2->c (kx b n) (kx a (t - 1))=true:=λn hn=>by have:=b1 n hn;rwa [ZA] at this
          have b2:∀n,t2<=n->n<j - 1->c (kx b n) (kx a (t - 1))=false:=λn h1 h2=>by have:=b2 n h1 h2;rwa [ZA] at this
          dsimp only
          by_cases zk2:j - 1 - t2 > 0
          ·rw[if_pos zk2];have m6:=MH.chB (t:=t2) m5 t2n λn n1 n2 _ k k1 k2=>hA.ord.tr (sa k (t - 1) (Qw _) (by omega) (by omega)) (b2 n n1 n2)
           by_cases z6:t2=1
           ·rw[if_pos (beq_iff_eq.mpr z6)];exact Qh (.inl ⟨_,_,rfl,m6.fb z6 p1,sm4⟩)
           ·rw[if_neg (JK z6)];by_cases z7:t2=0
            ·rw[if_pos (beq_iff_eq.mpr z7)];exact Qh (.inl ⟨_,_,rfl,m6.dnB z7,sm4⟩)
            ·rw[if_neg (JK z7)];refine Qf (Q1 (by omega) ?_);have m9:=MH.puA m6 (by omega) (by omega) λk k1 k2=>hA.ord.lt_le (b1 k k1)
             by_cases z9:t - 1=0
             ·rw[if_pos (beq_iff_eq.mpr z9)];exact Qh (.inl ⟨_,_,rfl,m9.dnA z9,sm4⟩)
             ·rw[if_neg (JK z9)];split
              ·exact Qh (.inr ⟨_,_,_,_,_,_,rfl,m9,by omega,by omega,by omega,by omega,by omega,sm4⟩)
              ·exact Qh ⟨_,_,_,_,_,_,rfl,m9,by omega,by omega,by omega,by omega,by omega,sm4⟩
          ·rw[if_neg zk2];have zt:t2=j - 1:=by omega
           refine Qf (Q1 (by omega) ?_);have m9:=MH.puA m5 (by omega) (by omega) λk k1 k2=>hA.ord.lt_le (b1 k (by omega))
           by_cases z9:t - 1=0
           ·rw[if_pos (beq_iff_eq.mpr z9)];exact Qh (.inl ⟨_,_,rfl,m9.dnA z9,sm4⟩)
           ·rw[if_neg (JK z9)];split
            ·exact Qh (.inr ⟨_,_,_,_,_,_,rfl,m9,by omega,by omega,by omega,by omega,by omega,sm4⟩)
            ·exact Qh ⟨_,_,_,_,_,_,rfl,m9,by omega,by omega,by omega,by omega,by omega,sm4⟩
end
theorem Qik(i:Nat):mergeAt' i=(do
 let z <- get
 let (some (u,n,pw),some (v,m,_)):=((pendingOf z)[i]?,(pendingOf z)[i+1]?) | unsupported "internal:list.sort.pending"
 set (setPending z (((pendingOf z).setIfInBounds i (u,n+m,pw)).eraseIdxIfInBounds (i+1)))
 let some k <- QbQ false (<- elem' (arrOf z) v) (arrOf z) u n 0 | return false
 let (u,n):=(u+k,n - k)
 if n == 0 then return true
 let some m <- QbQ true (<- elem' (arrOf z) (u+n - 1)) (arrOf z) v m (m - 1) | return false
 if m == 0 then return true
 let x:=(arrOf z).extract u v
 let y:=(arrOf z).extract v (v+m)
 let mm <- if n<=m then Qf2 x y else Qf3 x y
 modify λz=>setArr z (mm.toList.zipIdx.foldl (λa (p,j)=>a.setIfInBounds (u+j) p) (arrOf z))
 return (failedOf (<- get)).isNone):=rfl
theorem Qse{σ:Type}{M:QjY}{A:Q5}{E:Value->Shared->Prop}{s:Shared}{Q:PUnit->σ->Prop}{st st':σ}(h:Q ⟨⟩ st'):wpS M A E s (set st':StateT σ Sem PUnit) Q st:=by
 unfold wpS;rw[StateT.run_set];exact Qe ⟨rfl,h⟩
theorem Qjr(u:Nat):∀(z:List Keyed)(m:Nat)(xs:Array Keyed),u+m+z.length<=xs.size->((z.zipIdx m).foldl (λa (p:Keyed×Nat)=>a.setIfInBounds (u+p.2) p.1) xs).toList=xs.toList.take (u+m)++z++xs.toList.drop (u+m+z.length)
 |[],m,xs,_=>by
  show xs.toList=_;rw[JB,Qa3,QeR,JL]
 |p::z,m,xs,h=>by
  rw[QJ] at h;rw[QeS,Qgo];have ih:=Qjr u z (m+1) (xs.setIfInBounds (u+m) p) (by rw[Array.size_setIfInBounds];omega);rw[ih,Qgr,List.set_eq_take_append_cons_drop,if_pos (by rw[Qj];omega)];have lt:(xs.toList.take (u+m)).length=u+m:=by rw[J8,Qj];omega
  have e1:(xs.toList.take (u+m)++p::xs.toList.drop (u+m+1)).take (u+(m+1))=xs.toList.take (u+m)++[p]:=by
   rw[List.take_append,lt,Qah (by omega),show u+(m+1) - (u+m)=1 by omega];rfl
  have e2:(xs.toList.take (u+m)++p::xs.toList.drop (u+m+1)).drop (u+(m+1)+z.length)=xs.toList.drop (u+m+(p::z).length):=by
   rw[List.drop_append,lt,Yd (by omega),Qcw,show u+(m+1)+z.length - (u+m)=z.length+1 by omega,List.drop_succ_cons,QhH,QJ]
   congr 1
   omega
  rw[e1,e2,Q0,Q0,Q0];rfl
theorem Qhc{xs ys:Array Keyed}{i j:Nat}(h:xs.toList[i]? = ys.toList[j]?):kx xs i=kx ys j:=by
 rw[Zr,Zr] at h;exact Qim h
theorem QrG{xs:Array Keyed}{u v t:Nat}(h:u+t<v)(hv:v<=xs.size):kx (xs.extract u v) t=kx xs (u+t):=by
 refine Qim ?_
 rw[Array.getElem?_extract,if_pos (by omega)]
section
variable{c:Keyed->Keyed->Bool}
structure Laid (c:Keyed->Keyed->Bool) (xs ws z:Array Keyed) (lo hi:Nat):Prop where
 size:ws.size=xs.size
 perm:ws.Perm xs
 out:∀n,n<lo∨hi<=n->kx ws n=kx xs n
 mid:∀n,lo<=n->n<hi->kx ws n=kx z (n - lo)
 zs:z.size=hi - lo
 of_:∀n,lo<=n->n<hi->∃m,lo<=m/\m<hi/\kx ws n=kx xs m
theorem QtR{xs z:Array Keyed}{lo v hi:Nat}(h1:lo<=v)(h2:v<=hi)(h3:hi<=xs.size)(o:Out c (xs.extract lo v) (xs.extract v hi) z):Laid c xs (z.toList.zipIdx.foldl (λa (p:Keyed×Nat)=>a.setIfInBounds (lo+p.2) p.1) xs) z lo hi:=by
 have ln:z.toList.length=hi - lo:=by
  rw[o.2.length_eq,Qu,Qj,Qj,Qbd,Qbd];omega
 have zs:z.size=hi - lo:=by rw[<- ln,Qj]
 have lb:=Qjr lo z.toList 0 xs (by omega);rw[QeR,ln,show lo+(hi - lo)=hi by omega] at lb;generalize hw:z.toList.zipIdx.foldl (λa (p:Keyed×Nat)=>a.setIfInBounds (lo+p.2) p.1) xs=ws;rw[show z.toList.zipIdx 0=z.toList.zipIdx from rfl,hw] at lb;have lt:(xs.toList.take lo).length=lo:=by rw[J8,Qj];omega
 have mid0:xs.toList=xs.toList.take lo++((xs.extract lo v).toList++(xs.extract v hi).toList)++xs.toList.drop hi:=by
  rw[QaK,QaK];have e1:xs.toList.take hi=xs.toList.take v++(xs.toList.take hi).drop v:=by
   have:=(JL v (xs.toList.take hi)).symm
   rwa [Qc3,Yw h2] at this
  have e2:xs.toList.take v=xs.toList.take lo++(xs.toList.take v).drop lo:=by
   have:=(JL lo (xs.toList.take v)).symm
   rwa [Qc3,Yw h1] at this
  rw[<- Q0,<- e2,<- e1,JL]
 have szl:ws.toList.length=xs.toList.length:=by
  rw[lb,Qu,Qu,lt,ln,QaN,Qj];omega
 have md:∀n,lo<=n->n<hi->kx ws n=kx z (n - lo):=λn n1 n2=>by
  refine Qhc ?_
  rw[lb,ZM (by rw[Qu,lt,ln];omega),J3 (by rw[lt];exact n1),lt]
 refine⟨by rw[<- Qj,szl,Qj],?_,λn hn=>?_,md,zs,λn n1 n2=>?_⟩
 ·refine YE.mpr ?_
  rw[lb]
  conv=>rhs;rw[mid0]
  exact Y4 _ (Qac _ o.2)
 ·refine Qhc ?_
  rw[lb];rcases hn with hn | hn
  ·rw[Q0,ZM (by rw[lt];exact hn),QdS,if_pos hn]
  ·rw[J3 (by rw[Qu,lt,ln];omega),Qu,lt,ln,Qbf]
   congr 1
   omega
 ·have hz:n - lo<z.size:=by omega
  have hm:=o.2.mem_iff.mp (Qeq hz);rw[md n n1 n2];rcases Jo.mp hm with q | q
  ·rw[QaK] at q;obtain⟨m,m1,m2,_,e⟩:=YK q;exact⟨m,m1,by omega,e⟩
  ·rw[QaK] at q;obtain⟨m,m1,m2,_,e⟩:=YK q;exact⟨m,by omega,m2,e⟩
end
section
variable{prog:Qy}{w:Jg}{A:Q5}{E:Value->Shared->Prop}{s:Shared}{a₀:Array Keyed}{κ:Yf}{c:Keyed->Keyed->Bool}
structure Mg (κ:Yf) (a₀:Array Keyed) (c:Keyed->Keyed->Bool) (st st':JW) (i u v hi pn pw:Nat):Prop where
 sb:SB κ a₀ st'
 pend:pendingOf st'=((pendingOf st).setIfInBounds i (u,pn,pw)).eraseIdxIfInBounds (i+1)
 out:∀n,n<u∨hi<=n->kx (arrOf st') n=kx (arrOf st) n
 sg:Sg c (arrOf st') u hi
theorem QhT{st:JW}{i u n pw m pw2:Nat}{Q:Bool->JW->Prop}(hA:Asks prog w A s κ a₀ c)(hB:SB κ a₀ st)(e1:(pendingOf st)[i]? = some (u,n,pw))(e2:(pendingOf st)[i+1]? = some (u+n,m,pw2))(n1:1<=n)(m1:1<=m)(hz:u+n+m<=a₀.size)
  (s1:Sg c (arrOf st) u (u+n))(s2:Sg c (arrOf st) (u+n) (u+n+m))(h:∀st',Mg κ a₀ c st st' i u (u+n) (u+n+m) (n+m) pw->Q true st'):wpS (model prog w) A E s (mergeAt' i) Q st:=by
 have sz:=hB.size;have mem:∀p∈(arrOf st).toList,p∈a₀.toList:=λp hp=>hB.mem hp
 have memE:∀{x y:Nat}{p:Keyed},p∈((arrOf st).extract x y).toList->p∈a₀.toList:=λ{x y p} hp=>mem p (by rw[QaK] at hp;exact Qk5 (Qk6 hp))
 rw[Qik];refine Qf (Qb7 ?_);rw[e1,e2]
 dsimp only
 refine Qf (Qse ?_);refine Qf (Q1 (by omega) ?_);refine Qf (Zp hA hB.kind (mem _ (Qeq (by omega))) mem (by omega) (by omega) s1 λk kn b1 b2=>?_);have b1:∀t,t<k->le c (kx (arrOf st) (u+t)) (kx (arrOf st) (u+n)):=λt ht=>by
  have:(!c (kx (arrOf st) (u+n)) (kx (arrOf st) (u+t)))=true:=b1 t ht
  simpa using this
 have b2:∀t,k<=t->t<n->c (kx (arrOf st) (u+n)) (kx (arrOf st) (u+t))=true:=λt h1 h2=>by
  have:(!c (kx (arrOf st) (u+n)) (kx (arrOf st) (u+t)))=false:=b2 t h1 h2
  simpa using this
 dsimp only
 by_cases z1:n - k=0
 ·rw[if_pos (beq_iff_eq.mpr z1)];refine Qh (h _ ⟨⟨hB.perm,hB.kind,hB.failed⟩,rfl,λ_ _=>rfl,λx y x1 xy y1=>?_⟩);show le c (kx (arrOf st) x) (kx (arrOf st) y);by_cases zx:x<u+n
  ·by_cases zy:y<u+n
   ·exact s1 x y x1 xy zy
   ·have:=b1 (x - u) (by omega);rw[show u+(x - u)=x by omega] at this;exact hA.ord.tr this (s2 (u+n) y (Qi _) (by omega) y1)
  ·exact s2 x y (by omega) xy y1
 ·rw[if_neg (JK z1)];have hl:u+k+(n - k) - 1=u+n - 1:=by omega
  rw[hl];refine Qf (Q1 (by omega) ?_);refine Qf (Zp hA hB.kind (mem _ (Qeq (by omega))) mem (by omega) (by omega) s2 λm2 mn d1 d2=>?_);have d1:∀t,t<m2->c (kx (arrOf st) (u+n+t)) (kx (arrOf st) (u+n - 1))=true:=λt ht=>d1 t ht
  have d2:∀t,m2<=t->t<m->le c (kx (arrOf st) (u+n - 1)) (kx (arrOf st) (u+n+t)):=λt h1 h2=>d2 t h1 h2
  dsimp only
  by_cases z2:m2=0
  ·rw[if_pos (beq_iff_eq.mpr z2)];refine Qh (h _ ⟨⟨hB.perm,hB.kind,hB.failed⟩,rfl,λ_ _=>rfl,λx y x1 xy y1=>?_⟩);show le c (kx (arrOf st) x) (kx (arrOf st) y);by_cases zx:x<u+n
   ·by_cases zy:y<u+n
    ·exact s1 x y x1 xy zy
    ·have:=d2 (y - (u+n)) (by omega) (by omega);rw[show u+n+(y - (u+n))=y by omega] at this;exact hA.ord.tr (s1 x (u+n - 1) x1 (by omega) (by omega)) this
   ·exact s2 x y (by omega) xy y1
  ·rw[if_neg (JK z2)];have ex:∀t,t<n - k->kx ((arrOf st).extract (u+k) (u+n)) t=kx (arrOf st) (u+k+t):=λt ht=>QrG (by omega) (by omega)
   have ey:∀t,t<m2->kx ((arrOf st).extract (u+n) (u+n+m2)) t=kx (arrOf st) (u+n+t):=λt ht=>QrG (by omega) (by omega)
   have sx:((arrOf st).extract (u+k) (u+n)).size=n - k:=by rw[Qbd];omega
   have sy:((arrOf st).extract (u+n) (u+n+m2)).size=m2:=by rw[Qbd];omega
   have fin:∀(z:Array Keyed)(st':JW),Sm (setPending st (((pendingOf st).setIfInBounds i (u,n+m,pw)).eraseIdxIfInBounds (i+1))) st'->Out c ((arrOf st).extract (u+k) (u+n)) ((arrOf st).extract (u+n) (u+n+m2)) z ->
     wpS (model prog w) A E s (do
      modify λx=>setArr x (z.toList.zipIdx.foldl (λa (p,j)=>a.setIfInBounds (u+k+j) p) (arrOf x))
      return (failedOf (<- get)).isNone) Q st':=λz st' sm o=>by
    refine Qf (Qaf (Qf (Qb7 ?_)));have fe:failedOf st'=none:=sm.failed.trans hB.failed;have ae:arrOf st'=arrOf st:=sm.arr;have L:=QtR (c:=c) (xs:=arrOf st) (z:=z) (lo:=u+k) (v:=u+n) (hi:=u+n+m2) (by omega) (by omega) (by omega) o;refine Qh ?_
    show Q ((failedOf st').isNone) _;rw[fe,ae];refine h _ ⟨⟨L.perm.trans hB.perm,sm.kind.trans hB.kind,fe⟩,sm.pend,λx hx=>L.out x (by omega),λx y x1 xy y1=>?_⟩;generalize z.toList.zipIdx.foldl (λa (p:Keyed×Nat)=>a.setIfInBounds (u+k+p.2) p.1) (arrOf st)=ws at L;show le c (kx ws x) (kx ws y);have a0:∀x,u<=x->x<u+k->le c (kx (arrOf st) x) (kx (arrOf st) (u+n)):=λx g1 g2=>by have:=b1 (x - u) (by omega);rwa [show u+(x - u)=x by omega] at this
    have b9:∀y,u+n+m2<=y->y<u+n+m->le c (kx (arrOf st) (u+n - 1)) (kx (arrOf st) y):=λy g1 g2=>by have:=d2 (y - (u+n)) (by omega) (by omega);rwa [show u+n+(y - (u+n))=y by omega] at this
    by_cases zx:x<u+k
    ·rw[L.out x (.inl zx)];by_cases zy:y<u+k
     ·rw[L.out y (.inl zy)];exact s1 x y x1 xy (by omega)
     ·by_cases zy2:y<u+n+m2
      ·obtain⟨q,q1,q2,qe⟩:=L.of_ y (by omega) zy2;rw[qe];by_cases zq:q<u+n
       ·exact s1 x q x1 (by omega) zq
       ·exact hA.ord.tr (a0 x x1 zx) (s2 (u+n) q (Qi _) (by omega) (by omega))
      ·rw[L.out y (.inr (by omega))];exact hA.ord.tr (a0 x x1 zx) (s2 (u+n) y (Qi _) (by omega) y1)
    ·by_cases zx2:x<u+n+m2
     ·by_cases zy2:y<u+n+m2
      ·rw[L.mid x (by omega) zx2,L.mid y (by omega) zy2];by_cases xe:x=y
       ·subst xe;exact hA.ord.irr _
       ·have g:=ZL.mp o.1 (x - (u+k)) (y - (u+k)) (by rw[Qj,L.zs];omega) (by rw[Qj,L.zs];omega) (by omega);have k1:=QaJ (xs:=z) (i:=x - (u+k)) (by rw[L.zs];omega);have k2:=QaJ (xs:=z) (i:=y - (u+k)) (by rw[L.zs];omega);rw[Ql (by rw[Qj,L.zs];omega)] at k1 k2;rw[Qv k1,Qv k2] at g;exact g
      ·rw[L.out y (.inr (by omega))];obtain⟨q,q1,q2,qe⟩:=L.of_ x (by omega) zx2;rw[qe];by_cases zq:q<u+n
       ·exact hA.ord.tr (s1 q (u+n - 1) (by omega) (by omega) (by omega)) (b9 y (by omega) y1)
       ·exact s2 q y (by omega) (by omega) y1
     ·rw[L.out x (.inr (by omega)),L.out y (.inr (by omega))];exact s2 x y (by omega) xy y1
   have hsx:Sg c ((arrOf st).extract (u+k) (u+n)) 0 ((arrOf st).extract (u+k) (u+n)).size:=λx y _ xy y1=>by
    rw[sx] at y1;rw[ex x (by omega),ex y y1];exact s1 _ _ (by omega) (by omega) (by omega)
   have hsy:Sg c ((arrOf st).extract (u+n) (u+n+m2)) 0 ((arrOf st).extract (u+n) (u+n+m2)).size:=λx y _ xy y1=>by
    rw[sy] at y1;rw[ey x (by omega),ey y y1];exact s2 _ _ (by omega) (by omega) (by omega)
   have hp1:∀t,t<((arrOf st).extract (u+k) (u+n)).size->le c (kx ((arrOf st).extract (u+n) (u+n+m2)) 0) (kx ((arrOf st).extract (u+k) (u+n)) t):=λt ht=>by
    rw[sx] at ht;rw[ey 0 (by omega),ex t ht,QeR];have:=b2 (k+t) (by omega) (by omega);rw[show u+(k+t)=u+k+t by omega] at this;exact hA.ord.lt_le this
   have hp2:∀t,t<((arrOf st).extract (u+n) (u+n+m2)).size->le c (kx ((arrOf st).extract (u+n) (u+n+m2)) t) (kx ((arrOf st).extract (u+k) (u+n)) (((arrOf st).extract (u+k) (u+n)).size - 1)):=λt ht=>by
    rw[sy] at ht;rw[sx,ey t ht,ex (n - k - 1) (by omega),show u+k+(n - k - 1)=u+n - 1 by omega];exact hA.ord.lt_le (d1 t ht)
   split
   ·exact Qf (QhR hA hB.kind (λp hp=>memE hp) (λp hp=>memE hp) (by rw[sx];omega) (by rw[sy];omega) hsx hsy hp1 hp2 λz st' sm o=>fin z st' sm o)
   ·exact Qf (QhS hA hB.kind (λp hp=>memE hp) (λp hp=>memE hp) (by rw[sx];omega) (by rw[sy];omega) hsx hsy hp1 hp2 λz st' sm o=>fin z st' sm o)
end
def RunsOk:List (Nat×Nat)->Nat->Nat->Prop
 |[],s,e=>s=e
 |(s',n)::r,s,e=>s'=s/\1<=n/\RunsOk r (s+n) e
theorem RunsOk.app:∀{l1 l2:List (Nat×Nat)}{s e:Nat},RunsOk (l1++l2) s e↔∃m,RunsOk l1 s m/\RunsOk l2 m e
 |[],l2,s,e=>⟨λh=>⟨s,rfl,h⟩,λ⟨m,h1,h2⟩=>by cases(show s=m from h1);exact h2⟩
 |(s',n)::l1,l2,s,e=>by
  constructor
  ·rintro⟨h1,h2,h3⟩;obtain⟨m,a,b⟩:=RunsOk.app.mp h3;exact⟨m,⟨h1,h2,a⟩,b⟩
  ·rintro⟨m,⟨h1,h2,a⟩,b⟩;exact⟨h1,h2,RunsOk.app.mpr ⟨m,a,b⟩⟩
theorem RunsOk.le:∀{l:List (Nat×Nat)}{s e:Nat},RunsOk l s e->s+l.length<=e
 |[],s,e,h=>by cases(show s=e from h);exact Qi _
 |(s',n)::l,s,e,⟨_,h2,h3⟩=>by
  have:=RunsOk.le h3;rw[QJ];omega
theorem RunsOk.mem:∀{l:List (Nat×Nat)}{s e:Nat},RunsOk l s e->∀p∈l,s<=p.1/\p.1+p.2<=e
 |(s',n)::l,s,e,⟨h1,h2,h3⟩,p,hp=>by
  have hl:=RunsOk.le h3;rcases Qz.mp hp with z | z
  ·subst z;show s<=s'/\s'+n<=e;omega
  ·have:=RunsOk.mem h3 p z;omega
def sn(p:Nat×Nat×Nat):Nat×Nat:=(p.1,p.2.1)
def YI(st:JW):List (Nat×Nat):=(pendingOf st).toList.map sn
section
variable{prog:Qy}{w:Jg}{A:Q5}{E:Value->Shared->Prop}{s:Shared}{a₀:Array Keyed}{κ:Yf}{c:Keyed->Keyed->Bool}
structure RI (κ:Yf) (a₀:Array Keyed) (c:Keyed->Keyed->Bool) (lo:Nat) (st:JW):Prop where
 sb:SB κ a₀ st
 runs:RunsOk (YI st) 0 lo
 srt:∀p∈YI st,Sg c (arrOf st) p.1 (p.1+p.2)
 le:lo<=a₀.size
theorem Sg.same{xs ys:Array Keyed}{u v:Nat}(h:Sg c xs u v)(k:∀n,u<=n->n<v->kx ys n=kx xs n):Sg c ys u v:=λi j hi hij hj=>by
 rw[k i hi (by omega),k j (by omega) hj];exact h i j hi hij hj
theorem QuT{l:List (Nat×Nat×Nat)}{i:Nat}(h:i+1<l.length):∃l1 x y l2,l=l1++x::y::l2/\l1.length=i:=by
 refine⟨l.take i,l[i],l[i+1],l.drop (i+2),?_,by rw[J8];omega⟩;rw[<- Qbr,<- Qbr,JL]
theorem Qc7{st:JW}{lo i hi:Nat}{Q:Bool->JW->Prop}(hA:Asks prog w A s κ a₀ c)(ri:RI κ a₀ c lo st)(hi':i+1<(pendingOf st).size)
  (h:∀st',RI κ a₀ c lo st'->(pendingOf st').size+1=(pendingOf st).size->(∀n,lo<=n->kx (arrOf st') n=kx (arrOf st) n)->Q true st'):wpS (model prog w) A E s (mergeAt' i) Q st:=by
 obtain⟨l1,⟨u,n,pw⟩,⟨v,m,pw2⟩,l2,el,ll⟩:=QuT (l:=(pendingOf st).toList) (i:=i) (by rw[Qj];exact hi');have er:YI st=l1.map sn++(u,n)::(v,m)::l2.map sn:=by unfold YI;rw[el,Jp];rfl
 have r0:=ri.runs;rw[er] at r0;obtain⟨q,ra,rb⟩:=RunsOk.app.mp r0;obtain⟨g1,g2,g3,g4,g5⟩:=rb;subst g1;subst g3;have e1:(pendingOf st)[i]? = some (u,n,pw):=by
  rw[<- Zr,el,J3 (by omega),ll,Nat.sub_self];rfl
 have e2:(pendingOf st)[i+1]? = some (u+n,m,pw2):=by
  rw[<- Zr,el,J3 (by omega),ll,show i+1 - i=1 by omega];rfl
 have le5:=RunsOk.le g5;have le1:=ri.le;refine QhT hA ri.sb e1 e2 g2 g4 (by omega) (ri.srt (u,n) (by rw[er];simp)) (ri.srt (u+n,m) (by rw[er];simp)) λst' mg=>?_
 have ep:(pendingOf st').toList=l1++(u,n+m,pw)::l2:=by
  rw[mg.pend,Array.toList_eraseIdxIfInBounds,Qgr,el,List.set_append_right _ _ (by omega),ll,Nat.sub_self,List.set_cons_zero,List.eraseIdx_append_of_length_le (by omega),ll,show i+1 - i=1 by omega];rfl
 have er':YI st'=l1.map sn++(u,n+m)::l2.map sn:=by unfold YI;rw[ep,Jp];rfl
 refine h st' ⟨mg.sb,?_,λp hp=>?_,ri.le⟩ ?_ λk hk=>mg.out k (.inr (by omega))
 ·rw[er'];exact RunsOk.app.mpr ⟨u,ra,rfl,by omega,by rw[show u+(n+m)=u+n+m by omega];exact g5⟩
 ·rw[er'] at hp;rcases Jo.mp hp with z | z
  ·have b:=RunsOk.mem ra p z;exact(ri.srt p (by rw[er];exact QaP _ z)).same λk k1 k2=>mg.out k (.inl (by omega))
  ·rcases Qz.mp z with z | z
   ·subst z;show Sg c (arrOf st') u (u+(n+m));rw[show u+(n+m)=u+n+m by omega];exact mg.sg
   ·have b:=RunsOk.mem g5 p z;exact(ri.srt p (by rw[er];exact Q6 _ (Jk _ (Jk _ z)))).same λk k1 k2=>mg.out k (.inr (by omega))
 ·rw[<- Qj,<- Qj,ep,el,Qu,Qu,QJ,QJ,QJ];omega
theorem RI.pow{st:JW}{lo:Nat}(r:RI κ a₀ c lo st)(i pw:Nat):RI κ a₀ c lo (setPending st ((pendingOf st).modify i λx=>(x.1,x.2.1,pw))):=by
 have er:YI (setPending st ((pendingOf st).modify i λx=>(x.1,x.2.1,pw)))=YI st:=by
  show((pendingOf st).modify i λx=>(x.1,x.2.1,pw)).toList.map sn=(pendingOf st).toList.map sn;rw[Array.toList_modify];apply QbC
  intro j;rw[QR,QR,List.getElem?_modify];cases(pendingOf st).toList[j]? with
  |none=>rfl
  |some p=>
   show some (sn (if i=j then _ else p))=some (sn p);split<;>rfl
 exact⟨⟨r.sb.perm,r.sb.kind,r.sb.failed⟩,by rw[er];exact r.runs,by rw[er];exact r.srt,r.le⟩
theorem QhQ{st:JW}{Q:Unit->JW->Prop}(hA:Asks prog w A s κ a₀ c)(hB:SB κ a₀ st)(hp:pendingOf st=#[])
  (h:∀st',SB κ a₀ st'->Sg c (arrOf st') 0 a₀.size->Q () st'):wpS (model prog w) A E s sortRuns' Q st:=by
 rw[sortRuns'_eq];refine Qf (Qb7 ?_)
 dsimp only
 rw[hB.size];have ri0:RI κ a₀ c 0 st:=⟨hB,by unfold YI;rw[hp];rfl,λp h=>by unfold YI at h;rw[hp] at h;simp at h,Qw _⟩;refine Qf (Ye (JV (I:=λx z st'=>∃lo,z=(none,lo)/\RI κ a₀ c lo st'/\(x<=lo∨lo=a₀.size)) (Q:=λz st'=>z=(none,a₀.size)/\RI κ a₀ c a₀.size st') ?step ?fin ⟨0,rfl,ri0,.inl (Qi _)⟩) ?post)
 case fin=>
  rintro z st' ⟨lo,rfl,ri,hx⟩;have:=ri.le;have e:lo=a₀.size:=by omega
  subst e;exact⟨rfl,ri⟩
 case step=>
  rintro x z st' _ hx ⟨lo,rfl,ri,hxl⟩
  dsimp only
  have hle:=ri.le;by_cases z0:lo≥a₀.size
  ·rw[if_pos z0];have e:lo=a₀.size:=by omega
   subst e;exact Qh ⟨rfl,ri⟩
  ·rw[if_neg z0];refine Qf (QfE hA (by omega) (by omega) ri.sb λm st1 f1 m1 m2 sg1=>?_)
   dsimp only
   have ri1:RI κ a₀ c lo st1:=⟨f1.sb,by unfold YI;rw[f1.pend];exact ri.runs,λp hp=>by
    unfold YI at hp;rw[f1.pend] at hp;have b:=RunsOk.mem ri.runs p hp;exact(ri.srt p hp).same λk k1 k2=>f1.low k (by omega),hle⟩
   have push:∀(n:Nat)(st2:JW),RI κ a₀ c lo st2->1<=n->lo+n<=a₀.size->Sg c (arrOf st2) lo (lo+n)->RI κ a₀ c (lo+n) (setPending st2 ((pendingOf st2).push (lo,n,0))):=λn st2 r2 n1 n2 sg=>by
    have er:YI (setPending st2 ((pendingOf st2).push (lo,n,0)))=YI st2++[(lo,n)]:=by
     show((pendingOf st2).push (lo,n,0)).toList.map sn=_;rw[Qd9,Jp];rfl
    refine⟨⟨r2.sb.perm,r2.sb.kind,r2.sb.failed⟩,by rw[er];exact RunsOk.app.mpr ⟨lo,r2.runs,rfl,n1,rfl⟩,λp hp=>?_,n2⟩;rw[er] at hp;rcases Jo.mp hp with z | z
    ·exact r2.srt p z
    ·rw[Jh.mp z];exact sg
   by_cases zm:m<minRun' a₀.size a₀.size 0
   ·rw[if_pos zm];refine Qf (QdP (wpAny_rule ⟨rfl,?_⟩));refine Qf (Qec hA (by omega) m1 (by omega) f1.sb sg1 λst2 f2 sg2=>?_);simp only[Bool.not_true,Qaa,if_false];have ri2:RI κ a₀ c lo st2:=⟨f2.sb,by unfold YI;rw[f2.pend];exact ri1.runs,λp hp=>by
     unfold YI at hp;rw[f2.pend] at hp;have b:=RunsOk.mem ri1.runs p hp;exact(ri1.srt p hp).same λk k1 k2=>f2.low k (by omega),hle⟩
    refine Qf (Qb7 ?_);cases hb:(pendingOf st2).back? with
    |none=>
     dsimp only
     exact Qf (Qaf (Qh ⟨_,rfl,push _ st2 ri2 (by omega) (by omega) sg2,by omega⟩))
    |some bb=>
     obtain⟨s1,s2,s3⟩:=bb
     dsimp only
     refine Qf (Ye (JV (I:=λ_ z st3=>z=(none,())/\RI κ a₀ c lo st3/\Sg c (arrOf st3) lo (lo+min (a₀.size - lo) (minRun' a₀.size a₀.size 0))) (Q:=λz st3=>z=(none,())/\RI κ a₀ c lo st3/\Sg c (arrOf st3) lo (lo+min (a₀.size - lo) (minRun' a₀.size a₀.size 0))) ?stepA (λ_ _ q=>q) ⟨rfl,ri2,sg2⟩) ?postA)
     case stepA=>
      rintro y z st3 _ hy ⟨rfl,r3,g3⟩;refine Qf (Qb7 ?_);by_cases z5:(pendingOf st3).size > 1
      ·rw[if_pos z5,getElem?_pos (pendingOf st3) ((pendingOf st3).size - 2) (by omega)];generalize (pendingOf st3)[(pendingOf st3).size - 2]'(by omega)=pp;obtain⟨q1,q2,q3⟩:=pp
       dsimp only
       split
       ·exact Qh ⟨rfl,r3,g3⟩
       ·refine Qf (Qc7 (hi:=0) hA r3 (by omega) λst4 r4 sz k4=>?_);exact Qh ⟨rfl,r4,g3.same λk k1 _=>k4 k k1⟩
      ·rw[if_neg z5];exact Qh ⟨rfl,r3,g3⟩
     case postA=>
      rintro z st3 ⟨rfl,r3,g3⟩
      dsimp only
      refine Qf (Qaf (Qf (Qaf (Qh ⟨_,rfl,push _ _ (r3.pow _ _) (by omega) (by omega) g3,by omega⟩))))
   ·rw[if_neg zm];refine Qf (Qb7 ?_);cases hb:(pendingOf st1).back? with
    |none=>
     dsimp only
     exact Qf (Qaf (Qh ⟨_,rfl,push _ st1 ri1 m1 (by omega) sg1,by omega⟩))
    |some bb=>
     obtain⟨s1,s2,s3⟩:=bb
     dsimp only
     refine Qf (Ye (JV (I:=λ_ z st3=>z=(none,())/\RI κ a₀ c lo st3/\Sg c (arrOf st3) lo (lo+m)) (Q:=λz st3=>z=(none,())/\RI κ a₀ c lo st3/\Sg c (arrOf st3) lo (lo+m)) ?stepA (λ_ _ q=>q) ⟨rfl,ri1,sg1⟩) ?postA)
     case stepA=>
      rintro y z st3 _ hy ⟨rfl,r3,g3⟩;refine Qf (Qb7 ?_);by_cases z5:(pendingOf st3).size > 1
      ·rw[if_pos z5,getElem?_pos (pendingOf st3) ((pendingOf st3).size - 2) (by omega)];generalize (pendingOf st3)[(pendingOf st3).size - 2]'(by omega)=pp;obtain⟨q1,q2,q3⟩:=pp
       dsimp only
       split
       ·exact Qh ⟨rfl,r3,g3⟩
       ·refine Qf (Qc7 (hi:=0) hA r3 (by omega) λst4 r4 sz k4=>?_);exact Qh ⟨rfl,r4,g3.same λk k1 _=>k4 k k1⟩
      ·rw[if_neg z5];exact Qh ⟨rfl,r3,g3⟩
     case postA=>
      rintro z st3 ⟨rfl,r3,g3⟩
      dsimp only
      refine Qf (Qaf (Qf (Qaf (Qh ⟨_,rfl,push _ _ (r3.pow _ _) m1 (by omega) g3,by omega⟩))))
 case post=>
  rintro z st' ⟨rfl,ri⟩
  dsimp only
  refine Qf (Ye (JV (I:=λx z st3=>z=(none,())/\RI κ a₀ c a₀.size st3/\((pendingOf st3).size+x<=a₀.size∨(pendingOf st3).size<=1)) (Q:=λz st3=>z=(none,())/\RI κ a₀ c a₀.size st3/\(pendingOf st3).size<=1) ?stepB ?finB ⟨rfl,ri,.inl ?initB⟩) ?postB)
  case initB=>
   have:=RunsOk.le ri.runs;unfold YI at this;rw[Qg,Qj] at this;omega
  case finB=>
   rintro z st3 ⟨rfl,r3,hx⟩;exact⟨rfl,r3,by omega⟩
  case stepB=>
   rintro x z st3 _ hx ⟨rfl,r3,hs⟩;refine Qf (Qb7 ?_);by_cases z5:(pendingOf st3).size<=1
   ·rw[if_pos z5];exact Qh ⟨rfl,r3,z5⟩
   ·rw[if_neg z5];have key:∀i,i+1<(pendingOf st3).size->wpS (model prog w) A E s (mergeAt' i) (λb st4=>b=true/\RI κ a₀ c a₀.size st4/\(pendingOf st4).size+1=(pendingOf st3).size) st3:=λi hi=>Qc7 (hi:=0) hA r3 hi λst4 r4 sz _=>⟨rfl,r4,sz⟩
    refine Qf (Ye (key _ ?_) ?_)
    ·have ii:∀{p:Prop}[Decidable p],(if p then(pendingOf st3).size - 2 - 1 else(pendingOf st3).size - 2)+1<(pendingOf st3).size:=by intro p _;split<;>omega
     exact ii
    ·rintro bb st4 ⟨rfl,r4,sz⟩;exact Qh ⟨rfl,r4,by omega⟩
  case postB=>
   rintro z st3 ⟨rfl,r3,hs⟩;refine Qh (h st3 r3.sb ?_);have rr:=r3.runs;have hl:(YI st3).length<=1:=by unfold YI;rw[Qg,Qj];exact hs
   have hsr:=r3.srt;cases er:YI st3 with
   |nil=>
    rw[er] at rr;rw[<- (show 0=a₀.size from rr)];exact λi j hi hij hj=>by omega
   |cons p l=>
    rw[er] at rr hl hsr;cases l with
    |cons p' l'=>simp at hl
    |nil=>
     obtain⟨g1,g2,g3⟩:=rr;have:=hsr p (Jh.mpr rfl);rw[g1,(show 0+p.2=a₀.size from g3)] at this;exact this
end
end Rt
namespace L2
def blk(X:Cx)(M:List Str)(scope:Z5)(cl:List (Str×Addr))(ex:List Addr)(s3:Shared)(H3:Hp)(C:Addr):Cx where
 prog:=X.prog
 w:=X.w
 K:=X.K
 mg:=X.mg
 base:=X.base
 A:=X.A
 N:=M
 s₀:=s3
 H₀:=H3
 env:=compEnvC scope cl C X.env
 outer:=X.stack
 stack:=X.stack
 ex:=ex
 fn:=λ_=>false
 calm:=X.calm
 pn:=[]
 xe:=λ_ _=>False
def Qa4(env:Env):List (Str×QaU)->List (Str×Addr)->List (Str×Addr)
 |[],acc=>acc
 |(n,k)::r,acc=>Qa4 env r (if k=.free then(n,(env.cells.lookup n).getD 0)::acc else acc)
theorem Qix{env:Env}:∀(l:List (Str×QaU))(acc:List (Str×Addr)),(∀x∈l,x.2=.free->∃c,env.cells.lookup x.1=some c) ->
  (forIn (m:=Sem) l acc λx cs=>(if(x.2 == Ja)=true then do let a <- cellOf env x.1;pure (JT ((x.1,a)::cs)) else pure (JT cs)))=pure (Qa4 env l acc)
 |[],acc,_=>rfl
 |(n,k)::r,acc,h=>by
  rw[Qgn];by_cases hk:k=.free
  ·subst hk;obtain⟨c,hc⟩:=h (n,.free) Ze rfl;have e1:cellOf env n=pure c:=by unfold cellOf;rw[hc]
   have e2:Qa4 env ((n,.free)::r) acc=Qa4 env r ((n,c)::acc):=by
    show Qa4 env r (if Ja=.free then(n,(env.cells.lookup n).getD 0)::acc else acc)=_;rw[if_pos rfl,hc];rfl
   rw[e2];show((if(Ja == Ja)=true then do let a <- cellOf env n;pure (JT ((n,a)::acc)) else pure (JT acc)) >>= _)=_;rw[if_pos (show(Ja == Ja)=true by decide),e1];exact Qix r _ λx hx=>h x (Jk _ hx)
  ·have hb:(k == Ja)=false:=by simpa using hk
   have e2:Qa4 env ((n,k)::r) acc=Qa4 env r acc:=by
    show Qa4 env r (if k=.free then(n,(env.cells.lookup n).getD 0)::acc else acc)=_;rw[if_neg hk]
   rw[e2];show((if(k == Ja)=true then _ else pure (JT acc)) >>= _)=_;rw[hb,if_neg QC];exact Qix r _ λx hx=>h x (Jk _ hx)
theorem Qez{scope:Z5}{env:Env}(h:∀x∈scope.names,x.2=.free->∃c,env.cells.lookup x.1=some c):closureFor scope env=pure (Qa4 env scope.names []):=by
 have e:=Qix (env:=env) scope.names [] h;unfold closureFor;show(forIn scope.names [] _ >>= _)=_;have e':(forIn (m:=Sem) scope.names ([]:List (Str×Addr)) λx cs=>match x with | (name,kind)=>(if(kind == Ja)=true then do let a <- cellOf env name;pure (JT ((name,a)::cs)) else pure (JT cs)))=pure (Qa4 env scope.names []):=e
 first
  |(rw[e'];rfl)
  |(refine Eq.trans (congrArg (λt=>t >>= _) e') ?_;rfl)
theorem Qiy{env:Env}:∀(l:List (Str×QaU))(acc:List (Str×Addr)),(∀x∈l,x.2=.free->∃c,env.cells.lookup x.1=some c)->(∀x c,acc.lookup x=some c->env.cells.lookup x=some c) ->
  (∀x c,(Qa4 env l acc).lookup x=some c->env.cells.lookup x=some c)/\(∀x c,acc.lookup x=some c->(Qa4 env l acc).lookup x=some c)/\∀x,(x,Ja)∈l->∃c,(Qa4 env l acc).lookup x=some c
 |[],acc,_,ha=>⟨ha,λ_ _ h=>h,λ_ h=>nomatch h⟩
 |(n,k)::r,acc,h,ha=>by
  have hr:∀x∈r,x.2=.free->∃c,env.cells.lookup x.1=some c:=λx hx=>h x (Jk _ hx)
  by_cases hk:k=.free
  ·subst hk;obtain⟨c,hc⟩:=h (n,.free) Ze rfl;have e2:Qa4 env ((n,.free)::r) acc=Qa4 env r ((n,c)::acc):=by
    show Qa4 env r (if Ja=.free then(n,(env.cells.lookup n).getD 0)::acc else acc)=_;rw[if_pos rfl,hc];rfl
   rw[e2];have ha':∀x c',((n,c)::acc).lookup x=some c'->env.cells.lookup x=some c':=λx c' q=>by
    rw[Jj] at q;cases hx:x == n with
    |true=>
     rw[hx] at q;have z:c=c':=Qv q;have y:x=n:=by simpa using hx
     rw[y,<- z];exact hc
    |false=>rw[hx] at q;exact ha x c' q
   obtain⟨i1,i2,i3⟩:=Qiy r ((n,c)::acc) hr ha';refine⟨i1,λx c' q=>?_,λx hx=>?_⟩
   ·refine i2 x c' ?_
    rw[Jj];cases hx:x == n with
    |true=>
     have y:x=n:=by simpa using hx
     have:=ha x c' q;rw[y,hc] at this;exact this
    |false=>exact q
   ·rcases Qz.mp hx with z | z
    ·cases z;exact⟨c,i2 n c (by rw[Jj,beq_self_eq_true])⟩
    ·exact i3 x z
  ·have e2:Qa4 env ((n,k)::r) acc=Qa4 env r acc:=by
    show Qa4 env r (if k=.free then(n,(env.cells.lookup n).getD 0)::acc else acc)=_;rw[if_neg hk]
   rw[e2];obtain⟨i1,i2,i3⟩:=Qiy r acc hr ha;refine⟨i1,i2,λx hx=>?_⟩;rcases Qz.mp hx with z | z
   ·cases z;exact absurd rfl hk
   ·exact i3 x z
theorem Qb4{l:List (Str×QaU)}{x:Str}{k:QaU}(h:l.lookup x=some k):(x,k)∈l:=by
 induction l with
 |nil=>cases h
 |cons p r ih=>
  obtain⟨n,q⟩:=p;rw[Jj] at h;cases hx:x == n with
  |true=>
   rw[hx] at h;have y:x=n:=by simpa using hx
   have z:q=k:=Qv h;subst y z;exact Ze
  |false=>rw[hx] at h;exact Jk _ (ih h)
theorem Qa0{env:Env}:∀{names:List (Str×QaU)}{x:Str}{k:QaU},(names.map λ(n,k)=>if(k == Ja&&env.scope.kind == .function&&env.kindOf n == some .cell) then(n,Yo) else(n,k)).lookup x=some k ->
  names.lookup x=some k∨(k=.cell/\names.lookup x=some .free)
 |[],x,k,h=>by cases h
 |(n,q)::r,x,k,h=>by
  have ih:=@Qa0 env r x k;rw[JN] at h;have h':Qgm x ((if(q == Ja&&env.scope.kind == .function&&env.kindOf n == some .cell)=true then(n,Yo) else(n,q))::_)=some k:=h;cases hx:x == n with
  |true=>
   by_cases hc:(q == Ja&&env.scope.kind == .function&&env.kindOf n == some .cell)=true
   ·rw[if_pos hc,Jj,hx] at h';have z:Yo=k:=Qv h';have y:q=.free:=by simp at hc;exact hc.1.1
    refine .inr ⟨z.symm,?_⟩;rw[Jj,hx,y]
   ·rw[if_neg hc,Jj,hx] at h';refine .inl ?_
    rw[Jj,hx];exact h'
  |false=>
   have h2:Qgm x (r.map λ(n,k)=>if(k == Ja&&env.scope.kind == .function&&env.kindOf n == some .cell) then(n,Yo) else(n,k))=some k:=by
    by_cases hc:(q == Ja&&env.scope.kind == .function&&env.kindOf n == some .cell)=true
    ·rw[if_pos hc,Jj,hx] at h';exact h'
    ·rw[if_neg hc,Jj,hx] at h';exact h'
   rw[Jj,hx];exact ih h2
theorem relabel_free{env:Env}:∀{names:List (Str×QaU)}{x:Str},names.lookup x=some .free->(names.map λ(n,k)=>if(k == Ja&&env.scope.kind == .function&&env.kindOf n == some .cell) then(n,Yo) else(n,k)).lookup x=some .cell ∨
   (names.map λ(n,k)=>if(k == Ja&&env.scope.kind == .function&&env.kindOf n == some .cell) then(n,Yo) else(n,k)).lookup x=some .free
 |[],x,h=>by cases h
 |(n,q)::r,x,h=>by
  have ih:=@relabel_free env r x;rw[JN];show Qgm x ((if(q == Ja&&env.scope.kind == .function&&env.kindOf n == some .cell)=true then(n,Yo) else(n,q))::_)=some .cell∨Qgm x ((if(q == Ja&&env.scope.kind == .function&&env.kindOf n == some .cell)=true then(n,Yo) else(n,q))::_)=some .free;cases hx:x == n with
  |true=>
   rw[Jj,hx] at h;have z:q=Ja:=Qv h;subst z;by_cases hc:(Ja == Ja&&env.scope.kind == .function&&env.kindOf n == some .cell)=true
   ·rw[if_pos hc,Jj,hx];exact .inl rfl
   ·rw[if_neg hc,Jj,hx];exact .inr rfl
  |false=>
   rw[Jj,hx] at h;by_cases hc:(q == Ja&&env.scope.kind == .function&&env.kindOf n == some .cell)=true
   ·rw[if_pos hc,Jj,hx];exact ih h
   ·rw[if_neg hc,Jj,hx];exact ih h
def Qcr(N:List Str)(sc:Z5)(M:List Str)(scope:Z5)(cap:List (Option Nat)):Bool:=
 cap.length == M.length&&(M.zip cap).all (λ(x,o)=>match o with
  |none=>scope.names.lookup x == some .local
  |some j=>N[j]? == some x&&(scope.names.lookup x == some .free&&(sc.names.lookup x == some .cell||sc.names.lookup x == some .free))) &&
 (scope.kind == .function&&scope.names.all λy=>y.2 != .cell&&((y.2 != .free||(sc.names.lookup y.1 == some .cell||sc.names.lookup y.1 == some .free))&&(y.2 != .local||scope.names.lookup y.1 == some .local)))
def Qc0(cap:List (Option Nat))(σ:St):St:=cap.map λo=>match o with
 |none=>none
 |some j=>(σ[j]?).getD none
structure CapOk (N:List Str) (sc:Z5) (M:List Str) (scope:Z5) (cap:List (Option Nat)):Prop where
 len:cap.length=M.length
 own:∀(i j:Nat)(x:Str),M[i]? = some x->cap[i]? = some (some j)->N[j]? = some x/\scope.names.lookup x=some .free/\(sc.names.lookup x=some .cell∨sc.names.lookup x=some .free)
 kind:scope.kind=.function
 cell:∀y∈scope.names,y.2≠.cell
 free:∀y∈scope.names,y.2=.free->sc.names.lookup y.1=some .cell∨sc.names.lookup y.1=some .free
 loc:∀y∈scope.names,y.2=.local->scope.names.lookup y.1=some .local
theorem CapOk.of{N:List Str}{sc:Z5}{M:List Str}{scope:Z5}{cap:List (Option Nat)}(h:Qcr N sc M scope cap=true):CapOk N sc M scope cap:=by
 unfold Qcr at h;simp only[JG,Jz,beq_iff_eq] at h;obtain⟨⟨h1,h2⟩,h3,h4⟩:=h;refine⟨h1,λi j x e1 e2=>?_,h3,λy hy z=>?_,λy hy z=>?_,λy hy z=>?_⟩
 ·have hm:(x,some j)∈M.zip cap:=by
   have:(M.zip cap)[i]? = some (x,some j):=by rw[List.getElem?_zip_eq_some];exact⟨e1,e2⟩
   exact Q9 this
  have:=h2 _ hm;simp only[JG,beq_iff_eq,Bool.or_eq_true] at this;exact this
 ·have:=(h4 y hy).1;simp[z] at this
 ·have:=(h4 y hy).2.1
  simpa [z] using this
 ·have:=(h4 y hy).2.2
  simpa [z] using this
section
variable{X:Cx}{pins:List (Addr×Obj)}{σ:St}{H H3:Hp}{s3:Shared}{M:List Str}{scope:Z5}{cap:List (Option Nat)}{fp:List Addr}{h4:J5}{t4:Nat}
theorem Cx.Ok.cells(ok:X.Ok){N:List Str}(c:CapOk N X.env.scope M scope cap):∀y∈scope.names,y.2=.free->∃d,X.env.cells.lookup y.1=some d:=λy hy z=>ok.has y.1 (c.free y hy z)
theorem QbX(I:Inv X pins σ H3 s3)(c:CapOk X.N X.env.scope M scope cap)(hf:∀b∈fp,FpOk X pins H3 b)(hb:∀b∈fp,b<s3.heap.objs.size)
  (hn:h4.Ns s3.heap.objs.size λ_=>none)(hk:∀b o,s3.heap.get? b=some o->h4.get? b=some o) :
  Inv (blk X M scope (Qa4 X.env scope.names []) fp s3 H3 s3.heap.objs.size) [] (Qc0 cap σ) H3 { s3 with heap:=h4,toks:=t4 }:=by
 obtain⟨c1,c2,c3⟩:=Qiy scope.names [] (I.ok.cells c) (λx d q=>by cases q);refine⟨⟨I.ok.mod,c.kind,I.ok.glob,I.ok.blt,Qi _,λx y d e1 e2=>I.ok.inj x y d (c1 x d e1) (c1 y d e2),λx hx=>?_,(λx d z=>nomatch z),I.ok.hd,I.ok.frames,.inl rfl,λb hb'=>?_,I.bs,
  Q2 I.ok.bsz I.sz,λb o e z=>?_,λb hb' z=>?_,I.stack,I.stkFree⟩,rfl,I.bare,Un.kept hk,⟨_,hn,λi x v e1 e2 e3=>?_⟩,λx d e=>?_,I.hok.fresh (Qi _),λx d e=>I.freeC x d (c1 x d e),λp hp=>(nomatch hp),I.hok.kept hk,?_⟩
 ·have hx':(relabel scope X.env).names.lookup x=some .cell∨(relabel scope X.env).names.lookup x=some .free:=hx;rcases hx' with q | q
  ·rcases Qa0 q with z | ⟨_,z⟩
   ·exact absurd rfl (c.cell _ (Qb4 z))
   ·exact c3 x (Qb4 z)
  ·rcases Qa0 q with z | ⟨z,_⟩
   ·exact c3 x (Qb4 z)
   ·cases z
 ·obtain⟨f0,f1,f2,f3,f4,f5⟩:=hf b hb';exact⟨QD (hb b hb'),λx d e=>f4 x d (c1 x d e)⟩
 ·obtain⟨f0,f1,f2,f3,f4,f5⟩:=hf b z;rcases f3 with q | q
  ·exact I.ok.noex b o e q
  ·exact absurd (QL (Qp e) (Q2 I.ok.bsz q)) (Z7 _)
 ·obtain⟨f0,f1,f2,f3,f4,f5⟩:=hf b hb';rcases Qz.mp (I.stkSub b z) with q | q
  ·exact f1 q
  ·exact f2 q
 ·have e2':(cap.map λo=>match o with | none=>none | some j=>(σ[j]?).getD none)[i]? = some (some v):=e2;rw[QR] at e2';cases q:cap[i]? with
  |none=>rw[q] at e2';cases e2'
  |some o=>
   rw[q] at e2';cases o with
   |none=>cases e2'
   |some j=>
    have e4:(σ[j]?).getD none=some v:=Qv e2';have e5:σ[j]? = some (some v):=by
     cases r:σ[j]? with
     |none=>rw[r] at e4;cases e4
     |some o=>rw[r] at e4;exact congrArg some e4
    obtain⟨n1,n2,n3⟩:=c.own i j x e1 q;obtain⟨m,hm,hl⟩:=I.loc;obtain⟨u,ru,lk⟩:=hl j x v n1 e5 (n3.elim (λz=>.inr (.inl z)) λz=>.inr (.inr z));refine⟨u,ru,.inr ?_⟩;rcases lk with⟨k1,_⟩ | ⟨_,d,k2,k3⟩
    ·have k1':X.env.scope.names.lookup x=some .local:=k1;rcases n3 with z | z<;>(rw[z] at k1';cases k1')
    ·obtain⟨d',hd'⟩:=c3 x (Qb4 n2);have ed:d'=d:=by
      have:=c1 x d' hd';rw[k2] at this;exact(Qv this).symm
     subst ed;exact⟨(relabel_free n2:(relabel scope X.env).names.lookup x=some .cell∨(relabel scope X.env).names.lookup x=some .free),d',hd',k3.keeps hk⟩
 ·obtain⟨v,q⟩:=I.cell x d (c1 x d e);exact⟨v,q.keeps hk⟩
 ·show(cap.map _).length=M.length;rw[Qg];exact c.len
theorem Qgj{σ':St}{s':Shared}{h':J5}(I:Inv X pins σ H3 s3)(hf:∀b∈fp,FpOk X pins H3 b)(J:Inv (blk X M scope (Qa4 X.env scope.names []) fp s3 H3 s3.heap.objs.size) [] σ' H s')(hs:Qax s3.heap.objs.size s'.heap h') :
  Inv X pins σ H { s' with heap:=h' }:=by
 have u:Un (frs X.stack) fp H3 H s3.heap s'.heap:=J.base;have ne:∀b o,s3.heap.get? b=some o->b≠s3.heap.objs.size:=λb o e=>QD (Qp e)
 have hC:H s3.heap.objs.size=none:=J.free;refine I.call' (ch:=fp) (s':={ s' with heap:=h' }) J.os ⟨λb o e n hb hx=>(hs.2 b (ne b o e)).trans (u.keep b o e n hb hx),λb o e n hb hx=>?_,u.free,λb o e hx=>?_,u.tups,u.frzs,u.tbls⟩ (λb o e=>?_) J.bare λb hb=>?_
 ·obtain⟨sl,q⟩:=u.slot b o e n hb hx;exact⟨sl,(hs.2 b (ne b o e)).trans q⟩
 ·obtain⟨o',q⟩:=u.there b o e hx;exact⟨o',(hs.2 b (ne b o e)).trans q⟩
 ·refine(J.hok b o e).stay (λc v hc q=>(hs.2 c ?_).trans q) (λ_ q=>q) λ_ _ q=>q
  rintro rfl;rcases hc with z | z
  ·rw[<- z,hC] at e;cases e
  ·rw[hC] at z;cases z
 ·obtain⟨f0,f1,f2,f3,f4,f5⟩:=hf b hb;exact⟨f3,f1,f4,f5⟩
end
def Wk:St->St->Prop
 |[],[]=>True
 |none::a,_::b=>Wk a b
 |some v::a,some u::b=>v=u/\Wk a b
 |_,_=>False
theorem Wk.len:∀{a b:St},Wk a b->a.length=b.length
 |[],[],_=>rfl
 |none::a,_::b,h=>congrArg (·+1) (Wk.len (a:=a) (b:=b) h)
 |some v::a,some u::b,h=>congrArg (·+1) (Wk.len (a:=a) (b:=b) h.2)
 |[],_::_,h=>h.elim
 |some _::_,[],h=>h.elim
 |none::_,[],h=>h.elim
 |some _::_,none::_,h=>h.elim
theorem Wk.get:∀{a b:St},Wk a b->∀(i:Nat) v,a[i]? = some (some v)->b[i]? = some (some v)
 |[],[],_,i,v,h=>by simp at h
 |none::a,x::b,h,0,v,e=>by simp at e
 |none::a,x::b,h,i+1,v,e=>by
  simp only[Y8] at e ⊢;exact Wk.get (a:=a) (b:=b) h i v e
 |some q::a,some u::b,h,0,v,e=>by
  simp only[QiH] at e ⊢;rw[<- h.1];exact e
 |some q::a,some u::b,h,i+1,v,e=>by
  simp only[Y8] at e ⊢;exact Wk.get (a:=a) (b:=b) h.2 i v e
 |[],_::_,h,_,_,_=>h.elim
 |some _::_,[],h,_,_,_=>h.elim
 |none::_,[],h,_,_,_=>h.elim
 |some _::_,none::_,h,_,_,_=>h.elim
theorem Inv.wk{X:Cx}{pins:List (Addr×Obj)}{σ σ':St}{H:Hp}{s:Shared}(I:Inv X pins σ H s)(h:Wk σ' σ):Inv X pins σ' H s:=I.weak h.len h.get
def QgG(J:It)(body:V->Hp->(Hp->Prop)->Prop)(Qn:Hp->Prop)(H:Hp):Prop:=
 ∃W:Nat->Nat->Hp->Prop,(∃m,W 0 m H)/\∀i m H2,W i m H2->(J.stop i H2/\Qn H2)∨(J.go i H2/\∀x H3,J.yld i H2 x H3->body x H3 λH6=>∃m',m'<m/\W (i+1) m' H6)
abbrev Act:=(Shared->Prop)->Shared->Prop
def BodyOk(Y:Cx)(σ:St)(act:Act)(b:Hp->(Hp->Prop)->Prop):Prop:=
 ∀(pins:List (Addr×Obj))(s:Shared)(H:Hp)(k:Hp->Prop)(Q:Shared->Prop),Inv Y pins σ H s->b H k->(∀s' H',Inv Y pins σ H' s'->k H'->Q s')->act Q s
theorem QbT{Y:Cx}{σ:St}{tg:QP}{elt:QP}{gens:List QcB}{scope:Z5}{cpos:Pos}{d:Nat}{it D:Addr}{fp:List Addr}{tn:Nat->J5->Prop}{J:It}{pins:List (Addr×Obj)}{s:Shared}{H:Hp}{body:V->Hp->(Hp->Prop)->Prop}{Qn:Hp->Prop}{R:Qr4->Shared->Prop}{act:Value->Act}
  (hc:Y.calm=true)(T:Turn Y.prog Y.w Y.K tg J fp it tn)(st:tn 0 s.heap)(hf:∀b∈fp,FpOk Y pins H b)
  (hturn:∀(Q:PySem.Fin->Shared->Prop)(E:Value->Shared->Prop)(s:Shared),wpAny (model Y.prog Y.w) Y.A (pyNext (.ref it)) (λr s1=>match r with
   |none=>Q (.done .next) s1
   |some v=>wpAny (model Y.prog Y.w) Y.A (letOwnedTupleGo tg (.ref it) v) (λ_ s2=>act v (λs3=>Q (.again (.compLoop (.ListComp elt gens scope cpos) d (.ref it) (.ref D) Y.env)) s3) s2) E s1) E s ->
   wpAny (model Y.prog Y.w) Y.A (compTurn (.ListComp elt gens scope cpos) d (.ref it) (.ref D) Y.env) Q E s)
  (hact:∀(x:V)(u:Value),RelV x u->BodyOk Y σ (act u) (body x))
  (I:Inv Y pins σ H s)(h:QgG J body Qn H)(hR:∀s' H',Inv Y pins σ H' s'->Qn H'->R (.ok .next) s') :
  codeAny (model Y.prog Y.w) Y.A (.compLoop (.ListComp elt gens scope cpos) d (.ref it) (.ref D) Y.env) R s:=by
 obtain⟨W,⟨m0,w0⟩,turn⟩:=h;have stat:∀{H':Hp},(∀b∈fp,H' b=none)->∀b∈fp,FpOk Y pins H' b:=λhn b hb=>⟨hn b hb,(hf b hb).2⟩
 refine codeAny_loop rfl (λn s'=>∃i H',Inv Y pins σ H' s'/\tn i s'.heap/\(∀b∈fp,H' b=none)/\W i n H') (λn s3 hI=>?_) m0 ⟨0,H,I,st,λb hb=>(hf b hb).1,w0⟩;show wpAny _ Y.A ((compTurn (.ListComp elt gens scope cpos) d (.ref it) (.ref D) Y.env).onRaise (λx=>do noteFrame x Y.env;theTreesLotGoes x)) _ _ s3;refine wpAny_noted (hturn _ _ _ ?_);obtain⟨i,H3,I3,st3,fr3,w3⟩:=hI;rcases turn i n H3 w3 with⟨stop,qn⟩ | ⟨go,step⟩
 ·refine thn (T.done Y rfl rfl rfl hc i pins s3 σ H3 _ I3 (stat fr3) st3 stop) λr s4 ⟨hr,I4⟩=>?_
  subst hr;exact hR s4 H3 I4 qn
 ·refine thn (T.item Y rfl rfl rfl hc i pins s3 σ H3 _ I3 (stat fr3) st3 go) λr s4 ⟨u,hr,h4⟩=>?_
  subst hr;refine thn h4 λ_ s5 ⟨x,H5,I5,r5,y5,st5,fr5⟩=>?_
  have I5':=I5.pinned (stat fr5) (T.obj _ _ st5);refine hact x u r5 _ s5 H5 _ _ I5' (step x H5 y5) λs7 H7 I7 ⟨m',hm,w7⟩=>?_
  refine⟨rfl,m',hm,i+1,H7,I7.unpinned,T.keep _ _ _ st5 λb hb o e=>(I7.pin (b,o) (Q6 _ (Q6 _ (Qaz hb e)))).1,λb hb=>?_,w7⟩;obtain⟨o,e,dd⟩:=T.obj _ _ st5 b hb;exact(I7.pin (b,o) (Q6 _ (Q6 _ (Qaz hb e)))).2.1
abbrev QhW (ifs:List QP) (env:Env):Sem Bool:=forIn ifs true λc r=>if r=true then do let ok <- isTrue c env (eval c env);pure (JT ok) else pure (JT r)
def PTs(Y:Cx)(ifs:List QP)(t:TT):Prop:=
 ∀(pins:List (Addr×Obj))(s:Shared)(σ:St)(H:Hp)(Q:Bool->Hp->Prop),Inv Y pins σ H s->t σ H Q->wpAny (model Y.prog Y.w) Y.A (QhW ifs Y.env) (TP Y pins σ Q) Y.xe s
def QhY:TT:=λ_ H Q=>Q true H
theorem QlL{Y:Cx}:PTs Y [] QhY:=λpins s σ H Q I h=>wpAny_tests_nil ⟨H,I,h⟩
theorem QsQ{Y:Cx}{c:QP}{t:TT}(h:PT Y c t):PTs Y [c] t:=λpins s σ H Q I q=>wpAny_tests_one (h pins s σ H Q I q)
def QnA(Y:Cx)(tg:QP)(ifs:List QP)(inner:Act):Value->Act:=λu Q s=>
 wpAny (model Y.prog Y.w) Y.A (assign tg Y.env u) (λ_ s4=>wpAny (model Y.prog Y.w) Y.A (QhW ifs Y.env) (λok s5=>if ok=true then inner Q s5 else Q s5) (λ_ _=>False) s4) (λ_ _=>False) s
def bOf(σ:St)(g:TG)(tc:TT)(inner:St->Hp->(Hp->Prop)->Prop):V->Hp->(Hp->Prop)->Prop:=λx H k=>g x σ H λσ4 H4=>Wk σ σ4/\tc σ4 H4 λb H5=>
 if b=true then inner σ4 H5 k else k H5
theorem Qdw{Y:Cx}{σ:St}{tg:QP}{ifs:List QP}{g:TG}{tc:TT}{inner:Act}{ri:St->Hp->(Hp->Prop)->Prop}(hx:Y.xe=λ_ _=>False)(hg:PG Y tg g)(ht:PTs Y ifs tc)(he:∀σ4,BodyOk Y σ4 inner (ri σ4))(x:V)(u:Value)(r:RelV x u) :
  BodyOk Y σ (QnA Y tg ifs inner u) (bOf σ g tc ri x):=by
 intro pins s H k Q I h hQ;have hx':∀(v:Value)(s':Shared),Y.xe v s'->False:=λv s' z=>by rw[hx] at z;exact z
 refine wpAny_mono (hg pins s σ H x u _ I r h) (λ_ s4 ⟨σ4,H4,I4,wk,q4⟩=>?_) hx';refine wpAny_mono (ht pins s4 σ4 H4 _ I4 q4) (λb s5 ⟨H5,I5,q5⟩=>?_) hx';cases b with
 |false=>
  rw[if_neg QC] at q5;rw[if_neg QC];exact hQ s5 H5 (I5.wk wk) q5
 |true=>
  rw[if_pos rfl] at q5;rw[if_pos rfl];exact he σ4 pins s5 H5 k Q I5 q5 λs' H' I' k'=>hQ s' H' (I'.wk wk) k'
def QnD(Y:Cx)(elt:QP)(D:Addr):Act:=λQ s=>wpAny (model Y.prog Y.w) Y.A (eval elt Y.env) (λv s6=>wpAny (model Y.prog Y.w) Y.A (call (.builtin "list.append") [.ref D,v]) (λ_ s7=>Q s7) (λ_ _=>False) s6) (λ_ _=>False) s
def QuD(p:Addr)(te:TE):St->Hp->(Hp->Prop)->Prop:=λσ H k=>te σ H λv H6=>∃ys,H6 p=some (.lst ys)/\ys.length<sizeLine/\k (upd H6 p (.lst (ys++[v])))
theorem Qgi{Y:Cx}{σ:St}{elt:QP}{te:TE}{D:Addr}(hx:Y.xe=λ_ _=>False)(he:PE Y elt te):BodyOk Y σ (QnD Y elt D) (QuD D te σ):=by
 intro pins s H k Q I h hQ;have hx':∀(v:Value)(s':Shared),Y.xe v s'->False:=λv s' z=>by rw[hx] at z;exact z
 refine wpAny_mono (he pins s σ H _ I h) (λv s6 ⟨y,H6,I6,r6,ys,e,hz,q⟩=>?_) hx';exact wpAny_mono (Qg9 (X:=Y) pins s6 σ H6 (.ref D) [y] (.ref D) [v] (λ_ H'=>k H') I6 rfl (.cons r6 .nil) ⟨D,ys,y,rfl,rfl,e,hz,q⟩) (λ_ s7 ⟨_,H7,I7,_,q7⟩=>hQ s7 H7 I7 q7) hx'
theorem QiO{Y:Cx}{elt tg iter:QP}{ifs:List QP}{scope:Z5}{cpos:Pos}{it D:Addr}(Q:PySem.Fin->Shared->Prop)(E:Value->Shared->Prop)(s:Shared)
  (h:wpAny (model Y.prog Y.w) Y.A (pyNext (.ref it)) (λr s1=>match r with
   |none=>Q (.done .next) s1
   |some v=>wpAny (model Y.prog Y.w) Y.A (letOwnedTupleGo tg (.ref it) v) (λ_ s2=>QnA Y tg ifs (QnD Y elt D) v (λs3=>Q (.again (.compLoop (.ListComp elt [⟨tg,iter,ifs,0⟩] scope cpos) 0 (.ref it) (.ref D) Y.env)) s3) s2) E s1) E s) :
  wpAny (model Y.prog Y.w) Y.A (compTurn (.ListComp elt [⟨tg,iter,ifs,0⟩] scope cpos) 0 (.ref it) (.ref D) Y.env) Q E s:=by
 rw[compTurn_list];refine wpAny_bind (wpAny_standAt (wpAny_bind (thn h λr s1 h1=>?_)));cases r with
 |none=>exact Qe h1
 |some v=>
  refine wpAny_bind (thn h1 λ_ s2 h2=>?_);refine wpAny_bind (wpAny_mono h2 (λ_ s4 h4=>wpAny_bind (wpAny_mono h4 (λok s5 h5=>?_) λ_ _ f=>f.elim)) λ_ _ f=>f.elim);cases ok with
  |false=>exact Qe h5
  |true=>exact wpAny_bind (wpAny_bind (wpAny_mono h5 (λx s6 h6=>wpAny_bind (wpAny_mono h6 (λ_ s7 h7=>Qe (Qe h7)) λ_ _ f=>f.elim)) λ_ _ f=>f.elim))
def tComp(cap:List (Option Nat))(wi:TI)(g:TG)(tc:TT)(te:TE):TE:=λσ H Q=>wi σ H λJ H1=>∀p,H1 p=none->QgG J (bOf (Qc0 cap σ) g tc (QuD p te)) (Q (.ref p)) (upd H1 p (.lst []))
theorem FpOk.upd{X:Cx}{pins:List (Addr×Obj)}{H:Hp}{b a:Addr}{o:HO}(h:FpOk X pins H b)(hne:b≠a):FpOk X pins (upd H a o) b:=⟨by rw[JO hne];exact h.1,h.2⟩
theorem Qje{X:Cx}{M:List Str}{cap:List (Option Nat)}{elt tg iter:QP}{ifs:List QP}{scope:Z5}{pos:Pos}{wi:TI}{g:TG}{tc:TT}{te:TE}(hc:X.calm=true)(ok:Qcr X.N X.env.scope M scope cap=true)
  (hi:PI X tg iter wi)(hb:∀cl ex s3 H3 C,PG (blk X M scope cl ex s3 H3 C) tg g/\PTs (blk X M scope cl ex s3 H3 C) ifs tc/\PE (blk X M scope cl ex s3 H3 C) elt te)
  (hs:∀x,foldedSetIterable iter X.env x=pure x:=by intro _;rfl):PE X (.ListComp elt [⟨tg,iter,ifs,0⟩] scope pos) (tComp cap wi g tc te):=by
 intro pins s σ H Q I h;have c:=CapOk.of ok;rw[eval_ListComp];refine Z4 (use:=none) rfl hs (Qez (I.ok.cells c)) c.kind c.loc ?_
 refine thn (hi pins s σ H _ I h) λv s1 h1=>thn h1 λitv s2 h2=>?_
 obtain⟨it,fp,tn,J,H2,e,I2,T,st2,f2,hW⟩:=h2;subst e;refine JC (Y2 c.cell (by intro y hy;simp at hy) (λh₁ hns₁ hsb₁=>?_) c.kind);have I3:Inv X pins σ (upd H2 s2.heap.objs.size (.lst [])) { s2 with heap:=s2.heap.push { cls:=.type "list",data:=.seq ([]:List Value).toArray } }:=I2.lnew (t':=s2.toks) (ys:=[]) .nil (Qw _);have lt2:∀b∈fp,b<s2.heap.objs.size:=λb hb=>by obtain⟨o,e,_⟩:=T.obj _ _ st2 b hb;exact Qp e
 have f3:∀b∈fp,FpOk X pins (upd H2 s2.heap.objs.size (.lst [])) b:=λb hb=>(f2 b hb).upd (QD (lt2 b hb))
 generalize hs3:({ s2 with heap:=s2.heap.push { cls:=.type "list",data:=.seq ([]:List Value).toArray } }:Shared)=s3 at I3;have e3:s3.heap=s2.heap.push { cls:=.type "list",data:=.seq ([]:List Value).toArray }:=by rw[<- hs3]
 have z3:s3.heap.objs.size=s2.heap.objs.size+1:=by rw[e3,ZN]
 have hk:∀b o,s3.heap.get? b=some o->h₁.get? b=some o:=λb o e=>hsb₁.extBut b o (by
  have:=Qp e;rw[e3] at this;exact QD this) (Qc _ (e3 ▸ e))
 have hn₁:h₁.Ns s3.heap.objs.size λ_=>none:=by rw[e3];exact hns₁
 have B:=QbX (t4:=s3.toks+([]:List (Str×Value)).length) (fp:=fp) I3 c f3 (λb hb=>by rw[z3];exact Qap (lt2 b hb)) hn₁ hk;have st4:tn 0 h₁:=T.keep _ _ _ st2 λb hb o e=>hk b o (by rw[e3];exact Qc _ e)
 have fp4:∀b∈fp,FpOk (blk X M scope (Qa4 X.env scope.names []) fp s3 (upd H2 s2.heap.objs.size (.lst [])) s3.heap.objs.size) [] (upd H2 s2.heap.objs.size (.lst [])) b:=λb hb=>by
  refine⟨(f3 b hb).1,(B.ok.exf b hb).1,B.ok.exfs b hb,.inl hb,(B.ok.exf b hb).2,λp hp=>(nomatch hp)⟩
 obtain⟨hg,ht,he⟩:=hb (Qa4 X.env scope.names []) fp s3 (upd H2 s2.heap.objs.size (.lst [])) s3.heap.objs.size;have loop:codeAny (model X.prog X.w) X.A (.compLoop (.ListComp elt [⟨tg,iter,ifs,0⟩] scope pos) 0 (.ref it) (.ref s2.heap.objs.size) (compEnvC scope (Qa4 X.env scope.names []) s3.heap.objs.size X.env))
   (compPost (model X.prog X.w) X.A X.xe none (EP X pins σ Q) (.ref s2.heap.objs.size) s3.heap.objs.size) { s3 with heap:=h₁,toks:=s3.toks+([]:List (Str×Value)).length }:=by
  refine QbT (Y:=blk X M scope (Qa4 X.env scope.names []) fp s3 (upd H2 s2.heap.objs.size (.lst [])) s3.heap.objs.size) (gens:=[⟨tg,iter,ifs,0⟩]) (d:=0) hc T st4 fp4
   (λQ E s h=>QiO Q E s h) (λx u r=>Qdw rfl hg ht (λσ4=>Qgi rfl he) x u r) B (hW _ (I2.hok.fresh (Qi _))) λs' H' I' q=>?_
  obtain⟨m,hn,_⟩:=I'.loc;exact⟨m,hn,λh' hs'=>⟨.ref s2.heap.objs.size,H',Qgj I3 f3 I' hs',rfl,q⟩⟩
 exact QaL loop (T.self _ 0 _ _ _ st4 loop)
section
variable{X:Cx}
theorem Zx:CallR X (.builtin "isinstance") (λxs H Q=>∃x t T b,xs=[x,.ty T]/\TyOf X.K H x t/\PySem.W.kitOne X.K t (.type T)=some b/\Q (.bl b) H):=by
 intro pins s σ H xs us Q I r h;obtain⟨x,t,T,b,rfl,ty,e,q⟩:=h;obtain⟨u,v,rfl,ru,rv⟩:=vals2 r;cases(show v=Yv T from rv);exact QmI I ru ty e λtk=>⟨.bl b,H,I.tok tk,rfl,q⟩
theorem QpR{bs:List Bool}:∀{us:List Value},Vals (bs.map V.bl) us->LSm.BoolsAre us bs:=by
 induction bs with
 |nil=>intro us r;cases r;exact .nil
 |cons b bs ih=>
  intro us r;cases r with
  |cons r t=>
   cases(show _=Zz b from r);exact .cons b (ih t)
theorem Qd5:CallR X (.builtin "all") (λxs H Q=>∃(p:Addr)(bs:List Bool),xs=[.ref p]/\SqL X.K H p (bs.map V.bl)/\X.calm=true/\Q (.bl (bs.all id)) H):=by
 intro pins s σ H xs us Q I r h;obtain⟨p,bs,rfl,hp,hc,q⟩:=h;obtain⟨u,rfl,ru⟩:=vals1 r;cases ru;obtain⟨its,rv,pl,hz⟩:=I.list hp;have hl:=pl.isList;have hb:=QpR rv;have hlt:p<s.heap.objs.size:=by obtain⟨_,e,_⟩:=hl;exact Qp e
 refine call_all_walk (QxH hl ?_);refine⟨s.heap.objs.size,[s.heap.objs.size,p],[s.heap.objs.size],its.toArray.size,_,_,λi=>(bs[i]?).getD true,rfl,Walks.list (A:=X.A.in1) (I.ok.hd hc) _ p (QD hlt) its.toArray,
  ⟨⟨_,QB _ rfl,rfl,rfl⟩,hl.push _⟩,λi v s' Q' E' hP hQ=>?_,λh' tk hk=>?_⟩
 ·obtain⟨b,e,rfl⟩:=hb.get i v (by simpa using hP);simp only[e,Option.getD_some] at hQ;exact Zs hQ
 ·have e:((QQ its.toArray.size).all λi=>(bs[i]?).getD true)=bs.all id:=by
   rw[Qr,hb.length];exact LSm.range_all bs
  rw[e];exact⟨.bl _,H,I.kept (LSm.kept_iter hk),rfl,q⟩
def QzA:V->Option Int->Option Int->Hp->VK->Prop:=λx lo hi H Q=>∃a xs,x=.ref a/\H a=some (.tup xs)/\∀p H',Same H H'->H' p=some (.tup (QjK xs lo hi))->Q (.ref p) H'
theorem Ji{H:Hp}{p:Addr}{o:HO}(h:H p=none):Same H (upd H p o):=λb u e=>by rw[JO (ZE e h)];exact e
theorem Qcp{prog:Qy}{w:Jg}{A:Q5}{E:Value->Shared->Prop}{s:Shared}{t sl:Addr}{items:Array Value}{vl vu:Value}{lo hi:Option Int}{Q:Value->Shared->Prop}(ht:IsTup s.heap t items)(hs:s.heap.IsSliceOf sl vl vu .none)(pl:QhI vl lo)(pu:QhI vu hi)
  (h1:HT.sIx items.size 0 lo=0)(h2:HT.sIx items.size items.size hi=items.size)(h:Q (.ref t) s):wpAny (model prog w) A (getItem (.ref t) (.ref sl)) Q E s:=by
 obtain⟨os,hos,hcs,hds⟩:=id hs;have hTs:s.TypeIs (.ref sl) "slice" := ⟨os,hos,hcs⟩;unfold getItem
 try with_reducible refine Zg ?_
 first | refine wpAny_bind (Qe ?_) | skip
 refine wpAny_bind (QxG ht.typeIs (by decide) ?_);refine wpAny_bind (ZF (name:=Qbp "__getitem__") ht.typeIs JX
  (ZO JX ht.typeIs QuG ?_ (Qxm _ _)))
 show wpAny _ _ (Qdx (.ref t) >>= _) _ _ s;refine wpAny_bind (tupleItemsOf_ ht ?_);refine wpAny_bind (QhB hTs ?_);rw[if_pos (by decide)];refine wpAny_bind (HT.Qbs hs pl pu ?_);show wpAny _ _ (if(((HT.sIx items.size 0 lo:Nat):Int) == 0&&(1:Int) == 1&&(HT.sIx items.size items.size hi - HT.sIx items.size 0 lo) == items.size)=true then _ else _) _ _ s;rw[if_pos (by rw[h1,h2];simp)];refine wpAny_bind (m:=Qya _) (wpAny_bind (QhB ht.typeIs (Qe ?_)));rw[if_pos (by decide)];exact wpAny_bind (wpAny_rule (Qe ⟨_,rfl,Qe h⟩))
theorem Qva:SlR X QzA:=by
 intro pins s σ H x v vl vu lo hi sl Q I rx hs pl pu h;obtain⟨a,xs,rfl,hx,q⟩:=h;by_cases hw:HT.sIx xs.length 0 lo=0/\HT.sIx xs.length xs.length hi=xs.length
 ·cases rx;obtain⟨its,r,ht,hz⟩:=I.tuple (SqT.of hx);have hlen:its.toArray.size=xs.length:=by rw[Qr];exact r.length.symm
  refine⟨"tuple",_,JX.lookup,ht.typeIs,?_⟩;refine Qcp ht hs pl pu (by rw[hlen];exact hw.1) (by rw[hlen];exact hw.2) ?_
  refine⟨.ref a,H,I,rfl,q a H (Same.refl H) ?_⟩;have e:QjK xs lo hi=xs:=by
   unfold QjK;rw[hw.1,hw.2];simp
  rw[e];exact hx
 ·exact Qu9 pins s σ H (.ref a) v vl vu lo hi sl Q I rx hs pl pu ⟨a,xs,rfl,SqT.of hx,hw,λp hp=>q p _ (Ji hp) Jl⟩
def Qvn:R2:=λx y H Q=>∃a b xs ys,x=.ref a/\y=.ref b/\H a=some (.tup xs)/\H b=some (.tup ys)/\xs.length+ys.length<=sizeLine/\∀p H',Same H H'->H' p=some (.tup (xs++ys))->Q (.ref p) H'
theorem Qtu:OpR X (binaryOp .Add) Qvn:=by
 intro pins s σ H x y v u Q I rx ry h;obtain⟨a,b,xs,ys,rfl,rfl,ha,hb,hz,q⟩:=h;by_cases hx:xs=[]
 ·subst hx;cases rx;cases ry;obtain⟨its,r1,p1,_⟩:=I.tuple (SqT.of ha);obtain⟨its2,r2,p2,_⟩:=I.tuple (SqT.of hb);cases r1;obtain⟨⟨cls,dd,data,sl⟩,ho,hc,n,hd⟩:=id p1;obtain⟨⟨cls2,dd2,data2,sl2⟩,ho2,hc2,n2,hd2⟩:=id p2;simp only at hc hd hc2 hd2;subst hc hd hc2 hd2;exact Qr2 ⟨_,ho,rfl⟩ ⟨_,ho2,rfl⟩ QhO QnR PySem.F.slot_tuple_add PySem.F.entry_tuple_add (PySem.F.args_tuple_add_2 _ _)
   (tuple_addW0 a b #[] its2.toArray n n2 dd dd2 sl sl2 rfl) ⟨ho,ho2,⟨.ref b,H,I,rfl,q b H (Same.refl H) hb⟩⟩
 ·exact Qtt pins s σ H _ _ v u Q I rx ry ⟨a,b,xs,ys,rfl,rfl,SqT.of ha,SqT.of hb,hx,hz,λe=>q a H (Same.refl H) (by rw[e,JB];exact ha),λ_ p hp=>q p _ (Ji hp) Jl⟩
def Qyo:TE:=λ_ H Q=>∀p,H p=none->Q (.ref p) (upd H p (.dK []))
theorem Qs1{pos:Pos}:PE X (.Dict [] [] pos) Qyo:=λpins s σ H Q I h=>by
 refine wpAny_Dict_empty ⟨.ref s.heap.objs.size,_,I.laid (a:=s.heap.objs.size) (o:=.dK []) (t':=s.toks) (λ_ _ q=>Qc _ q) (Qi _) ?_,rfl,h _ (I.hok.fresh (Qi _))⟩;have hb:sysModules<s.heap.objs.size:=Nat.lt_trans (by decide) (I.mod.glob.keeps I.bk).lt;exact⟨Qw _,beq_eq_false_iff_ne.mpr (QcZ (QD hb)),[],.nil,Qj1 s.heap⟩
end
end L2
namespace Rz
open Sem (wp)
section
variable{prog:Qy}{w:Jg}{A:Q5}{E:Value->Shared->Prop}{s:Shared}
theorem QfZ{it t:Addr}{i:Nat}{items:Array Value}{x:Value}{Q:Value->Shared->Prop}(hit:s.heap.IsTupleIter it t i)(ht:s.heap.IsTuple t items)(hx:items[i]? = some x)
  (hQ:∀h',h'.IsTupleIter it t (i+1)->Qax it s.heap h'->Q x { s with heap:=h' }):wpAny (model prog w) A (JH (.ref it)) Q E s:=by
 obtain⟨o,ho,hc,hd⟩:=id hit;obtain⟨ol,hol,_,nl,hdl⟩:=ht;unfold JH;refine wpAny_bind (ZF (name:=Qbp "__next__") hit.typeIs YQ
  (ZO YQ hit.typeIs QhP ?_ (QhK _)))
 show wpAny _ _ (field (.ref it) 0 >>= _) _ _ s;refine wpAny_bind (J7 ho hd (x:=.ref t) rfl ?_);show wpAny _ _ (if(JF t == Zd)=true then _ else _) _ _ s;rw[if_neg (show ¬((JF t == Zd)=true) from QC)];show wpAny _ _ (field (.ref it) 1 >>= _) _ _ s;refine wpAny_bind (J7 ho hd (x:=.int i 0) rfl ?_);show wpAny _ _ (seqItems? (.ref t) >>= _) _ _ s;refine wpAny_bind (Yu hol hdl ?_);simp only[QK,hx];refine wpAny_bind (wpAny_setField ho hd (by simp) (Qe ⟨x,rfl,Qe (hQ _ ?_ (Qgp ..))⟩));exact⟨_,QkV _ ho (Obj.isFreed_of_fields (Qp0 hd _)),(Obj.cls_mapFields ..).trans hc,by
  rw[Qp0 hd];simp[rawInt]⟩
theorem Qmp{it t:Addr}{i:Nat}{items:Array Value}{Q:Value->Shared->Prop}(hh:A.handled=none)(hit:s.heap.IsTupleIter it t i)(ht:s.heap.IsTuple t items)(hx:items[i]? = none)
  (hE:∀h' e,Heap.ExtBut it s.heap h'->(∃o,h'.get? e=some o/\o.cls=.type "StopIteration")->E (.ref e) { s with heap:=h' }):wpAny (model prog w) A (JH (.ref it)) Q E s:=by
 obtain⟨o,ho,hc,hd⟩:=id hit;obtain⟨ol,hol,_,nl,hdl⟩:=ht;unfold JH;refine wpAny_bind (ZF (name:=Qbp "__next__") hit.typeIs YQ
  (ZO YQ hit.typeIs QhP ?_ (QhK _)))
 show wpAny _ _ (field (.ref it) 0 >>= _) _ _ s;refine wpAny_bind (J7 ho hd (x:=.ref t) rfl ?_);show wpAny _ _ (if(JF t == Zd)=true then _ else _) _ _ s;rw[if_neg (show ¬((JF t == Zd)=true) from QC)];show wpAny _ _ (field (.ref it) 1 >>= _) _ _ s;refine wpAny_bind (J7 ho hd (x:=.int i 0) rfl ?_);show wpAny _ _ (seqItems? (.ref t) >>= _) _ _ s;refine wpAny_bind (Yu hol hdl ?_);simp only[QK,hx];refine wpAny_bind (wpAny_rule (wpAny_bind (wpAny_setField ho hd (by simp) ?_)));show wpAny _ _ (newExc (.type "StopIteration") [] >>= _) _ _ _;refine wpAny_bind ?_
 simp only[newExc,newTuple];refine wpAny_bind (JC ?_ (by size_fits));refine wpAny_bind (m:=firstArgMember _ _) (YM (a:=Zd) (by first | rfl | (simp only[firstArgMember];rfl)) ?_);refine JC ?_ (by size_fits)
 simp only[raiseNew];refine wpAny_bind (wpAny_handled ?_)
 first | rw[show A.in1.handled=none from hh] | rw[hh]
 refine wpAny_bind (Qe (wpAny_throw ?_));exact hE _ _ (((Qgp ..).extBut.push _).push _) ⟨_,QB _ rfl,rfl⟩
structure Apart (z TI TO i1 i2 t1 t2:Addr):Prop where
 a1:TI≠z
 a2:TO≠z
 a3:i1≠z
 a4:i2≠z
 a5:TI≠TO
 a6:TI≠i1
 a7:TI≠i2
 a8:TO≠i1
 a9:TO≠i2
 b1:i1≠i2
 b2:t1≠z/\t1≠TO/\t1≠i1/\t1≠i2
 b3:t2≠z/\t2≠TO/\t2≠i1/\t2≠i2
structure QnE (h:J5) (z TI TO i1 i2 t1 t2:Addr) (f:Value) (k:Nat):Prop where
 zp:Qsa h z TI TO f
 ti:IsPair h TI (.ref i1) (.ref i2)
 to:∃a b,IsPair h TO a b
 i1:h.IsTupleIter i1 t1 k
 i2:h.IsTupleIter i2 t2 k
theorem Qmq{z TI TO i1 i2 t1 t2:Addr}{k:Nat}{xs ys:Array Value}{x y:Value}{Q:Option Value->Shared->Prop}(D:Apart z TI TO i1 i2 t1 t2)(Z:QnE s.heap z TI TO i1 i2 t1 t2 .none k)
  (hl1:s.heap.IsTuple t1 xs)(hl2:s.heap.IsTuple t2 ys)(hx:xs[k]? = some x)(hy:ys[k]? = some y)
  (hQ:∀h',QnE h' z TI TO i1 i2 t1 t2 (rawInt s.heap.objs.size) (k+1)->IsPair h' s.heap.objs.size x y->(∀c o,c≠z->c≠TO->c≠i1->c≠i2->s.heap.get? c=some o->h'.get? c=some o)->Q (some (.ref s.heap.objs.size)) { s with heap:=h' }) :
  wpAny (model prog w) A (pyNext (.ref z)) Q E s:=by
 obtain⟨hz,hTI,⟨a,b,hTO⟩,h1,h2⟩:=Z;have hT:s.TypeIs (.ref z) "zip" := ⟨_,hz,rfl⟩;unfold pyNext;refine wpAny_bind (Qcz (ZF (name:=Qbp "__next__") hT Qc4 (ZO Qc4 hT Qxy ?_ (QuP _))));show wpAny _ _ (field (.ref z) 2 >>= _) _ _ _;refine wpAny_bind (J7 hz rfl (x:=.bool false) rfl ?_);show wpAny _ _ (field (.ref z) 3 >>= _) _ _ _;refine wpAny_bind (J7 hz rfl (x:=.ref TI) rfl (wpAny_bind (Yu hTI rfl ?_)));show wpAny _ _ (Zo (.ref z) >>= _) _ _ _;refine wpAny_bind ?_
 unfold Zo;refine wpAny_bind (J7 hz rfl (x:=.none) rfl (Qe ?_));simp only[if_true];refine wpAny_bind (wpAny_rule (wpAny_bind (J7 hz rfl (x:=.ref TO) rfl (wpAny_bind (Yz hz (by simp) λg1 z1 s1=>?_)))))
 replace z1:Qsa g1 z TI TO .ellipsis:=z1
 refine wpAny_bind ?_
 simp only[QeS,Quw,Qgn,QuM];refine wpAny_bind (wpAny_bind (Qfu ?_));show wpAny _ _ (JH (.ref i1) >>= _) _ _ _;refine wpAny_bind (QfZ (h1.extBut s1.extBut D.a3) (hl1.extBut s1.extBut D.b2.1) hx λg2 p2 s2=>Qe ?_);have o2:IsPair g2 TO a b:=s2.extBut _ _ D.a8 (s1.extBut _ _ D.a2 hTO);refine wpAny_bind (Yu o2 rfl (wpAny_bind (Qd6 o2 λg3 o3 s3=>wpAny_bind (QuE (Qe ?_)))))
 replace o3:IsPair g3 TO x b:=o3
 refine wpAny_bind (wpAny_bind (Qfu ?_));show wpAny _ _ (JH (.ref i2) >>= _) _ _ _;refine wpAny_bind (QfZ (((h2.extBut s1.extBut D.a4).extBut s2.extBut D.b1.symm).extBut s3.extBut D.a9.symm)
  (((hl2.extBut s1.extBut D.b3.1).extBut s2.extBut D.b3.2.2.1).extBut s3.extBut D.b3.2.1) hy λg4 p4 s4=>Qe ?_)
 have o4:IsPair g4 TO x b:=s4.extBut _ _ D.a9 o3;refine wpAny_bind (Yu o4 rfl (wpAny_bind (Qd6 o4 λg5 o5 s5=>wpAny_bind (QuE (Qe (Qe ?_))))))
 replace o5:IsPair g5 TO x y:=o5
 refine wpAny_bind (Yu o5 rfl (wpAny_bind (wpAny_newTuple ?_)));have sz:g5.objs.size=s.heap.objs.size:=by rw[s5.1,s4.1,s3.1,s2.1,s1.1]
 have kp:∀c o,c≠z->c≠TO->c≠i1->c≠i2->s.heap.get? c=some o->g5.get? c=some o:=λc o c1 c2 c3 c4 e=>
  s5.extBut _ _ c2 (s4.extBut _ _ c4 (s3.extBut _ _ c2 (s2.extBut _ _ c3 (s1.extBut _ _ c1 e))))
 have z5:Qsa g5 z TI TO .ellipsis:=s5.extBut _ _ D.a2.symm (s4.extBut _ _ D.a4.symm (s3.extBut _ _ D.a2.symm (s2.extBut _ _ D.a3.symm z1)));have q1:g5.IsTupleIter i1 t1 (k+1):=((p2.extBut s3.extBut D.a8.symm).extBut s4.extBut D.b1).extBut s5.extBut D.a8.symm;have q2:g5.IsTupleIter i2 t2 (k+1):=p4.extBut s5.extBut D.a9.symm;show wpAny _ _ (Qa6 (.ref z) (.ref g5.objs.size) >>= _) _ _ _;refine wpAny_bind ?_
 unfold Qa6;have z6:Qsa (g5.push { cls:=.type "tuple",data:=.seq #[x,y] }) z TI TO .ellipsis:=Qc _ z5;refine wpAny_bind (Yz z6 (by simp) λg7 z7 s7=>?_)
 replace z7:Qsa g7 z TI TO (rawInt g5.objs.size):=z7
 refine Yz z7 (by simp) λg8 z8 s8=>?_
 replace z8:Qsa g8 z TI TO (rawInt g5.objs.size):=z8
 have up:∀c o,c≠z->g5.get? c=some o->g8.get? c=some o:=λc o c1 e=>s8.extBut _ _ c1 (s7.extBut _ _ c1 (Qc _ e))
 have ne:g5.objs.size≠z:=QcA (Qp z5);have t8:IsPair g8 g5.objs.size x y:=s8.extBut _ _ ne (s7.extBut _ _ ne (QB _ rfl));rw[sz] at z8 t8;refine Qe ⟨_,rfl,Qe ?_⟩;show Q (some (.ref g5.objs.size)) _;rw[sz];exact hQ g8 ⟨z8,up _ _ D.a1 (kp _ _ D.a1 D.a5 D.a6 D.a7 hTI),⟨x,y,up _ _ D.a2 o5⟩,q1.at λo e=>up _ o D.a3 e,q2.at λo e=>up _ o D.a4 e⟩ t8 λc o c1 c2 c3 c4 e=>up c o c1 (kp c o c1 c2 c3 c4 e)
theorem Qpg{z TI TO i1 i2 t1 t2:Addr}{k:Nat}{xs ys:Array Value}{Q:Option Value->Shared->Prop}(hh:A.handled=none)(D:Apart z TI TO i1 i2 t1 t2)(Z:QnE s.heap z TI TO i1 i2 t1 t2 .none k)
  (hl1:s.heap.IsTuple t1 xs)(hl2:s.heap.IsTuple t2 ys)(hend:xs[k]? = none∨ys[k]? = none)
  (hQ:∀h',(∀c o,c≠z->c≠TO->c≠i1->c≠i2->s.heap.get? c=some o->h'.get? c=some o)->Q none { s with heap:=h' }):wpAny (model prog w) A (pyNext (.ref z)) Q E s:=by
 obtain⟨hz,hTI,⟨a,b,hTO⟩,h1,h2⟩:=Z;have hT:s.TypeIs (.ref z) "zip" := ⟨_,hz,rfl⟩;have fin:∀(h':J5)(e:Addr),(∀c o,c≠z->c≠TO->c≠i1->c≠i2->s.heap.get? c=some o->h'.get? c=some o)->(∃o,h'.get? e=some o/\o.cls=.type "StopIteration") ->
   wpAny (model prog w) A (isInstance (.ref e) (.type "StopIteration") >>= λx=>if x=true then pure none else throw (.ref e)) Q E { s with heap:=h' }:=λh' e hk he=>by
  obtain⟨o,ho,hc⟩:=he;refine wpAny_bind (wpAny_isInstance (T := "StopIteration") (b:=true) ⟨o,ho,hc⟩ isSubtype_stop ?_);exact Qe (hQ _ hk)
 unfold pyNext;refine wpAny_bind (Qcz (ZF (name:=Qbp "__next__") hT Qc4 (ZO Qc4 hT Qxy ?_ (QuP _))));show wpAny _ _ (field (.ref z) 2 >>= _) _ _ _;refine wpAny_bind (J7 hz rfl (x:=.bool false) rfl ?_);show wpAny _ _ (field (.ref z) 3 >>= _) _ _ _;refine wpAny_bind (J7 hz rfl (x:=.ref TI) rfl (wpAny_bind (Yu hTI rfl ?_)));show wpAny _ _ (Zo (.ref z) >>= _) _ _ _;refine wpAny_bind ?_
 unfold Zo;refine wpAny_bind (J7 hz rfl (x:=.none) rfl (Qe ?_));simp only[if_true];refine wpAny_bind (wpAny_rule (wpAny_bind (J7 hz rfl (x:=.ref TO) rfl (wpAny_bind (Yz hz (by simp) λg1 z1 s1=>?_)))))
 replace z1:Qsa g1 z TI TO .ellipsis:=z1
 refine wpAny_bind ?_
 simp only[QeS,Quw,Qgn,QuM];refine wpAny_bind (wpAny_bind (Qfu ?_));show wpAny _ _ (JH (.ref i1) >>= _) _ _ _;cases hx:xs[k]? with
 |none=>
  refine wpAny_bind (Qmp hh (h1.extBut s1.extBut D.a3) (hl1.extBut s1.extBut D.b2.1) hx λg2 e s2 he=>?_);obtain⟨oe,hoe,hce⟩:=he;have z2:Qsa g2 z TI TO .ellipsis:=s2 _ _ D.a3.symm z1;have hez:e≠z:=λq=>by subst q;rw[z2] at hoe;cases hoe;simp at hce
  refine Yz z2 (by simp) λg3 _ s3=>?_
  exact fin g3 e (λc o c1 _ c3 _ q=>s3.extBut _ _ c1 (s2 _ _ c3 (s1.extBut _ _ c1 q))) ⟨oe,s3.extBut _ _ hez hoe,hce⟩
 |some x=>
  have hy:ys[k]? = none:=by
   rcases hend with q | q
   ·rw[hx] at q;cases q
   ·exact q
  refine wpAny_bind (QfZ (h1.extBut s1.extBut D.a3) (hl1.extBut s1.extBut D.b2.1) hx λg2 p2 s2=>Qe ?_);have o2:IsPair g2 TO a b:=s2.extBut _ _ D.a8 (s1.extBut _ _ D.a2 hTO);refine wpAny_bind (Yu o2 rfl (wpAny_bind (Qd6 o2 λg3 o3 s3=>wpAny_bind (QuE (Qe ?_)))));refine wpAny_bind (wpAny_bind (Qfu ?_));show wpAny _ _ (JH (.ref i2) >>= _) _ _ _;refine wpAny_bind (Qmp hh (((h2.extBut s1.extBut D.a4).extBut s2.extBut D.b1.symm).extBut s3.extBut D.a9.symm)
   (((hl2.extBut s1.extBut D.b3.1).extBut s2.extBut D.b3.2.2.1).extBut s3.extBut D.b3.2.1) hy λg4 e s4 he=>?_)
  obtain⟨oe,hoe,hce⟩:=he;have z4:Qsa g4 z TI TO .ellipsis:=s4 _ _ D.a4.symm (s3.extBut _ _ D.a2.symm (s2.extBut _ _ D.a3.symm z1));have hez:e≠z:=λq=>by subst q;rw[z4] at hoe;cases hoe;simp at hce
  refine Yz z4 (by simp) λg5 _ s5=>?_
  exact fin g5 e (λc o c1 c2 c3 c4 q=>s5.extBut _ _ c1 (s4 _ _ c4 (s3.extBut _ _ c2 (s2.extBut _ _ c3 (s1.extBut _ _ c1 q))))) ⟨oe,s5.extBut _ _ hez hoe,hce⟩
end
abbrev zh1 (h:J5) (t1:Addr):J5:=h.push { cls:=.type "tuple_iterator",data:=.fields #[.ref t1,.int 0 0] }
abbrev zh2 (h:J5) (t1 t2:Addr):J5:=(zh1 h t1).push { cls:=.type "tuple_iterator",data:=.fields #[.ref t2,.int 0 0] }
abbrev zh3 (h:J5) (t1 t2:Addr):J5:=(zh2 h t1 t2).push { cls:=.type "tuple",data:=.seq #[.ref h.objs.size,.ref (zh1 h t1).objs.size] }
abbrev zh4 (h:J5) (t1 t2:Addr):J5:=(zh3 h t1 t2).push { cls:=.type "tuple",data:=.seq #[.none,.none] }
abbrev zh5 (h:J5) (t1 t2:Addr):J5:=(zh4 h t1 t2).push { cls:=.type "zip",data:=.fields #[.none,.bool false,.bool false,.ref (zh2 h t1 t2).objs.size,.ref (zh3 h t1 t2).objs.size] }
theorem QAw(t1 t2:Addr)(xs ys:Array Value) :
  Meets (QcC.«zip.__new__» ⟨[.type "zip",.ref t1,.ref t2],[]⟩) (λ_ R s=>s.heap.IsTuple t1 xs/\s.heap.IsTuple t2 ys/\R (.ok (.ret (.ref (zh4 s.heap t1 t2).objs.size))) { s with heap:=zh5 s.heap t1 t2 }):=
 .of_wp λprog w A R s h=>by
  obtain⟨hp,g,d,tk,os⟩:=s;obtain⟨hl1,hl2,h⟩:=h;have hsub:=sub_zip;have k1:Qx6 (Qxo ⟨hp,g,d,tk,os⟩) t1 xs:=hl1;have k2:Qx6 (Qxo ⟨hp.push { cls:=.type "tuple_iterator",data:=.fields #[.ref t1,.int 0 0] },g,d,tk,os⟩) t2 ys:=hl2.at λo e=>Qc _ e
  wp_walk using Qft k1,Qft k2
  exact⟨_,rfl,h⟩
section
variable{prog:Qy}{w:Jg}{A:Q5}{E:Value->Shared->Prop}{s:Shared}
theorem QpQ{t1 t2:Addr}{xs ys:Array Value}{Q:Value->Shared->Prop}(hl1:s.heap.IsTuple t1 xs)(hl2:s.heap.IsTuple t2 ys)
  (h:∀h',QnE h' (s.heap.objs.size+4) (s.heap.objs.size+2) (s.heap.objs.size+3) s.heap.objs.size (s.heap.objs.size+1) t1 t2 .none 0->(∀c o,s.heap.get? c=some o->h'.get? c=some o)->Q (.ref (s.heap.objs.size+4)) { s with heap:=h' }) :
  wpAny (model prog w) A (call (.type "zip") [.ref t1,.ref t2]) Q E s:=by
 refine callType_new F.called_zip (by decide) (F.typeCall_zip_2 _ _) (F.newCall_zip_2 _ _) (λobj=>F.args_object_init_3 obj _ _) F.entry_zip_new (QAw t1 t2 xs ys) ⟨hl1,hl2,?_⟩;have z1:(zh1 s.heap t1).objs.size=s.heap.objs.size+1:=ZN ..;have z2:(zh2 s.heap t1 t2).objs.size=s.heap.objs.size+2:=by rw[ZN,z1]
 have z3:(zh3 s.heap t1 t2).objs.size=s.heap.objs.size+3:=by rw[ZN,z2]
 have z4:(zh4 s.heap t1 t2).objs.size=s.heap.objs.size+4:=by rw[ZN,z3]
 have g5:(zh5 s.heap t1 t2).get? (zh4 s.heap t1 t2).objs.size=some _:=QB _ rfl;have g4:(zh5 s.heap t1 t2).get? (zh3 s.heap t1 t2).objs.size=some _:=Qc _ (QB _ rfl);have g3:(zh5 s.heap t1 t2).get? (zh2 s.heap t1 t2).objs.size=some _:=Qc _ (Qc _ (QB _ rfl));have g2:(zh5 s.heap t1 t2).get? (zh1 s.heap t1).objs.size=some _:=Qc _ (Qc _ (Qc _ (QB _ rfl)));have g1:(zh5 s.heap t1 t2).get? s.heap.objs.size=some _:=Qc _ (Qc _ (Qc _ (Qc _ (QB _ rfl))));show _/\_;rw[z2,z3,z4] at g5;rw[z1,z2] at g3;rw[z3] at g4;rw[z1] at g2;rw[z4];exact⟨⟨_,g5,rfl⟩,h _ ⟨g5,g3,⟨_,_,g4⟩,⟨_,g1,rfl,rfl⟩,⟨_,g2,rfl,rfl⟩⟩ λc o x=>Qc _ (Qc _ (Qc _ (Qc _ (Qc _ x))))⟩
end
end Rz
namespace L2
section
variable{X:Cx}{pins:List (Addr×Obj)}{σ:St}{H:Hp}{s:Shared}{h':J5}
theorem Inv.turnedNew{t':Nat}{ch:List Addr}{a:Addr}{o:HO}(I:Inv X pins σ H s)(hch:∀b∈ch,FpOk X pins H b)(k:∀b u,b∉ch->s.heap.get? b=some u->h'.get? b=some u)(hp:s.heap.objs.size<=a)
  (new:ObjOk X.prog X.w (upd H a o) h' a o):Inv X pins σ (upd H a o) { s with heap:=h',toks:=t' }:=by
 have hn:H a=none:=I.hok.fresh hp;have nch:∀b u,H b=some u->b∉ch:=λb u e z=>by rw[(hch b z).1] at e;cases e
 refine I.step (g':=s.gens) (d':=s.drawn) (ch:=ch) (λb hb=>?_) (λb u _ _ hc e _=>k b u hc e) (λb u _ _ hc e _=>⟨u.slots,k b u hc e⟩) (λb u hc e n=>?_) (λb u hc e=>⟨u,k b u hc e⟩)
  (λb xs e=>by rw[JO (ZE e hn)];exact e) (λb u v e=>by rw[JO (ZE e hn)];exact e) (λb ps e=>⟨#[],by rw[JO (ZE e hn),e];simp⟩) (λm hm=>?_) (λb u e=>?_) I.bare
 ·obtain⟨f0,f1,f2,f3,f4,f5⟩:=hch b hb;exact⟨f3,f1,f4,f5⟩
 ·rw[JO (QD (QL (Qp e) hp))];exact n
 ·obtain⟨u,es,ep,ho,r⟩:=hm;exact⟨u,es,ep,k _ u (λz=>(hch _ z).2.1 rfl) ho,r⟩
 ·by_cases hb:b=a
  ·subst hb;rw[Jl] at e;cases e;exact new
  ·rw[JO hb] at e;refine(I.hok b u e).stay (λc v hc q=>k c v ?_ q) (λc q=>by rw[JO (ZE q hn)];exact q) λc xs q=>by rw[JO (ZE q hn)];exact q
   rcases hc with z | z
   ·rw[z];exact nch b u e
   ·exact nch c _ z
theorem Inv.turnedAll{t':Nat}{ch:List Addr}(I:Inv X pins σ H s)(hch:∀b∈ch,FpOk X pins H b)(k:∀b u,b∉ch->s.heap.get? b=some u->h'.get? b=some u):Inv X pins σ H { s with heap:=h',toks:=t' }:=by
 have nch:∀b u,H b=some u->b∉ch:=λb u e z=>by rw[(hch b z).1] at e;cases e
 refine I.step (g':=s.gens) (d':=s.drawn) (ch:=ch) (λb hb=>?_) (λb u _ _ hc e _=>k b u hc e) (λb u _ _ hc e _=>⟨u.slots,k b u hc e⟩) (λb u hc e n=>n) (λb u hc e=>⟨u,k b u hc e⟩)
  (λb xs e=>e) (λb u v e=>e) (λb ps e=>⟨#[],by rw[e];simp⟩) (λm hm=>?_) (λb u e=>?_) I.bare
 ·obtain⟨f0,f1,f2,f3,f4,f5⟩:=hch b hb;exact⟨f3,f1,f4,f5⟩
 ·obtain⟨u,es,ep,ho,r⟩:=hm;exact⟨u,es,ep,k _ u (λz=>(hch _ z).2.1 rfl) ho,r⟩
 ·refine(I.hok b u e).stay (λc v hc q=>k c v ?_ q) (λc q=>q) λc xs q=>q
  rcases hc with z | z
  ·rw[z];exact nch b u e
  ·exact nch c _ z
end
def Itz(t1 t2:Addr):It:=
 ⟨λi H=>∃xs ys x y,H t1=some (.tup xs)/\H t2=some (.tup ys)/\xs[i]? = some x/\ys[i]? = some y,
  λi H v H'=>∃p x y,H p=none/\(∀xs,H t1=some (.tup xs)->xs[i]? = some x)/\(∀ys,H t2=some (.tup ys)->ys[i]? = some y)/\v=.ref p/\H'=upd H p (.tup [x,y]),
  λi H=>∃xs ys,H t1=some (.tup xs)/\H t2=some (.tup ys)/\(xs.length<=i∨ys.length<=i)⟩
theorem Qn0{P:Qy}{w:Jg}{K:PySem.W.Frag}{elts:List QP}{x1}{tpos:Pos}{z TI TO i1 i2 t1 t2:Addr}(D:Rz.Apart z TI TO i1 i2 t1 t2) :
  Turn P w K (.Tuple elts x1 tpos) (Itz t1 t2) [z,TI,TO,i1,i2] z (λi h=>Rz.QnE h z TI TO i1 i2 t1 t2 .none i) where
 mem:=by simp
 obj:=λi h st b hb=>by
  obtain⟨a1,a2,⟨_,_,a3⟩,⟨o4,a4,_,d4⟩,⟨o5,a5,_,d5⟩⟩:=st;simp only[Qz,Jy,or_false] at hb;rcases hb with rfl | rfl | rfl | rfl | rfl
  ·exact⟨_,a1,λv q=>nomatch q⟩
  ·exact⟨_,a2,λv q=>nomatch q⟩
  ·exact⟨_,a3,λv q=>nomatch q⟩
  ·exact⟨_,a4,λv q=>by rw[d4] at q;cases q⟩
  ·exact⟨_,a5,λv q=>by rw[d5] at q;cases q⟩
 keep:=λi h h' st k=>by
  obtain⟨a1,a2,⟨a,b,a3⟩,a4,a5⟩:=st;exact⟨k z (by simp) _ a1,k TI (by simp) _ a2,⟨a,b,k TO (by simp) _ a3⟩,a4.at λo e=>k i1 (by simp) o e,a5.at λo e=>k i2 (by simp) o e⟩
 item:=by
  intro X hP hw hK hc i pins s σ H E I hf st hg;subst hP hw hK;obtain⟨xs,ys,x,y,h1,h2,hx,hy⟩:=hg;obtain⟨its1,r1,p1,_⟩:=I.tuple (SqT.of h1);obtain⟨its2,r2,p2,_⟩:=I.tuple (SqT.of h2);obtain⟨u1,hu1,ru1⟩:=r1.get hx;obtain⟨u2,hu2,ru2⟩:=r2.get hy;refine Rz.Qmq D st (show s.heap.IsTuple t1 its1.toArray from p1) (show s.heap.IsTuple t2 its2.toArray from p2) (by simpa using hu1) (by simpa using hu2) λh' st' tp kp=>?_
  have hlt:∀b∈[z,TI,TO,i1,i2],b≠s.heap.objs.size:=λb hb=>by
   obtain⟨a1,a2,⟨_,_,a3⟩,⟨o4,a4,_,d4⟩,⟨o5,a5,_,d5⟩⟩:=st;simp only[Qz,Jy,or_false] at hb;rcases hb with rfl | rfl | rfl | rfl | rfl
   ·exact QD (Qp a1)
   ·exact QD (Qp a2)
   ·exact QD (Qp a3)
   ·exact QD (Qp a4)
   ·exact QD (Qp a5)
  have fr:H s.heap.objs.size=none:=I.hok.fresh (Qi _);refine⟨_,rfl,QkY st'.zp λh2' z2 s2=>?_⟩;have I1:Inv X pins σ (upd H s.heap.objs.size (.tup [x,y])) { s with heap:=h2',toks:=s.toks }:=by
   refine I.turnedNew (ch:=[z,TI,TO,i1,i2]) hf (λb u hb e=>?_) (Qi _) ⟨by show 2<=sizeLine;decide,[u1,u2],.cons ru1 (.cons ru2 .nil),?_⟩
   ·simp only[Qz,Jy,or_false,not_or] at hb;exact s2.extBut _ _ hb.1 (kp b u hb.1 hb.2.2.1 hb.2.2.2.1 hb.2.2.2.2 e)
   ·exact⟨_,s2.extBut _ _ (hlt z (by simp)).symm tp,rfl,0,rfl⟩
  refine⟨.ref s.heap.objs.size,_,I1,rfl,⟨_,x,y,fr,λxs' e=>?_,λys' e=>?_,rfl,rfl⟩,?_,λb hb=>?_⟩
  ·rw[h1] at e;cases e;exact hx
  ·rw[h2] at e;cases e;exact hy
  ·obtain⟨a1,a2,⟨a,b,a3⟩,a4,a5⟩:=st';exact⟨z2,s2.extBut _ _ D.a1 a2,⟨a,b,s2.extBut _ _ D.a2 a3⟩,a4.extBut s2.extBut D.a3,a5.extBut s2.extBut D.a4⟩
  ·rw[JO (hlt b hb)];exact(hf b hb).1
 done:=by
  intro X hP hw hK hc i pins s σ H E I hf st hg;subst hP hw hK;obtain⟨xs,ys,h1,h2,he⟩:=hg;obtain⟨its1,r1,p1,_⟩:=I.tuple (SqT.of h1);obtain⟨its2,r2,p2,_⟩:=I.tuple (SqT.of h2);have l1:=r1.length;have l2:=r2.length;refine Rz.Qpg (I.ok.hd hc) D st (show s.heap.IsTuple t1 its1.toArray from p1) (show s.heap.IsTuple t2 its2.toArray from p2) ?_ λh' kp=>⟨rfl,I.turnedAll (t':=s.toks) (ch:=[z,TI,TO,i1,i2]) hf λb u hb e=>?_⟩
  ·rcases he with q | q
   ·exact .inl (by simp;omega)
   ·exact .inr (by simp;omega)
  ·simp only[Qz,Jy,or_false,not_or] at hb;exact kp b u hb.1 hb.2.2.1 hb.2.2.2.1 hb.2.2.2.2 e
 self:=λ_ _ _ _ _ st h=>QcV st.zp h
section
variable{X:Cx}
theorem apart_new(n t1 t2:Nat)(h1:t1<n)(h2:t2<n):Rz.Apart (n+4) (n+2) (n+3) n (n+1) t1 t2 where
 a1:=by show ¬(n+2=n+4);omega
 a2:=by show ¬(n+3=n+4);omega
 a3:=by show ¬(n=n+4);omega
 a4:=by show ¬(n+1=n+4);omega
 a5:=by show ¬(n+2=n+3);omega
 a6:=by show ¬(n+2=n);omega
 a7:=by show ¬(n+2=n+1);omega
 a8:=by show ¬(n+3=n);omega
 a9:=by show ¬(n+3=n+1);omega
 b1:=by show ¬(n=n+1);omega
 b2:=⟨by show ¬(t1=n+4);omega,by show ¬(t1=n+3);omega,by show ¬(t1=n);omega,by show ¬(t1=n+1);omega⟩
 b3:=⟨by show ¬(t2=n+4);omega,by show ¬(t2=n+3);omega,by show ¬(t2=n);omega,by show ¬(t2=n+1);omega⟩
def QAG(ta:TA):TI:=λσ H R=>ta σ H λvs H1=>∃t1 t2 xs ys,vs=[.ref t1,.ref t2]/\H1 t1=some (.tup xs)/\H1 t2=some (.tup ys)/\R (Itz t1 t2) H1
theorem Qnr:bootBuiltins "zip" = some (.type "zip"):=by decide +kernel
theorem Qrs{a b:QP}{elts:List QP}{x1}{tpos:Pos}{ta:TA}{p pos:Pos}(hg:Gl X "zip")(hm:X.mg "zip" = none)(ha:PA X [a,b] ta)(hs:starEach [a,b] X.env=[(false,eval a X.env),(false,eval b X.env)]:=by rfl)(hs2:starEach [b] X.env=[(false,eval b X.env)]:=by rfl) :
  PI X (.Tuple elts x1 tpos) (.Call (.Name "zip" p) [a,b] [] pos) (QAG ta):=by
 intro pins s σ H R I h;refine Call_ (Qch I hg hm Qnr (JE (thn (ha pos pins s σ H _ I h) λus s1 ⟨vs,H1,I1,r1,q1⟩=>?_) (by rw[hs,hs2]) (by rw[hs2];rfl)));obtain⟨t1,t2,xs,ys,e,h1,h2,q⟩:=q1;subst e;obtain⟨u,v,rfl,ru,rv⟩:=vals2 r1;cases(show u=JF t1 from ru);cases(show v=JF t2 from rv);obtain⟨its1,w1,p1,_⟩:=I1.tuple (SqT.of h1);obtain⟨its2,w2,p2,_⟩:=I1.tuple (SqT.of h2);have n1:t1<s1.heap.objs.size:=I1.hok.lt h1;have n2:t2<s1.heap.objs.size:=I1.hok.lt h2;refine Rz.QpQ (show s1.heap.IsTuple t1 its1.toArray from p1) (show s1.heap.IsTuple t2 its2.toArray from p2) λh' st kp=>?_
 refine QcV (s:={ s1 with heap:=h' }) st.zp ?_
 have D:=apart_new s1.heap.objs.size t1 t2 n1 n2;refine⟨s1.heap.objs.size+4,_,_,_,H1,rfl,I1.kept (t':=s1.toks) kp,Qn0 D,st,λb hb=>?_,q⟩;have hb':s1.heap.objs.size<=b:=by
  simp only[Qz,Jy,or_false] at hb;rcases hb with rfl | rfl | rfl | rfl | rfl<;>omega
 exact I1.fpOk hb' (I1.hok.fresh hb')
end
end L2
namespace Rk
open L2
def Qzx:Option HO->Option (List V)
 |some (.tup xs)=>some xs
 |_=>none
def QfI(H:Hp):V->Option (List V)
 |.ref a=>Qzx (H a)
 |_=>none
theorem QiQ(H:Hp)(a:Addr):QfI H (.ref a)=Qzx (H a):=rfl
def isT(H:Hp)(x:V):Bool:=(QfI H x).isSome
def isI:V->Bool
 |.int _=>true
 |_=>false
def isB:V->Bool
 |.bl _=>true
 |_=>false
def Kn(p:Addr)(H:Hp):V->Prop
 |.non=>True
 |.bl _=>True
 |.int _=>True
 |.str _=>True
 |.ref a=>a≠p/\((∃xs,H a=some (.tup xs))∨(∃xs,H a=some (.lst xs))∨∃kvs,H a=some (.dK kvs))
 |_=>False
def KnD(p:Addr):Nat->Hp->V->Prop
 |0,H,x=>Kn p H x
 |n+1,H,x=>Kn p H x/\∀xs,QfI H x=some xs->∀y∈xs,KnD p n H y
def KX(p:Addr)(H H':Hp):Prop:=∀b o,b≠p->H b=some o->H' b=some o
theorem KX.refl(p:Addr)(H:Hp):KX p H H:=λ_ _ _ e=>e
theorem KX.of{p:Addr}{H H':Hp}(h:Same H H'):KX p H H':=λb o _ e=>h b o e
theorem KX.new{p q:Addr}{H:Hp}{o:HO}(h:H q=none):KX p H (L2.upd H q o):=KX.of (Ji h)
theorem Kn.keep{p:Addr}{H H':Hp}(k:KX p H H'):∀{x:V},Kn p H x->Kn p H' x
 |.non,h=>h
 |.bl _,h=>h
 |.int _,h=>h
 |.str _,h=>h
 |.ref a,⟨n,h⟩=>⟨n,by
  rcases h with⟨xs,e⟩ | ⟨xs,e⟩ | ⟨xs,e⟩
  ·exact .inl ⟨xs,k a _ n e⟩
  ·exact .inr (.inl ⟨xs,k a _ n e⟩)
  ·exact .inr (.inr ⟨xs,k a _ n e⟩)⟩
 |.byt _,h=>h.elim
 |.flt _,h=>h.elim
 |.ty _,h=>h.elim
theorem KnD.kn{p:Addr}{H:Hp}{x:V}:∀{n:Nat},KnD p n H x->Kn p H x
 |0,h=>h
 |_+1,h=>h.1
theorem KnD.low{p:Addr}{H:Hp}:∀{n:Nat}{x:V},KnD p (n+1) H x->KnD p n H x
 |0,x,h=>h.1
 |n+1,x,h=>⟨h.1,λxs e y hy=>KnD.low (h.2 xs e y hy)⟩
theorem KnD.tup{p:Addr}{H:Hp}{n:Nat}{a:Addr}{xs:List V}(hp:a≠p)(e:H a=some (.tup xs))(h:∀y∈xs,KnD p n H y):KnD p (n+1) H (.ref a):=
 ⟨⟨hp,.inl ⟨xs,e⟩⟩,λys z y hy=>h y (by
  have z':some xs=some ys:=by rw[<- z,QiQ,e];rfl
  cases z';exact hy)⟩
theorem KnD.int{p:Addr}{H:Hp}(i:Int):∀(n:Nat),KnD p n H (.int i)
 |0=>trivial
 |n+1=>⟨trivial,λ_ e=>nomatch e⟩
theorem QgE{H:Hp}{a:Addr}{xs:List V}(e:H a=some (.tup xs)):QfI H (.ref a)=some xs:=by rw[QiQ,e];rfl
theorem Qpu{K:PySem.W.Frag}{p:Addr}{H:Hp}:∀{x:V},Kn p H x->∃t,TyOf K H x t/\PySem.W.kitOne K t (.type "int")=some (isI x||isB x)
 |.non,h=>⟨_,.non,rfl⟩
 |.bl _,h=>⟨_,.bl _,rfl⟩
 |.int _,h=>⟨_,.int _,rfl⟩
 |.str _,h=>⟨_,.str _,rfl⟩
 |.ref a,⟨_,h⟩=>by
  rcases h with⟨xs,e⟩ | ⟨xs,e⟩ | ⟨xs,e⟩
  ·exact⟨_,.tup e,rfl⟩
  ·exact⟨_,.lst e,rfl⟩
  ·exact⟨_,.dK e,rfl⟩
 |.byt _,h=>h.elim
 |.flt _,h=>h.elim
 |.ty _,h=>h.elim
theorem QmN{K:PySem.W.Frag}{p:Addr}{H:Hp}:∀{x:V},Kn p H x->∃t,TyOf K H x t/\PySem.W.kitOne K t (.type "bool")=some (isB x)
 |.non,h=>⟨_,.non,rfl⟩
 |.bl _,h=>⟨_,.bl _,rfl⟩
 |.int _,h=>⟨_,.int _,rfl⟩
 |.str _,h=>⟨_,.str _,rfl⟩
 |.ref a,⟨_,h⟩=>by
  rcases h with⟨xs,e⟩ | ⟨xs,e⟩ | ⟨xs,e⟩
  ·exact⟨_,.tup e,rfl⟩
  ·exact⟨_,.lst e,rfl⟩
  ·exact⟨_,.dK e,rfl⟩
 |.byt _,h=>h.elim
 |.flt _,h=>h.elim
 |.ty _,h=>h.elim
def QrI(H:Hp)(x:V):List Int:=((QfI H x).getD []).map λy=>match y with
 |.int i=>i
 |_=>0
def IntsT(H:Hp)(x:V)(ns:List Int):Prop:=∃a,x=.ref a/\H a=some (.tup (ns.map V.int))
theorem IntsT.eq{H:Hp}{x:V}{ns:List Int}(h:IntsT H x ns):QrI H x=ns:=by
 obtain⟨a,rfl,e⟩:=h;unfold QrI;rw[QgE e];show(ns.map V.int).map _=ns;rw[Jr];exact QnL _
theorem JR:bootBuiltins "isinstance" = some (.builtin "isinstance"):=by decide +kernel
theorem Qhr:bootBuiltins "int" = some (.type "int"):=by decide +kernel
theorem Qdv:bootBuiltins "bool" = some (.type "bool"):=by decide +kernel
theorem YF:bootBuiltins "tuple" = some (.type "tuple"):=by decide +kernel
theorem Qgh:bootBuiltins "list" = some (.type "list"):=by decide +kernel
theorem Qw9:bootBuiltins "str" = some (.type "str"):=by decide +kernel
theorem QjP:bootBuiltins "all" = some (.builtin "all"):=by decide +kernel
theorem QaY:bootBuiltins "len" = some (.builtin "len"):=by decide +kernel
theorem Qxa:bootBuiltins "max" = some (.builtin "max"):=by decide +kernel
theorem QrU:bootBuiltins "min" = some (.builtin "min"):=by decide +kernel
end Rk
namespace L2
theorem QbP{J:It}{body:V->Hp->(Hp->Prop)->Prop}{Qn:Hp->Prop}{H:Hp}(n:Nat)(Pv:Nat->Hp->Prop)(h0:Pv 0 H)
  (hs:∀i H2,i<n->Pv i H2->J.go i H2/\∀x H3,J.yld i H2 x H3->∀k:Hp->Prop,(∀H6,Pv (i+1) H6->k H6)->body x H3 k)(hd:∀H2,Pv n H2->J.stop n H2/\Qn H2):QgG J body Qn H:=by
 refine⟨λi m H=>m=n - i/\i<=n/\Pv i H,⟨n,by simp,Qw _,h0⟩,?_⟩;rintro i m H2 ⟨rfl,hi,p⟩;by_cases hlt:i<n
 ·obtain⟨go,st⟩:=hs i H2 hlt p;exact .inr ⟨go,λx H3 y=>st x H3 y _ λH6 p6=>⟨n - (i+1),by omega,rfl,hlt,p6⟩⟩
 ·have e:i=n:=by omega
  subst e;exact .inl (hd H2 p)
theorem Qfq{J:It}{σ:St}{g:TG}{te:TE}{p:Addr}{H1:Hp}{Qn:Hp->Prop}(n:Nat)(hn:n<sizeLine)(F:Nat->Bool)(hp:H1 p=none)
  (hs:∀i H2,i<n->Same H1 H2->J.go i H2/\∀x H3,J.yld i H2 x H3->∀k:VK,(∀H6,Same H2 H6->k (.bl (F i)) H6)->g x σ H3 λσ4 H4=>Wk σ σ4/\te σ4 H4 k)
  (hst:∀H2,Same H1 H2->J.stop n H2)(hq:∀H2,Same H1 H2->H2 p=some (.lst (((QQ n).map F).map V.bl))->Qn H2) :
  QgG J (bOf σ g QhY (QuD p te)) Qn (upd H1 p (.lst [])):=by
 refine QbP n (λi H2=>Same H1 H2/\H2 p=some (.lst (((QQ i).map F).map V.bl))) ⟨Ji hp,Jl⟩ (λi H2 hi ⟨s2,e2⟩=>?_) λH2 ⟨s2,e2⟩=>⟨hst H2 s2,hq H2 s2 e2⟩
 obtain⟨go,st⟩:=hs i H2 hi s2;refine⟨go,λx H3 y k hk=>?_⟩;refine st x H3 y (λv H6=>∃ys,H6 p=some (.lst ys)/\ys.length<sizeLine/\k (upd H6 p (.lst (ys++[v])))) λH6 s6=>?_
 have e6:=s6 p _ e2;refine⟨_,e6,?_,hk _ ⟨λb o e=>?_,?_⟩⟩
 ·rw[Qg,Qg,Jd];omega
 ·have hb:b≠p:=ZE e hp;rw[JO hb];exact s6 b o (s2 b o e)
 ·rw[Jl,Qct,Jp,Jp];rfl
end L2
namespace Rk
open L2
def QcG(K:PySem.W.Frag):Sp:=λvs H Q _=>∃a ns k,vs=[.ref a,.int k]/\SqL K H a ((ns:List Int).map V.int)/\ns.length<2^20/\0<=k/\∀c,Q (.int c) H
def Qu8:Sp:=λvs H Q _=>∃c,vs=[.int c]/\∀p n,H p=none->Q (.ref p) (upd H p (.lst [.int n]))
def Cs(p:Addr)(H:Hp):List V->List (Int×Int)->Prop:=Z6 λx ij=>∃d,d≠p/\x=.ref d/\H d=some (.tup [.int ij.1,.int ij.2])
theorem Cs.mem{p:Addr}{H:Hp}:∀{ps:List V}{L:List (Int×Int)},Cs p H ps L->∀x∈ps,∃ij∈L,∃d,d≠p/\x=.ref d/\H d=some (.tup [.int ij.1,.int ij.2])
 |_,_,.nil,x,h=>nomatch h
 |_,_,.cons r t,x,h=>by
  rcases Qz.mp h with e | e
  ·subst e;exact⟨_,Ze,r⟩
  ·obtain⟨ij,m,q⟩:=Cs.mem t x e;exact⟨ij,Jk _ m,q⟩
def Qxj(a b:Int×Int):Prop:=a.1<b.1∨(a.1=b.1/\a.2<b.2)
structure Good (h w:Int) (L:List (Int×Int)):Prop where
 asc:L.Pairwise Qxj
 ins:∀x∈L,0<=x.1/\x.1<h/\0<=x.2/\x.2<w
 len:L.length<=36
theorem QjB(x:Int){m:Int}(h:0<m):0<=x % m/\x % m<m:=⟨Int.emod_nonneg _ (by omega),Int.emod_lt_of_pos _ h⟩
def notStar:QP->Bool
 |.Starred _ _=>false
 |_=>true
theorem Zv{e:QP}{es:List QP}{env:Env}(h:notStar e=true):starEach (e::es) env=(false,eval e env)::starEach es env:=by
 cases e<;>first | rfl | cases h
section
variable{X:Cx}
theorem Qcg{e:QP}{es:List QP}{te:TE}{t:TA}(ha:PE X e te)(hr:PA X es t)(hs:notStar e=true:=by rfl):PA X (e::es) (QdM te t):=JA ha hr (Zv hs)
end
def Sm(H:Hp)(x:V):Prop:=∀ps,QfI H x=some ps->ps.length<sizeLine
def Part(p:Addr)(H:Hp)(x:V):Prop:=KnD p 2 H x/\Sm H x
def Thing(p:Addr)(H:Hp)(x:V):Prop:=KnD p 3 H x/\Sm H x/\∀xs,QfI H x=some xs->∀y∈xs,Sm H y
theorem QuU{H:Hp}{a:Addr}{xs ys:List V}(e:H a=some (.tup xs))(z:QfI H (.ref a)=some ys):ys=xs:=by
 rw[QgE e] at z;cases z;rfl
theorem Part.tup{p:Addr}{H:Hp}{a:Addr}{xs:List V}(hp:a≠p)(e:H a=some (.tup xs))(hl:xs.length<sizeLine)(h:∀y∈xs,KnD p 1 H y):Part p H (.ref a):=
 ⟨KnD.tup hp e h,λps z=>by rw[QuU e z];exact hl⟩
theorem Thing.part{p:Addr}{H:Hp}{x:V}(h:Thing p H x):Part p H x:=⟨h.1.low,h.2.1⟩
theorem QwJ{P:V->Prop}:∀y∈([]:List V),P y:=λ_ h=>nomatch h
theorem QmU{P:V->Prop}{a:V}{l:List V}(h:P a)(k:∀y∈l,P y):∀y∈a::l,P y:=λy hy=>by
 rcases Qz.mp hy with e | e
 ·subst e;exact h
 ·exact k y e
theorem Cs.kn{p:Addr}{H:Hp}{ps:List V}{L:List (Int×Int)}(h:Cs p H ps L):∀x∈ps,KnD p 1 H x:=λx hx=>by
 obtain⟨ij,_,d,n,rfl,e⟩:=h.mem x hx;exact KnD.tup n e (QmU (KnD.int _ 0) (QmU (KnD.int _ 0) QwJ))
theorem Cs.part{p:Addr}{H:Hp}{c:Addr}{ps:List V}{L:List (Int×Int)}(n:c≠p)(e:H c=some (.tup ps))(hl:ps.length<sizeLine)(h:Cs p H ps L):Part p H (.ref c):=Part.tup n e hl h.kn
theorem Qbj{n:Nat}(h:n<=1000):n<sizeLine:=Yn h (by decide)
def Fine(p:Addr):Nat->Hp->V->Prop
 |0,H,x=>Kn p H x/\Sm H x
 |n+1,H,x=>Kn p H x/\Sm H x/\∀xs,QfI H x=some xs->∀y∈xs,Fine p n H y
theorem Fine.kn{p:Addr}{H:Hp}{x:V}:∀{n:Nat},Fine p n H x->Kn p H x
 |0,h=>h.1
 |_+1,h=>h.1
theorem Fine.knd{p:Addr}{H:Hp}:∀{n:Nat}{x:V},Fine p n H x->KnD p n H x
 |0,_,h=>h.1
 |_+1,_,h=>⟨h.1,λxs e y hy=>(h.2.2 xs e y hy).knd⟩
theorem Fine.thing{p:Addr}{H:Hp}{x:V}(h:∀n,Fine p n H x):Thing p H x:=⟨(h 3).knd,(h 0).2,λxs e y hy=>((h 1).2.2 xs e y hy).2⟩
section
variable{X:Cx}
theorem Qh8{e:List QP}{t t':TA}(h:PA X e t)(k:∀σ H Q,t' σ H Q->t σ H Q):PA X e t':=λpos pins s σ H Q I q=>h pos pins s σ H Q I (k σ H Q q)
end
def Qyh(t:TA):TE:=λσ H Q=>t σ H λxs H1=>xs.length<=1000/\∀a H2,Same H1 H2->H1 a=none->H2 a=some (.tup xs)->Q (.ref a) H2
def Qyn(t:TA):TE:=λσ H Q=>t σ H λxs H1=>xs.length<=1000/\∀a H2,Same H1 H2->H1 a=none->H2 a=some (.lst xs)->Q (.ref a) H2
section
variable{X:Cx}
theorem QlT{es:List QP}{t:TA}{x1}{pos:Pos}(h:PA X es t):PE X (.Tuple es x1 pos) (Qyh t):=by
 intro pins s σ H Q I hq;refine wpAny_Tuple_spliced (thn (h pos pins s σ H _ I hq) λus s1 ⟨xs,H1,I1,r,z,q⟩=>⟨by rw[<- r.length];exact Z1 (Qbj z),?_⟩);have hf:H1 s1.heap.objs.size=none:=I1.hok.fresh (Qi _);refine⟨.ref s1.heap.objs.size,upd H1 s1.heap.objs.size (.tup xs),I1.laid (t':=s1.toks) (λb u e=>Qc _ e) (Qi _) ?_,rfl,q _ _ (Ji hf) hf Jl⟩;exact⟨Z1 (Qbj z),us,r,⟨_,QB _ rfl,rfl,_,rfl⟩⟩
theorem QbN{es:List QP}{t:TA}{pos:Pos}(h:PA X es t):PE X (.List es pos) (Qyn t):=by
 intro pins s σ H Q I hq;refine Qxk (thn (h pos pins s σ H _ I hq) λus s1 ⟨xs,H1,I1,r,z,q⟩=>⟨by rw[<- r.length];exact Z1 (Qbj z),?_⟩);have hf:H1 s1.heap.objs.size=none:=I1.hok.fresh (Qi _);refine⟨.ref s1.heap.objs.size,upd H1 s1.heap.objs.size (.lst xs),I1.laid (t':=s1.toks) (λb u e=>Qc _ e) (Qi _) ?_,rfl,q _ _ (Ji hf) hf Jl⟩;exact⟨Z1 (Qbj z),us,0,r,QB _ rfl⟩
def Qyy:R2:=λx y H Q=>∃l b xs zs,x=.ref l/\y=.ref b/\H l=some (.lst xs)/\H b=some (.lst zs)/\xs.length+zs.length<=1000/\∀a H2,Same H H2->H a=none->H2 a=some (.lst (xs++zs))->Q (.ref a) H2
theorem Qek:OpR X (binaryOp .Add) Qyy:=λpins s σ H x y v u Q I rx ry ⟨l,b,xs,zs,e1,e2,h1,h2,hl,k⟩=>
 Qry pins s σ H x y v u Q I rx ry ⟨l,b,xs,zs,e1,e2,h1,h2,Z1 (Qbj hl),λa ha=>k a _ (Ji ha) ha Jl⟩
end
def FineA(p:Addr)(H:Hp)(x:V):Prop:=∀n,Fine p n H x
theorem FineA.thing{p:Addr}{H:Hp}{x:V}(h:FineA p H x):Thing p H x:=Fine.thing h
theorem FineA.part{p:Addr}{H:Hp}{x:V}(h:FineA p H x):Part p H x:=(Fine.thing h).part
end Rk
namespace Rx
open PySem.Calls L2 PySem.W Builtin Builtin.ObjectAttr Builtin.Getset_descriptor
def ExAt(a C:Addr)(h:J5):Prop:=∃o vs,h.get? a=some o/\o.cls=.ref C/\o.data=.fields vs
theorem ExAt.ty{M:QjY}{h:J5}{a C:Addr}(x:ExAt a C h):Looks M h (typeOf (.ref a)) (.ref C):=by
 obtain⟨o,vs,e,c,_⟩:=x;exact c ▸ (Looks.ld e).andThen .now
structure ExC (K:PySem.W.Frag) (C:Addr):Prop where
 ga:findIn K (.ref C) "__getattribute__" = some (some (.builtin "BaseException.__getattribute__"))
 hk:findIn K (.ref C) "__getattr__" = some none
 bas:mroIn K C (.type "BaseException")=some true
 cls:(clsIn K C).isSome=true
 att:findIn K (.ref C) "__class__" = some (some (.builtin "object.__class__"))
 spc:specialIn K (.builtin "object.__class__") "__get__" = some (some (.builtin "getset_descriptor.__get__"))
 tks:takesIn K (.builtin "object.__class__")=some true
 mro:mroIn K C (.type "object")=some true
section
variable{prog:Qy}{w:Jg}{A:Q5}{E:Value->Shared->Prop}{s:Shared}{K:PySem.W.Frag}{a C:Addr}
theorem Qt3{M:QjY}{h:J5}(X:K.In h)(c:ExC K C):Looks M h (find (.ref a) (.ref C) "__class__") (.bind (.builtin "getset_descriptor.__get__") (.builtin "object.__class__")):=by
 have l1:=Qr0 (M:=M) X c.att;have l2:=looks_specialIn (M:=M) X c.spc;have l3:=looks_takesIn (M:=M) X c.tks;have l4:Looks M h (dataDescriptor? (some (.builtin "object.__class__")) (some (.builtin "getset_descriptor.__get__"))) (some (.builtin "getset_descriptor.__get__",.builtin "object.__class__")):=l3.andThen .now;exact l1.andThen (l2.andThen (l4.andThen (Looks.tag .now)))
theorem QwL{R:Qr4->Shared->Prop}{tp:Value}(X:K.In s.heap)(I:ExAt a C s.heap)(c:ExC K C)(h:R (.ok (.ret (.ref C))) s) :
  codeAny (model prog w) A (.call (.builtin "getset_descriptor.__get__") ⟨[.builtin "object.__class__",.ref a,tp],[]⟩) R s:=by
 obtain⟨h0,g0,d0,t0,o0⟩:=s;have la:=I.ty (M:=model prog w);have lb:=looks_mroIn (M:=model prog w) X c.mro;refine Quu KF.slot_gs.plain KF.entry_gs (KF.slot_gs.check _ _ _ _ _ _ _ _ KF.type_class (KF.args_gs _ _ _) ?_);unfold QcC.«getset_descriptor.__get__»;unfold descrGet;rw[dga_obj];refine wpAny_bind (Qe ?_);unfold descrGetter;unfold descrCheckInstance;unfold descrNameAndClass;unfold isInstance;simp only[KF.owner_class]
 repeat lk
 refine⟨Code.quiet_builtin _ (by decide +kernel),QdH KF.entry_class ?_⟩;unfold QcC.«object.__class__»;unfold shownTypeOf
 repeat lk
 exact h
theorem QpH{M:QjY}{nameV:Value}{Q:Unit->Shared->Prop}(X:K.In s.heap)(I:ExAt a C s.heap)(c:ExC K C)(hq:Q () s):wpAny M A (checkBuiltinCall "BaseException.__getattribute__" ⟨[.ref a,nameV],[]⟩) Q E s:=by
 have hk:builtinKind "BaseException.__getattribute__" = some .slot:=by decide +kernel
 have hsplit:splitId "BaseException.__getattribute__" = some ("BaseException", "__getattribute__"):=by decide +kernel
 have ha:=F.args_bexc_ga (.ref a) nameV;have la:=I.ty (M:=M);have lb:=looks_mroIn (M:=M) X c.bas;have li:Looks M s.heap (isInstance (.ref a) (.type "BaseException")) true:=la.andThen lb;simp only[checkBuiltinCall,hk,hsplit];refine wpAny_bind (li.at ?_)
 repeat (first | exact hq | wp_step)
theorem QpG{Q:Option Value->Shared->Prop}(X:K.In s.heap)(I:ExAt a C s.heap)(c:ExC K C)(h:Q (some (.ref C)) { s with toks:=s.toks+1 }):wpAny (model prog w) A (getAttr? (.ref a) "__class__") Q E s:=by
 obtain⟨h0,g0,d0,t0,o0⟩:=s;have la:=I.ty (M:=model prog w);have lb:=Qr0 (M:=model prog w) X c.ga;have lc:=Qr0 (M:=model prog w) X c.hk;have ld:=Qt3 (M:=model prog w) (a:=a) X c;have f3:=Qp5.ga.bind (.ref a);have hx2:(onTheHeap (JF C)&&Y6 "BaseException.__getattribute__" == Y6 "object.__getattribute__")=false:=by
  have e:(Y6 "BaseException.__getattribute__" == Y6 "object.__getattribute__")=false:=by decide +kernel
  rw[e];rfl
 unfold getAttr?;unfold getAttrBy?;unfold getAttrBy;refine wpAny_bind (wpAny_mkText (wpAny_bind (Qcz (Zg (wpAny_bind (la.at (wpAny_bind (lb.at ?_))))))));simp only[hx2,Qaa,if_false];unfold getAttrByItsOwn;refine wpAny_bind (m:=hookBefore (.ref C)) ?_
 show wpAny _ _ (typeLookup (.ref C) "__getattr__") _ _ _;refine lc.at ?_
 refine wpAny_bind (Qcz (Zg ?_));show wpAny _ _ (boundAndCalled _ _ _) _ _ _;unfold boundAndCalled;rw[f3];refine wpAny_bind (Qe ?_);refine Qgs (Quu Qp5.ga.plain F.entry_bexc_ga (QpH X I c ?_));unfold QcC.«object.__getattribute__»;refine wpAny_bind (Qe (wpAny_bind (Qe (wpAny_bind (la.at (wpAny_bind (ld.at ?_)))))));show wpAny _ _ (bindTo (.builtin "getset_descriptor.__get__") (.builtin "object.__class__") (.ref a) (.ref C)) _ _ _;unfold bindTo;refine wpAny_bind (Zg (Qgs (QwL (s:=⟨h0,g0,d0,t0+1,o0⟩) X I c ?_)));exact Qe (handed_on rfl (Qe h))
theorem QtT(c:ExC K C):KitX K (.ref a) (.ref C) (ExAt a C) where
 ty:=λ_ _ _ I=>I.ty
 it:=λ_ _ X _=>by
  have q:=c.cls;unfold clsIn at q;split at q
  ·rename_i ho
   intro A' Q' E' s' k z;unfold isType loadHead;exact wpAny_bind (wpAny_loadPart (k _ _ (X _ _ ho)) (Qe z))
  ·cases q
 ne:=λh tp dd its n sl X htp=>by
  have q:=c.cls;refine Bool.eq_false_iff.mpr λz=>?_
  cases Value.ref.inj (beq_iff_eq.mp z);unfold clsIn at q;split at q
  ·rename_i ho
   cases(X _ _ ho).symm.trans htp
  ·cases q
 ca:=λX I k=>QpG X I c k
end
end Rx
namespace Rx
open PySem.Calls L2
abbrev mroV:List Value:=[.type "ValueError",.type "Exception",.type "BaseException",.type "object"]
def Qxh(h:J5)(C:Addr):Prop:=∃bm N nm q bs hdct sn sub ab col dd k0 k1 k2 k3 k5 mN,
 h.get? C=some (excClassObj nm q C N bs bm hdct sn sub ab col dd k0 k1 k2 k3 k5 "ValueError.__new__")/\h.Ns N mN/\mN "__init__" = none/\OwnTail h mroV bm
theorem Qlz{K:PySem.W.Frag}{h:J5}{C:Addr}(X:K.In h)(q:PySem.W.excIn K C mroV "ValueError.__new__" = true):Qxh h C:=by
 unfold PySem.W.excIn at q;split at q;next dd cd sl ho=>
  split at q;next C' bm k0 k1 k2 k3 n k5 hm hs=>
   obtain⟨q,e6⟩:=Qs.mp q;obtain⟨q,e5⟩:=Qs.mp q;obtain⟨q,e4⟩:=Qs.mp q;obtain⟨q,e3⟩:=Qs.mp q;obtain⟨e1,e2⟩:=Qs.mp q;cases beq_iff_eq.mp e1;cases beq_iff_eq.mp e2;rcases cd with⟨c1,c2,c3,c4,c5,c6,c7,c8,c9,ca,cb⟩
   rcases sl with⟨sl⟩
   have e7:cb=false:=by
    cases cb with
    |false=>rfl
    |true=>cases e3
   have hm:c3=.ref C::bm:=hm;have hs:sl=[k0,k1,k2,k3,some (.builtin "ValueError.__new__"),k5]:=hs;subst hm hs e7;have hn:h.Ns c4 (h.nsMap c4):=.of_isNs (PySem.W.isNs_of_in X e5);exact⟨_,_,_,_,_,_,_,_,_,_,_,_,_,_,_,_,_,X _ _ ho,hn,PySem.W.nsMap_none_of_in X e5 (beq_iff_eq.mp e6),PySem.W.tail_of_in X e4⟩
  next=>cases q
 next=>cases q
theorem obj_there{P:Qy}{w:Jg}{H:Hp}{h:J5}{a:Addr}{o:HO}(x:ObjOk P w H h a o):∃u,h.get? a=some u:=by
 cases o with
 |lst xs=>obtain⟨_,_,_,_,e⟩:=x;exact⟨_,e⟩
 |tup xs=>obtain⟨_,_,_,p⟩:=x;obtain⟨_,e,_⟩:=p;exact⟨_,e⟩
 |dK kvs=>obtain⟨_,_,_,_,o,_,_,e,_⟩:=x;exact⟨_,e⟩
 |dT kvs=>obtain⟨_,_,_,_,o,_,_,e,_⟩:=x;exact⟨_,e⟩
 |set S n=>obtain⟨o,_,_,_,e,_⟩:=x;exact⟨_,e⟩
 |ins C dx fs=>obtain⟨_,_,_,e,_⟩:=x;exact⟨_,e⟩
 |own y=>exact x
 |xd fs=>obtain⟨_,⟨_,_,_,e,_⟩,_⟩:=x;exact⟨_,e⟩
 |rng lo hi=>obtain⟨_,_,_,e⟩:=x;exact⟨_,e⟩
 |frz ob u=>exact⟨_,x.1⟩
 |tbl ps=>exact⟨_,x⟩
 |met f y=>exact⟨_,x⟩
 |ext φ=>exact x.2.1
def Fly(P:Qy)(w:Jg)(outer:List Env)(H:Hp)(s:Shared)(C:Addr)(H':Hp)(e:Value)(s':Shared):Prop:=
 ∃(a t:Addr)(B:J5),e=.ref a/\s'.os=s.os/\QdL s'.gens/\Qx7 B outer a (.ref C) (.ref t) s'.heap/\s.heap.get? a=none/\H' a=none /\
  ∀h2:J5,B.StaysIn h2->s'.heap.UpToSlots h2->Un (frs outer) [] H H' s.heap h2/\HOk P w H' h2
def CXE(P:Qy)(w:Jg):CXT:=λouter H s E e s'=>∃C H',Fly P w outer H s C H' e s'/\E (.ref C) none H'
def Qp9(E:XK)(C:Addr)(te:TE):TS:=λ_ σ H=>te σ H λ_ H1=>E (.ref C) none H1
section
variable{X:Cx}{E:XK}{C:Addr}{x:Str}{e0:QP}{te:TE}{np cpos pos:Pos}
theorem QwK{pins:List (Addr×Obj)}{σ:L2.St}{H:Hp}{s:Shared}{h1:J5}{a:Addr}{vs:List Value}{M:QjY}{EE:Value->Shared->Prop}(I:Inv X pins σ H s)(hstk:X.stack=X.env::X.outer)(hfr:X.env.frame=some X.env.locals)(hex:X.ex=[])
  (hx:Heap.MadeExcOf s.heap h1 a (.ref C) vs) :
  wpAny M X.A (leaving X.env (.ref a)) (λ_ s2=>Fly X.prog X.w X.outer X.H₀ X.s₀ C H (.ref a) s2) EE { s with heap:=h1 }:=by
 have fr:X.A.frames=some (X.env::X.outer):=by rw[<- hstk];exact I.ok.frames
 have ff:s.heap.FunFrames X.base (X.env::X.outer):=by rw[<- hstk];exact I.stack
 have hin:∀env∈X.env::X.outer,∀b,env.frame=some b->b∈frs (X.env::X.outer):=λenv he b hb=>Yh.mpr ⟨env,he,hb⟩
 refine wpAny_leaves_madeW (base:=PySem.W.hideAll s.heap (frs (X.env::X.outer))) (h:=s.heap) (L:=X.env.locals) fr hfr (λb o q=>PySem.W.of_hideAll _ q) (PySem.W.funFrames_hide ff hin) hx λh' t x1 x2 x3 x4=>?_
 have nex:∀b:Addr,b∉X.ex:=λb=>by rw[hex];simp
 have free0:X.s₀.heap.get? a=none:=by
  cases q:X.s₀.heap.get? a with
  |none=>rfl
  |some o=>
   obtain⟨o',e⟩:=I.base.there a o q (nex a);rw[hx.new] at e;cases e
 have freeH:H a=none:=by
  cases q:H a with
  |none=>rfl
  |some o=>
   obtain⟨u,e⟩:=obj_there (I.hok a o q);rw[hx.new] at e;cases e
 have stf:∀b∈frs (X.env::X.outer),H b=none:=λb hb=>I.stkFree b (by rw[hstk];exact hb)
 refine⟨a,t,_,rfl,I.os,I.bare,x1,free0,freeH,λh2 st up=>?_⟩;have up2:s.heap.UpToSlots h2:=((Qxw hx.keeps).trans x4).trans up;have kp:∀b o,s.heap.get? b=some o->b∉frs (X.env::X.outer)->h2.get? b=some o:=λb o e n=>st b o (PySem.W.hideAll_get _ e n)
 have own:∀b o,X.s₀.heap.get? b=some o->b≠X.env.locals:=λb o e z=>by
  have h1:=Qp e;have h2:=I.ok.above;rw[z] at h1;exact absurd (QL h1 h2) (Z7 _)
 have nfr:∀b o,X.s₀.heap.get? b=some o->b∉frs X.outer->b∉frs (X.env::X.outer):=λb o e n hb=>by
  unfold frs at hb n;rw[Y1,hfr] at hb;rcases Qz.mp hb with z | z
  ·exact own b o e z
  ·exact n z
 have hdat:∀b∈frs X.outer,∀o,s.heap.get? b=some o->∀vs,o.data≠.fields vs:=λb hb o e=>by
  obtain⟨_,o',ho',hd⟩:=I.funs.mem hb;rw[e] at ho';cases ho';exact hd
 refine⟨⟨λb o e n hb _=>kp b o (I.base.keep b o e n hb (nex b)) (nfr b o e hb),λb o e n hb _=>?_,λb o e n _=>I.base.free b o e n (nex b),λb o e _=>?_,I.base.tups,I.base.frzs,I.base.tbls⟩,λb o e=>?_⟩
 ·obtain⟨sl,e1⟩:=I.base.slot b o e n hb (nex b);obtain⟨sl2,e2⟩:=up2 b _ e1 (hdat b hb _ e1);exact⟨sl2,e2⟩
 ·obtain⟨o',e1⟩:=I.base.there b o e (nex b);by_cases hb:b∈frs X.outer
  ·obtain⟨sl2,e2⟩:=up2 b _ e1 (hdat b hb _ e1);exact⟨_,e2⟩
  ·exact⟨o',kp b o' e1 (nfr b o e hb)⟩
 ·refine(I.hok b o e).stay (λc u hc q=>kp c u q λhm=>?_) (λ_ q=>q) λ_ _ q=>q
  have z:=stf c hm;rcases hc with r | r
  ·rw[r,e] at z;cases z
  ·rw[r] at z;cases z
theorem Qov(hxe:∀e s1,wpAny (model X.prog X.w) X.A (leaving X.env e) (λ_ s2=>CXE X.prog X.w X.outer X.H₀ X.s₀ E e s2) (λe' s2=>CXE X.prog X.w X.outer X.H₀ X.s₀ E e' s2) s1->X.xe e s1)
  (hstk:X.stack=X.env::X.outer)(hfr:X.env.frame=some X.env.locals)(hex:X.ex=[])(hc:X.calm=true)(hg:Gl X x)(hm:X.mg x=some (.ref C))(q:PySem.W.excIn X.K C mroV "ValueError.__new__" = true)
  (ha:PE X e0 te)(he:starEach [e0] X.env=[(false,eval e0 X.env)]:=by rfl)(hd:(x == ("__debug__" : Str))=false:=by decide) :
  PS X (.Raise (some (.Call (.Name x np) [e0] [] cpos)) none pos) (Qp9 E C te):=by
 intro pins s σ H D I h;obtain⟨bm,N,nm,qn,bs,hdct,sn,sub,ab,col,dd,k0,k1,k2,k3,k5,mN,hC,hN,hni,T⟩:=Qlz I.ok.mod.kin q;refine wpAny_Raise_call_subT (k5:=k5) (k3:=k3) (k2:=k2) (k1:=k1) (k0:=k0) (dd:=dd) (col:=col) (ab:=ab) (sub:=sub) (sn:=sn) (hdct:=hdct) (bs:=bs) (N:=N) (q:=qn) (nm:=nm) (C:=C) PySem.F.excBase_ValueError (T.hasType PySem.F.excBase_ValueError.hasBase) (I.ok.hd hc) (by rw[he];rfl) hni (Qdn I hg hm ?_ hd);refine⟨rfl,?_⟩;rw[he];refine QkW (QnO (thn (ha pins s σ H _ I h) λu s1 ⟨v,H1,I1,r1,q1⟩=>QnY ⟨rfl,by show 1<=sizeLine;decide,I1.bk _ _ hC,hN.keeps I1.bk,T.keeps I1.bk,λh' e hx=>?_⟩));exact hxe _ _ (thn (QwK I1 hstk hfr hex hx) λ_ s2 z=>⟨C,H1,z,q1⟩)
end
def exO(a C:Addr):HO:=.ext (ExAt a C)
structure ByC (K:PySem.W.Frag) (C R:Addr):Prop where
 ty:PySem.W.typeIn K (.ref R)=some (.type "type")
 cls:(PySem.W.clsIn K R).isSome=true
 base:PySem.W.mroIn K R (.type "BaseException")=some true
 sub:PySem.W.mroIn K C (.ref R)=some true
theorem Qkh{K:PySem.W.Frag}{M:QjY}{h:J5}{R:Addr}(X:K.In h)(c:(PySem.W.clsIn K R).isSome=true):PySem.W.Looks M h (isType (.ref R)) true:=by
 unfold PySem.W.clsIn at c;split at c
 ·rename_i ho
  intro A' Q' E' s' k z;unfold isType loadHead;exact wpAny_bind (wpAny_loadPart (k _ _ (X _ _ ho)) (Qe z))
 ·cases c
theorem Qkr{M:QjY}{A:Q5}{E:Value->Shared->Prop}{K:PySem.W.Frag}{a C R:Addr}{s:Shared}{Q:Bool->Shared->Prop}(X:K.In s.heap)(I:ExAt a C s.heap)(c:ByC K C R)(h:Q true s) :
  wpAny M A (excMatches (.ref a) (.ref R)) Q E s:=by
 obtain⟨h0,g0,d0,t0,o0⟩:=s;have l1:=PySem.W.looks_typeIn (M:=M) X c.ty;have l2:=Qkh (M:=M) X c.cls;have l3:=PySem.W.looks_mroIn (M:=M) X c.base;have l4:=PySem.W.looks_mroIn (M:=M) X c.sub;have l5:=I.ty (M:=M);have l6:PySem.W.Looks M h0 (isSubtype (.type "type") (.type "tuple")) false:=PySem.W.Looks.of_pure tc_notTuple;unfold excMatches isExcClass isInstance
 repeat (first | lk | exact h)
abbrev mkd (X:Cx) (e:Value):Cx:={ X with A:=X.A.mark (some e),calm:=false,xe:=λ_ _=>False }
section
variable{X:Cx}{pins:List (Addr×Obj)}{σ:L2.St}{H:Hp}{s:Shared}
theorem QmL(I:Inv X pins σ H s)(e:Value):Inv (mkd X e) pins σ H s:=
 ⟨⟨I.ok.mod,I.ok.kind,I.ok.glob,I.ok.blt,I.ok.above,I.ok.inj,I.ok.has,I.ok.cab,(λh=>nomatch h),I.ok.frames,I.ok.stk,I.ok.exf,I.ok.bs,I.ok.bsz,I.ok.noex,I.ok.exfs,I.ok.funs,I.ok.frf⟩,I.os,I.bare,I.base,I.loc,I.cell,I.free,I.freeC,I.pin,I.hok,I.len⟩
theorem Qps{e:Value}(ok:X.Ok)(I:Inv (mkd X e) pins σ H s):Inv X pins σ H s:=⟨ok,I.os,I.bare,I.base,I.loc,I.cell,I.free,I.freeC,I.pin,I.hok,I.len⟩
theorem QmK{a C:Addr}(I:Inv X pins σ H s)(hf:H a=none)(h0:X.s₀.heap.get? a=none)(hp:∀p∈X.pn++pins,p.1≠a)(x:ExAt a C s.heap):Inv X pins σ (upd H a (exO a C)) s:=by
 obtain⟨o,vs,ho,hcl,hd⟩:=id x;have ne:∀b u,H b=some u->b≠a:=λb u e z=>by rw[z,hf] at e;cases e
 refine⟨I.ok,I.os,I.bare,⟨I.base.keep,I.base.slot,λb u e n hx=>?_,I.base.there,λb xs e=>?_,λb u xs e=>?_,λb ps e=>?_⟩,I.loc,I.cell,?_,λy c e=>?_,λp hp'=>?_,λb u e=>?_,I.len⟩
 ·rw[JO (λz=>by rw[z,h0] at e;cases e)];exact I.base.free b u e n hx
 ·have q:=I.base.tups b xs e;rw[JO (ne b _ q)];exact q
 ·have q:=I.base.frzs b u xs e;rw[JO (ne b _ q)];exact q
 ·obtain⟨m,q⟩:=I.base.tbls b ps e;exact⟨m,by rw[JO (ne b _ q)];exact q⟩
 ·obtain⟨m,⟨oL,es,ep,hoL,hdL,_⟩,_⟩:=I.loc;rw[JO (λz=>by rw[z,ho] at hoL;cases hoL;rw[hd] at hdL;cases hdL)];exact I.free
 ·obtain⟨v,oc,hoc,hdc⟩:=I.cell y c e;rw[JO (λz=>by rw[z,ho] at hoc;cases hoc;rw[hd] at hdc;cases hdc)];exact I.freeC y c e
 ·obtain⟨e,n,r⟩:=I.pin p hp';exact⟨e,by rw[JO (hp p hp')];exact n,r⟩
 ·by_cases hb:b=a
  ·subst hb;rw[Jl] at e;cases e;exact⟨x,⟨o,ho⟩,λh1 h2 y k=>by
    obtain⟨o',vs',e',c',d'⟩:=y;exact⟨o',vs',k _ e',c',d'⟩⟩
  ·rw[JO hb] at e;exact(I.hok b u e).stay (λ_ _ _ q=>q) (λc q=>by rw[JO (ne c _ q)];exact q) λc xs q=>by rw[JO (ne c _ q)];exact q
theorem Qpt{i:Nat}{n:Str}{m:Str->Option Value}{v:Option Value}{h':J5}{tk:Nat}(I:Inv X pins σ H s)(hN:X.N.Nodup)(hi:X.N[i]? = some n)
  (hm:∀(j:Nat)(x:Str)(u:V),X.N[j]? = some x->σ[j]? = some (some u)->Vis X.env.scope x->∃y,RelV u y/\Look X.env s.heap m x y)
  (hn:h'.Ns X.env.locals (λx=>if x=n then v else m x))(hs:Qax X.env.locals s.heap h'):Inv X pins (σ.set i none) H { s with heap:=h',toks:=tk }:=by
 have neL:∀b o,X.s₀.heap.get? b=some o->b≠X.env.locals:=λb o e=>QD (QL (Qp e) I.ok.above)
 have cne:=I.cne;refine⟨I.ok,I.os,I.bare,⟨λb o e z hb hx=>(hs.2 b (neL b o e)).trans (I.base.keep b o e z hb hx),λb o e z hb hx=>?_,I.base.free,λb o e hx=>?_,I.base.tups,I.base.frzs,I.base.tbls⟩,⟨_,hn,λj y u e1 e2 e3=>?_⟩,λy c e=>?_,I.free,I.freeC,λp hp=>?_,λb o e=>?_,?_⟩
 ·obtain⟨sl,e1⟩:=I.base.slot b o e z hb hx;exact⟨sl,(hs.2 b (neL b o e)).trans e1⟩
 ·obtain⟨o',e1⟩:=I.base.there b o e hx;exact⟨o',(hs.2 b (neL b o e)).trans e1⟩
 ·by_cases hj:j=i
  ·subst hj;rw[QeF] at e2;split at e2
   ·split at e2<;>cases e2
   ·exact absurd rfl ‹¬_›
  ·rw[QaQ (QcZ hj)] at e2;obtain⟨u',r',q⟩:=hm j y u e1 e2 e3;refine⟨u',r',?_⟩;rcases q with⟨k,e⟩ | ⟨k,c,e,z⟩
   ·have:y≠n:=λe=>hj (Qf0 hN e1 (e ▸ hi))
    exact .inl ⟨k,by simp[this,e]⟩
   ·exact .inr ⟨k,c,e,z.sameBut hs (cne y c e)⟩
 ·obtain⟨w',z⟩:=I.cell y c e;exact⟨w',z.sameBut hs (cne y c e)⟩
 ·obtain⟨e,z,ne,nf,d⟩:=I.pin p hp;exact⟨(hs.2 p.1 ne).trans e,z,ne,nf,d⟩
 ·refine(I.hok b o e).stay (λc u hc q=>(hs.2 c ?_).trans q) (λ_ q=>q) λ_ _ q=>q
  rintro rfl;have z:=I.free;rcases hc with r | r
  ·rw[r,e] at z;cases z
  ·rw[r] at z;cases z
 ·rw[ZD];exact I.len
end
def XP(X:Cx)(pins:List (Addr×Obj))(Ex:L2.St->Addr->Hp->Prop)(e:Value)(s1:Shared):Prop:=
 ∃(σ:L2.St)(C:Addr)(H':Hp)(a t:Addr)(B:J5),e=.ref a/\Qx7 B X.stack a (.ref C) (.ref t) s1.heap/\H' a=none/\X.s₀.heap.get? a=none/\(∀p∈X.pn++pins,p.1≠a) /\
  (∀(h2:J5)(tk:Nat),B.StaysIn h2->s1.heap.UpToSlots h2->Inv X pins σ H' { s1 with heap:=h2,toks:=tk })/\Ex σ C H'
abbrev TX:=L2.St->Hp->VK->(Addr->Hp->Prop)->Prop
def PEX(X:Cx)(e:QP)(t:TX):Prop:=∀(pins:List (Addr×Obj))(s:Shared)(σ:L2.St)(H:Hp)(Q:VK)(Ex:Addr->Hp->Prop),Inv X pins σ H s->t σ H Q Ex ->
 wpAny (model X.prog X.w) X.A (eval e X.env) (EP X pins σ Q) (XP X pins λσ1 C H1=>σ1=σ/\Ex C H1) s
def Qu1(sp:Sp)(t:TA):TX:=λσ H Q Ex=>t σ H λvs H1=>sp vs H1 Q λcv _ H2=>∃C,cv=.ref C/\Ex C H2
section
variable{X:Cx}{k:Nat}{f:Addr}{fd:QN}{ps:List Str}{sp:Sp}{x:Str}{p pos:Pos}{e:QP}{es:List QP}{t:TA}
theorem Qox(F:FnOk X.prog X.w X.K X.mg X.base (CXE X.prog X.w) k f fd ps sp)(hr:Room k X.A)(hg:Gl X x)(hm:X.mg x=some (.ref f))(hk:PySem.W.keepIn X.K (.ref f)=true)(hb:Binds X.K fd ps [])(hex:X.ex=[])
  (ha:PA X.nox (e::es) t)(hdb:(x == ("__debug__" : Str))=false:=by decide)(he:starEach (e::es) X.env=(false,eval e X.env)::starEach es X.env:=by rfl)(hpl:(backTo pos (starEach es X.env)).any (·.1)=false:=by rfl) :
  PEX X (.Call (.Name x p) (e::es) [] pos) (Qu1 sp t):=by
 intro pins s σ H Q Ex I h;refine YA (Qdn I hg hm ?_ hdb);refine PySem.W.callWith_K (h₀:=X.base) I.ok.mod.kin hk (wpAny_mono (ha pos pins s σ H _ (I.wish _) h) (λus s1 ⟨vs,H1,J1,r,q⟩=>?_) λ_ _ z=>JP z) he hpl;have I1:Inv X pins σ H1 s1:=J1.unwish;refine⟨I1.kIn,?_⟩;have hl:us.length=ps.length:=by rw[<- r.length];exact F.len _ _ _ _ q
 have hbb:QeL s1 fd ⟨us,[]⟩ (ps.zip us):=by
  have z:=hb s1 us I1.kIn (by rw[JB];exact hl);rw[JB] at z;exact z
 refine Qgs (QbZ (F.run X.A X.stack s1 H1 ⟨us,[]⟩ us vs Q _ hr I1.env0 hbb r q) λr s2 hq=>?_);cases r with
 |error e=>
  obtain⟨C0,H2,⟨a,t',B,rfl,os,bare,fl,fa,fH,land⟩,C,eC,ex⟩:=hq;cases eC;refine⟨σ,C0,H2,a,t',B,rfl,fl,fH,?_,λp hp z=>?_,λh2 tk st up=>?_,rfl,ex⟩
  ·cases z:X.s₀.heap.get? a with
   |none=>rfl
   |some o=>
    obtain⟨o',e'⟩:=I1.base.there a o z (by rw[hex];simp);rw[fa] at e';cases e'
  ·have e':=(I1.pin p hp).1;rw[z,fa] at e';cases e'
  ·obtain⟨un,hok⟩:=land h2 st up;exact I1.call' (s':={ s2 with heap:=h2,toks:=tk }) (ch:=[]) os un hok bare (λb z=>absurd z (by simp))
 |ok fl=>
  cases fl with
  |ret u=>exact I1.after hq
  |next=>exact JP hq
  |brk=>exact JP hq
  |cont=>exact JP hq
end
section
variable{X:Cx}{R:Addr}{i:Nat}{n r:Str}{call hx:QP}{tc:TX}{th:TE}{rp np hp hpos pos:Pos}
end
structure QnF (k:Nat) (A:Q5):Prop where
 dp:A.depth+3*k+5<recursionLimit
 un:A.units+16*k+200<cLine
theorem Room.m{k:Nat}{A:Q5}(r:Room k A)(e:Value):QnF k (A.mark (some e)):=⟨r.dp,r.un⟩
structure FnM (P:Qy) (w:Jg) (K:PySem.W.Frag) (mg:Str->Option Value) (base:J5) (k:Nat) (f:Addr) (fd:QN) (ps:List Str) (sp:Sp):Prop where
 len:∀vs H Q E,sp vs H Q E->vs.length=ps.length
 run:∀(A:Q5)(outer:List Env)(s:Shared)(H:Hp)(args:Args)(us:List Value)(vs:List V)(Q:VK)(E:XK),QnF k A->Env0 P w K mg base A outer s H->QeL s fd args (ps.zip us)->Vals vs us->sp vs H Q E ->
  codeAny (model P w) A (.call (.ref f) args) (CR CX0 outer P w H s Q E) s
def cxM(P:Qy)(w:Jg)(K:PySem.W.Frag)(mg:Str->Option Value)(base:J5)(N:List Str)(qual:Str)(scope:Z5)(f:Addr)(cd:Value)(A:Q5)(outer:List Env)(s:Shared)(H:Hp)(E:XK):Cx:=
 { cxOf CX0 P w K mg base N qual scope f cd A outer s H E with calm:=false,xe:=λ_ _=>False }
section
variable{P:Qy}{w:Jg}{K:PySem.W.Frag}{mg:Str->Option Value}{base:J5}
theorem QkA{N ps:List Str}{qual:Str}{scope:Z5}{f:Addr}{cd:Value}{A:Q5}{outer:List Env}{s s1:Shared}{H:Hp}{E:XK}{us:List Value}{vs:List V}
  (S:Jw N ps scope)(e0:Env0 P w K mg base A outer s H)(hl:vs.length=ps.length)(r:Vals vs us)
  (x:InCallC s s.heap.objs.size (bindL (envOfC qual scope s.heap.objs.size f cd).kindOf (ps.zip us) λ_=>none) (cellsFrom (s.heap.objs.size+1) scope.names []) (bindC (envOfC qual scope s.heap.objs.size f cd).kindOf (ps.zip us) λ_=>none) s1) :
  L2.Inv (cxM P w K mg base N qual scope f cd A outer s H E) [] (start N vs) H s1:=by
 have e1:Env0 P w K mg base { A with handled:=none } outer s H:=⟨e0.frames,e0.mod,e0.bs,e0.bsz,e0.funs,e0.frf,e0.hok,e0.bare⟩;have I:=Qhe (CX:=CX0) (E:=E) (A:={ A with handled:=none }) S rfl e1 hl r x;exact⟨⟨I.ok.mod,I.ok.kind,I.ok.glob,I.ok.blt,I.ok.above,I.ok.inj,I.ok.has,I.ok.cab,(λh=>nomatch h),I.ok.frames,I.ok.stk,I.ok.exf,I.ok.bs,I.ok.bsz,I.ok.noex,I.ok.exfs,I.ok.funs,I.ok.frf⟩,I.os,I.bare,I.base,I.loc,I.cell,I.free,I.freeC,I.pin,I.hok,I.len⟩
theorem okM{x qual:Str}{st:ZZ}{f:Addr}{fd:QN}{N ps:List Str}{k:Nat}{sp:Sp}(F:Fun K x qual st f fd)(S:Jw N ps (Qt st))(len:∀vs H Q E,sp vs H Q E->vs.length=ps.length)
  (hbody:∀(cdv:Value)(A:Q5)(outer:List Env)(s:Shared)(H:Hp)(vs:List V)(Q:VK)(E:XK),QnF k (A.deeper (envOfC qual (Qt st) s.heap.objs.size f cdv))->sp vs H Q E ->
   ∃t,PSs (cxM P w K mg base N qual (Qt st) f cdv A outer s H E) (Ju st) t/\t { nx:=λ_ H'=>Q .non H',rt:=Q } (start N vs) H):FnM P w K mg base (k+1) f fd ps sp:=by
 obtain⟨oc,od,kV,doc,pm,an,cdv,ct,osl,rfl,lk,hcd⟩:=F.ex;refine⟨len,λA outer s H args us vs Q E hr e0 hb r hsp=>?_⟩;have hl:=len _ _ _ _ hsp;have KX:K.In s.heap:=e0.mod.kin.keeps λb o e=>(e0.bs b o e).1
 have lim:s.heap.NoLimit:=e0.mod.nolimit.keeps λb o e=>(e0.bs b o e).1
 have hkind:∀y∈ps.zip us,(Qt st).names.lookup y.1=some .local∨((Qt st).names.lookup y.1=some .cell/\((cellsFrom (s.heap.objs.size+1) (Qt st).names []).lookup y.1).isSome=true):=λ⟨n,v⟩ hy=>by
  rcases S.par n (Qcu hy).1 with q | q
  ·exact .inl q
  ·exact .inr ⟨q,PySem.W.cellsFrom_some _ _ _ (.inl q)⟩
 have hdp:A.depth<recursionLimit:=by have:=hr.dp;omega
 refine Qr3 hdp (KX _ _ lk) rfl S.co S.gen rfl (PySem.W.codeRec_of KX hcd) (hb _ _ _ _ ?_);refine QkO S.kind hkind λenv he s1 x=>?_
 subst he;refine⟨lim.keeps x.toInCall.keep,codeAny_func ?_⟩;have hr2:QnF k (A.deeper (envOfC qual (Qt st) s.heap.objs.size f cdv)):=⟨by have:=hr.dp;show A.depth+1+3*k+5<_;omega,by have:=hr.un;show A.units+3+16*k+200<_;omega⟩;obtain⟨t,ht,hq⟩:=hbody cdv A outer s H vs Q E hr2 hsp;have I:=QkA (E:=E) S e0 hl r x;refine wpAny_mono (ht [] s1 (start N vs) H _ I hq) (λfl s' hs=>?_) λe s' hs=>JP hs
 have fin:∀{σ':L2.St}{H':Hp}{v:V}{u:Value},L2.Inv (cxM P w K mg base N qual (Qt st) f cdv A outer s H E) [] σ' H' s'->RelV v u->Q v H'->CE outer P w H s Q u s':=
  λ{σ' H' v u} J rv q=>⟨v,H',J.os,J.bare,J.base,J.hok,rv,q⟩
 cases fl with
 |ret u=>
  obtain⟨v,σ',H',J,rv,q⟩:=hs;exact fin J rv q
 |next=>
  obtain⟨σ',H',J,q⟩:=hs;exact fin (v:=V.non) (u:=Zd) J rfl q
 |brk=>
  obtain⟨_,_,_,q⟩:=hs;exact JP q
 |cont=>
  obtain⟨_,_,_,q⟩:=hs;exact JP q
end
section
variable{X:Cx}{k:Nat}{f:Addr}{fd:QN}{ps:List Str}{sp:Sp}{x:Str}{p pos:Pos}{e:QP}{es:List QP}{t:TA}
theorem QoC(F:FnM X.prog X.w X.K X.mg X.base k f fd ps sp)(hr:QnF k X.A)(hg:Gl X x)(hm:X.mg x=some (.ref f))(hk:PySem.W.keepIn X.K (.ref f)=true)(hb:Binds X.K fd ps [])
  (ha:PA X (e::es) t)(hdb:(x == ("__debug__" : Str))=false:=by decide)(he:starEach (e::es) X.env=(false,eval e X.env)::starEach es X.env:=by rfl)(hpl:(backTo pos (starEach es X.env)).any (·.1)=false:=by rfl) :
  PE X (.Call (.Name x p) (e::es) [] pos) (λσ H Q=>t σ H λvs H1=>sp vs H1 Q E0):=by
 intro pins s σ H Q I h;refine YA (Qdn I hg hm ?_ hdb);refine PySem.W.callWith_K (h₀:=X.base) I.ok.mod.kin hk (thn (ha pos pins s σ H _ I h) λus s1 ⟨vs,H1,I1,r,q⟩=>⟨I1.kIn,?_⟩) he hpl;have hl:us.length=ps.length:=by rw[<- r.length];exact F.len _ _ _ _ q
 have hbb:QeL s1 fd ⟨us,[]⟩ (ps.zip us):=by
  have z:=hb s1 us I1.kIn (by rw[JB];exact hl);rw[JB] at z;exact z
 refine Qgs (QbZ (F.run X.A X.stack s1 H1 ⟨us,[]⟩ us vs Q _ hr I1.env0 hbb r q) λr s2 hq=>?_);cases r with
 |error e=>exact JP hq
 |ok fl=>
  cases fl with
  |ret u=>exact I1.after hq
  |next=>exact JP hq
  |brk=>exact JP hq
  |cont=>exact JP hq
end
section
variable{X:Cx}
theorem Qhp:CallR X (.builtin "isinstance") (λxs H Q=>∃a C y c b,xs=[.ref a,y]/\H a=some (exO a C)/\ExC X.K C/\(∀u,RelV y u->u=c)/\PySem.W.kitOne X.K (.ref C) c=some b/\Q (.bl b) H):=by
 intro pins s σ H xs us Q I r h;obtain⟨a,C,y,c,b,rfl,ha,hc,hy,e,q⟩:=h;obtain⟨u,v,rfl,ru,rv⟩:=vals2 r;cases(show u=JF a from ru);cases hy v rv;exact PySem.W.kia_one (QtT hc) I.kIn (I.hok a _ ha).1 e (λz=>nomatch z) λtk=>⟨.bl b,H,I.tok tk,rfl,q⟩
theorem bools_eq{bs:List Bool}{us:List Value}(r:Vals (bs.map V.bl) us):us=bs.map Zz:=by
 induction bs generalizing us with
 |nil=>cases r;rfl
 |cons b bs ih=>
  cases r with
  |cons r t=>
   cases(show _=Zz b from r);rw[ih t];rfl
def Qdp:Value->Bool
 |.bool b=>b
 |_=>false
theorem QkH(bs:List Bool):(bs.map Zz).countP Qdp=bs.countP id:=by
 rw[List.countP_map];exact List.countP_congr λb _=>Iff.rfl
def QsD:V->List V->Hp->VK->Prop:=λx vs H Q=>∃(l:Addr)(bs:List Bool),x=.ref l/\vs=[.bl true]/\H l=some (.lst (bs.map V.bl))/\Q (.int (bs.countP id:Nat)) H
theorem Qpk:MtR X "list.count" QsD:=by
 intro pins s σ H x vs v us Q I rx rv h;obtain⟨l,bs,rfl,rfl,hH,q⟩:=h;cases rx;obtain⟨u,rfl,ru⟩:=rv.one;cases(show u=Zz true from ru);obtain⟨z,its,n,r,hl,e⟩:=I.lstM hH;have hi:=bools_eq r;subst hi;refine Qbo F.slot_list_count ⟨_,e,rfl⟩ F.entry_list_count (F.args_list_count_2 _ _) (SeqAt.list_countAt l (bs.map Zz).toArray n none #[] (.bool true) Qdp) ⟨e,λy hy=>?_,?_⟩
 ·obtain⟨b,_,rfl⟩:=Qx.mp (YU.mp hy);have:=Qgv (A:=X.A.in1) (s:=s) b true;rw[show(b == true)=b by cases b<;>rfl] at this;exact this
 ·have e2:((bs.map Zz).toArray.toList.countP Qdp:Nat)=bs.countP id:=QkH bs;rw[e2];exact⟨.int (bs.countP id:Nat),H,I.tok _,⟨_,rfl⟩,q⟩
def QsB:V->List V->Hp->VK->Prop:=λx vs H Q=>∃(l:Addr)(bs:List Bool)(j:Nat),x=.ref l/\vs=[.bl true]/\H l=some (.lst (bs.map V.bl))/\bs[j]? = some true/\(∀m,m<j->bs[m]? = some false)/\Q (.int (j:Nat)) H
theorem Qpj:MtR X "list.index" QsB:=by
 intro pins s σ H x vs v us Q I rx rv h;obtain⟨l,bs,j,rfl,rfl,hH,hj,hm,q⟩:=h;cases rx;obtain⟨u,rfl,ru⟩:=rv.one;cases(show u=Zz true from ru);obtain⟨z,its,n,r,hl,e⟩:=I.lstM hH;have hi:=bools_eq r;subst hi;have hlt:=(QY.mp hj).1;have hsz:(bs.map Zz).toArray.size=bs.length:=by simp
 rw[Qg] at z;have hbig:bs.length<2^60:=Yn z (by decide);refine Qbo F.slot_list_index ⟨_,e,rfl⟩ F.entry_list_index (F.args_list_index_2 _ _) (SeqAt.list_indexAt l (bs.map Zz).toArray n none #[] (.bool true) Qdp j (by rw[hsz];exact hlt) (by omega) ?_ ?_) ⟨e,λy hy=>?_,?_⟩
 ·have:=(QY.mp hj).2;simp[Qdp,this]
 ·intro m hm1 hm2;have:=(QY.mp (hm m hm2)).2;simp[Qdp,this]
 ·obtain⟨b,_,rfl⟩:=Qx.mp (YU.mp hy);have:=Qgv (A:=X.A.in1) (s:=s) b true;rw[show(b == true)=b by cases b<;>rfl] at this;exact this
 ·exact⟨.int (j:Nat),H,I.tok _,⟨_,rfl⟩,q⟩
end
end Rx
namespace Rd
open L2
mutual
inductive Dat (H:Hp):V->Qa->Prop
 |non:Dat H .non .none
 |bl (b:Bool):Dat H (.bl b) (.bool b)
 |int (i:Int):Dat H (.int i) (.int i)
 |str (x:Str):YH (.str x)=true->Dat H (.str x) (.str x)
 |tup {a:Addr} {xs:List V} {ds:List Qa}:H a=some (.tup xs)->Dats H xs ds->Dat H (.ref a) (.tuple ds)
 |lst {a:Addr} {xs:List V} {ds:List Qa}:H a=some (.lst xs)->Dats H xs ds->Dat H (.ref a) (.list ds)
inductive Dats (H:Hp):List V->List Qa->Prop
 |nil:Dats H [] []
 |cons {x:V} {xs:List V} {d:Qa} {ds:List Qa}:Dat H x d->Dats H xs ds->Dats H (x::xs) (d::ds)
end
mutual
theorem ZU{P:Qy}{w:Jg}{H:Hp}{h:J5}(ok:HOk P w H h):∀(d:Qa)(x:V)(v:Value),Dat H x d->RelV x v->(∃as,Qa5 h v d as)/\d.canLay0=true
 |.none,_,v,.non,r=>by cases r;exact⟨⟨_,.none⟩,rfl⟩
 |.bool b,_,v,.bl _,r=>by cases r;exact⟨⟨_,.bool b⟩,rfl⟩
 |.int i,_,v,.int _,r=>by obtain⟨t,rfl⟩:=r;exact⟨⟨_,.int i t⟩,rfl⟩
 |.str z,_,v,.str _ c,r=>by obtain⟨t,rfl⟩:=r;exact⟨⟨_,.str z t⟩,c⟩
 |.tuple ds,_,v,.tup (a:=a) (xs:=xs) e q,r=>by
  cases r;obtain⟨_,its,rv,o,ho,hc,n,hd⟩:=ok a _ e;obtain⟨⟨as,ra⟩,cl⟩:=YL ok ds xs its q rv;exact⟨⟨as,.tuple ho hc hd ra⟩,cl⟩
 |.list ds,_,v,.lst (a:=a) (xs:=xs) e q,r=>by
  cases r;obtain⟨_,its,n,rv,ho⟩:=ok a _ e;obtain⟨⟨as,ra⟩,cl⟩:=YL ok ds xs its q rv;exact⟨⟨a::as,.list ho rfl rfl ra⟩,cl⟩
 |.dict _,_,_,q,_=>nomatch q
theorem YL{P:Qy}{w:Jg}{H:Hp}{h:J5}(ok:HOk P w H h):∀(ds:List Qa)(xs:List V)(vs:List Value),Dats H xs ds->Vals xs vs->(∃as,YB h vs ds as)/\Q8 ds=true
 |[],_,vs,.nil,r=>by cases r;exact⟨⟨_,.nil⟩,rfl⟩
 |d::ds,_,vs,.cons (x:=x) (xs:=xs) q qs,r=>by
  cases r with
  |cons r rs=>
   obtain⟨⟨a1,r1⟩,c1⟩:=ZU ok d x _ q r;obtain⟨⟨a2,r2⟩,c2⟩:=YL ok ds xs _ qs rs;exact⟨⟨_,.cons r1 r2⟩,by simp[Q8,c1,c2]⟩
end
mutual
theorem QjF{H H':Hp}(s:Same H H'):∀(d:Qa)(x:V),Dat H x d->Dat H' x d
 |.none,_,.non=>.non
 |.bool _,_,.bl _=>.bl _
 |.int _,_,.int _=>.int _
 |.str _,_,.str _ c=>.str _ c
 |.tuple ds,_,.tup (xs:=xs) e q=>.tup (s _ _ e) (QcQ s ds xs q)
 |.list ds,_,.lst (xs:=xs) e q=>.lst (s _ _ e) (QcQ s ds xs q)
 |.dict _,_,q=>nomatch q
theorem QcQ{H H':Hp}(s:Same H H'):∀(ds:List Qa)(xs:List V),Dats H xs ds->Dats H' xs ds
 |[],_,.nil=>.nil
 |d::ds,_,.cons (x:=x) (xs:=xs) q qs=>.cons (QjF s d x q) (QcQ s ds xs qs)
end
theorem Dat.same{H H':Hp}{x:V}{d:Qa}(q:Dat H x d)(s:Same H H'):Dat H' x d:=QjF s d x q
theorem Dats.same{H H':Hp}{xs:List V}{ds:List Qa}(q:Dats H xs ds)(s:Same H H'):Dats H' xs ds:=QcQ s ds xs q
theorem Dats.length{H:Hp}:∀{xs:List V}{ds:List Qa},Dats H xs ds->xs.length=ds.length
 |_,_,.nil=>rfl
 |_,_,.cons _ q=>by rw[QJ,QJ,q.length]
theorem Dats.get{H:Hp}:∀{xs:List V}{ds:List Qa},Dats H xs ds->∀(i:Nat)(x:V),xs[i]? = some x->∃d,ds[i]? = some d/\Dat H x d
 |_,_,.nil,i,x,e=>by simp at e
 |_,_,.cons q qs,0,x,e=>by simp at e;subst e;exact⟨_,rfl,q⟩
 |_,_,.cons q qs,i+1,x,e=>qs.get i x (by simpa using e)
section
variable{X:Cx}
def QAq(X:Cx):R2:=λx y H Q=>∃dx dy,Dat H x dx/\Dat H y dy/\X.A.units+min dx.depth dy.depth<cLine/\Q (.bl (Jq dx dy)) H
theorem Qmd:OpR X (compareOp .Eq) (QAq X):=by
 intro pins s σ H x y v u Q I rx ry h;obtain⟨dx,dy,qx,qy,hu,q⟩:=h;obtain⟨⟨as,ra⟩,ca⟩:=ZU I.hok dx x v qx rx;obtain⟨⟨bs,rb⟩,cb⟩:=ZU I.hok dy y u qy ry;exact SeqAt.compareEq_reads ra rb ca cb hu ⟨.bl _,H,I,rfl,q⟩
open Classical in
noncomputable def eqH (h:J5) (d:Qa) (y:Value):Bool:=decide (∃e as,Qa5 h y e as/\e.canLay0=true/\Jq e d=true)
open Classical in
theorem Qzc{h:J5}{d:Qa}{y:Value}(q:∃e as,Qa5 h y e as/\e.canLay0=true/\Jq e d=true):eqH h d y=true:=by
 unfold eqH;exact decide_eq_true q
open Classical in
theorem Qzd{h:J5}{d:Qa}{y:Value}(q:¬ ∃e as,Qa5 h y e as/\e.canLay0=true/\Jq e d=true):eqH h d y=false:=by
 unfold eqH;exact decide_eq_false q
theorem QrL{h:J5}{d e:Qa}{y:Value}{as:List Addr}(r:Qa5 h y e as)(c:e.canLay0=true):eqH h d y=Jq e d:=by
 cases q:Jq e d with
 |true=>exact Qzc ⟨e,as,r,c,q⟩
 |false=>
  refine Qzd λ⟨e',as',r',c',q'⟩=>?_
  rw[<- QaM e e' y as as' c r r',q] at q';cases q'
theorem QeD{h:J5}{d:Qa}:∀{vs:List Value}{ds:List Qa}{as:List Addr},YB h vs ds as->Q8 ds=true->vs.any (eqH h d)=ds.any λe=>Jq e d
 |_,_,_,.nil,_=>rfl
 |_,_,_,.cons r rs,c=>by
  simp only[Q8,JG] at c;rw[Qb1,Qb1,QrL r c.1,QeD rs c.2]
theorem Qep{A:Q5}{s:Shared}{d:Qa}{v:Value}{bs:List Addr}(rv:Qa5 s.heap v d bs)(cv:d.canLay0=true):∀{vs:List Value}{ds:List Qa}{as:List Addr},YB s.heap vs ds as->Q8 ds=true->A.units+d.depth<cLine ->
  ∀u∈vs,SeqAt.EqAt A s u v (eqH s.heap d u)
 |_,_,_,.nil,_,_=>λu hu=>nomatch hu
 |_,_,_,.cons (d:=e) r rs,c,hu=>λu hm=>by
  simp only[Q8,JG] at c;rcases Qz.mp hm with z | z
  ·subst z;rw[QrL r c.1];exact QeH e d A s _ v _ bs r rv c.1 cv (Yn (Nat.add_le_add_left (Qfz _ _) _) hu)
  ·exact Qep rv cv rs c.2 hu u z
def QzJ(X:Cx)(neg:Bool):R2:=λx y H Q=>∃c ps ds d,y=.ref c/\H c=some (.tup ps)/\Dats H ps ds/\Dat H x d/\X.A.in1.units+d.depth<cLine/\Q (.bl (if neg then !(ds.any λe=>Jq e d) else ds.any λe=>Jq e d)) H
theorem Qv6:OpR X (compareOp .In) (QzJ X false):=by
 intro pins s σ H x y v u Q I rx ry h;obtain⟨c,ps,ds,d,rfl,hc,qs,qx,hu,q⟩:=h;cases ry;obtain⟨⟨as,ra⟩,ca⟩:=ZU I.hok d x v qx rx;obtain⟨_,its,rv,tp⟩:=I.hok c _ hc;obtain⟨⟨bs,rb⟩,cb⟩:=YL I.hok ds ps its qs rv;refine SeqAt.in_tupleAt (eqH s.heap d) tp (λw hw=>Qep ra ca rb cb hu w (YU.mp hw)) ⟨.bl _,H,I,rfl,?_⟩;rw[show its.toArray.any (eqH s.heap d)=its.any (eqH s.heap d) by simp,QeD rb cb];exact q
theorem Qmb:OpR X (compareOp .NotIn) (QzJ X true):=by
 intro pins s σ H x y v u Q I rx ry h;obtain⟨c,ps,ds,d,rfl,hc,qs,qx,hu,q⟩:=h;cases ry;obtain⟨⟨as,ra⟩,ca⟩:=ZU I.hok d x v qx rx;obtain⟨_,its,rv,tp⟩:=I.hok c _ hc;obtain⟨⟨bs,rb⟩,cb⟩:=YL I.hok ds ps its qs rv;refine SeqAt.notIn_tupleAt (eqH s.heap d) tp (λw hw=>Qep ra ca rb cb hu w (YU.mp hw)) ⟨.bl _,H,I,rfl,?_⟩;rw[show its.toArray.any (eqH s.heap d)=its.any (eqH s.heap d) by simp,QeD rb cb];exact q
end
theorem QiN:∀{ts:List String}{us:List Value},Vals (ts.map V.ty) us->us=ts.map Yv
 |[],_,.nil=>rfl
 |t::ts,_,.cons r q=>by
  cases(show _=Yv t from r);rw[QiN q];rfl
section
variable{X:Cx}
theorem QkK:CallR X (.builtin "isinstance") (λxs H Q=>∃(x:V)(t:Value)(tp:Addr)(ts:List String)(b:Bool)(d:Qa),xs=[x,.ref tp]/\H tp=some (.tup (ts.map V.ty))/\Rd.Dat H x d/\TyOf X.K H x t/\PySem.W.kitAny X.K t (ts.map Yv)=some b/\Q (.bl b) H):=by
 intro pins s σ H xs us Q I r h;obtain⟨x,t,tp,ts,b,d,rfl,htp,dat,ty,e,q⟩:=h;obtain⟨u,v,rfl,ru,rv⟩:=vals2 r;cases(show v=JF tp from rv);obtain⟨_,its,rt,⟨oc,od,oda,osl⟩,ho,hc,n,hd⟩:=I.hok tp _ htp;cases QiN rt
 dsimp only at hc hd
 subst hc hd;have fin:∀tk,EP X pins σ Q (.bool b) { s with toks:=tk }:=λtk=>⟨.bl b,H,I.tok tk,rfl,q⟩
 cases dat with
 |non=>cases(show u=Zd from ru);cases ty;exact PySem.W.kia_tup PySem.W.kitx_none I.kIn Z8 ho e (λz=>nomatch z) fin
 |bl y=>cases(show u=Zz y from ru);cases ty;exact PySem.W.kia_tup PySem.W.kitx_bool I.kIn Z8 ho e (λz=>nomatch z) fin
 |int i=>obtain⟨t,z⟩:=(show ∃t,u=Qbx i t from ru);cases z;cases ty;exact PySem.W.kia_tup PySem.W.kitx_int I.kIn Z8 ho e (λz=>nomatch z) fin
 |str y _=>obtain⟨t,z⟩:=(show ∃t,u=Qfw y t from ru);cases z;cases ty;exact PySem.W.kia_tup PySem.W.kitx_str I.kIn Z8 ho e (λz=>nomatch z) fin
 |@tup a xs ds ea _=>
  cases(show u=JF a from ru);obtain⟨_,_,_,p⟩:=(show ObjOk X.prog X.w H s.heap a (.tup xs) from I.hok a _ ea);obtain⟨o,h1,h2,_⟩:=p;have et:t=.type "tuple" := by
   cases ty<;>first | rfl | (rename_i e';rw[ea] at e';cases e') | skip
  subst et;exact PySem.W.kia_tup PySem.W.kitx_tuple I.kIn ⟨o,h1,h2⟩ ho e (λz=>nomatch z) fin
 |@lst a xs ds ea _=>
  cases(show u=JF a from ru);obtain⟨_,_,n',_,h1⟩:=(show ObjOk X.prog X.w H s.heap a (.lst xs) from I.hok a _ ea);have et:t=.type "list" := by
   cases ty<;>first | rfl | (rename_i e';rw[ea] at e';cases e') | skip
  subst et;exact PySem.W.kia_tup PySem.W.kitx_list I.kIn ⟨_,h1,rfl⟩ ho e (λz=>nomatch z) fin
end
end Rd
namespace L2
def Ite(l:Addr):It:=
 ⟨λi H=>∃xs x,H l=some (.lst xs)/\xs[i]? = some x,
  λi H v H'=>∃p x,H p=none/\(∀xs,H l=some (.lst xs)->xs[i]? = some x)/\v=.ref p/\H'=upd H p (.tup [.int (i:Nat),x]),
  λi H=>∃xs,H l=some (.lst xs)/\xs.length<=i⟩
theorem Qle{P:Qy}{w:Jg}{K:PySem.W.Frag}{elts:List QP}{x1}{tpos:Pos}{e it l:Addr}(hne:e≠it) :
  Turn P w K (.Tuple elts x1 tpos) (Ite l) [e,it] e (λi h=>(∃old,IsEnum h e it (i:Nat) old)/\h.IsListIter it l i) where
 mem:=by simp
 obj:=λi h st b hb=>by
  obtain⟨⟨old,a1⟩,⟨o2,a2,_,d2⟩⟩:=st;simp only[Qz,Jy,or_false] at hb;rcases hb with rfl | rfl
  ·exact⟨_,a1,λv q=>nomatch q⟩
  ·exact⟨_,a2,λv q=>by rw[d2] at q;cases q⟩
 keep:=λi h h' st k=>by
  obtain⟨⟨old,a1⟩,⟨o2,a2,c2⟩⟩:=st;exact⟨⟨old,k e (by simp) _ a1⟩,o2,k it (by simp) _ a2,c2⟩
 item:=by
  intro X hP hw hK hc i pins s σ H E I hf st hg;subst hP hw hK;obtain⟨xs,x,h1,hx⟩:=hg;obtain⟨⟨old,a1⟩,a2⟩:=st;obtain⟨its,r1,p1,_⟩:=I.list (SqL.of h1);obtain⟨u,hu,ru⟩:=r1.get hx;refine wpAny_pyNext_enum_item a1 a2 p1.isList (x:=u) (by simpa using hu) hne λh' o' l' tp sz kp=>?_
  have fr:H s.heap.objs.size=none:=I.hok.fresh (Qi _);have n1:e≠s.heap.objs.size:=QD (Qp a1);have n2:it≠s.heap.objs.size:=by
   obtain⟨o2,a2,_⟩:=a2;exact QD (Qp a2)
  refine⟨_,rfl,wpAny_letOwnedTupleGo_enum o' λh2 e2 s2=>?_⟩;have I1:Inv X pins σ (upd H s.heap.objs.size (.tup [.int (i:Nat),x])) { s with heap:=h2,toks:=s.toks+1 }:=by
   refine I.turnedNew (ch:=[e,it]) hf (λb v hb q=>?_) (Qi _) ⟨by show 2<=sizeLine;decide,[.int (i:Nat) s.toks,u],.cons ⟨_,rfl⟩ (.cons ru .nil),?_⟩
   ·simp only[Qz,Jy,or_false,not_or] at hb;exact s2.extBut _ _ hb.1 (kp b v hb.1 hb.2 q)
   ·exact⟨_,s2.extBut _ _ n1.symm tp,rfl,0,rfl⟩
  refine⟨.ref s.heap.objs.size,_,I1,rfl,⟨_,x,fr,λxs' q=>?_,rfl,rfl⟩,⟨⟨u,e2⟩,?_⟩,λb hb=>?_⟩
  ·rw[h1] at q;cases q;exact hx
  ·exact l'.extBut s2.extBut hne.symm
  ·simp only[Qz,Jy,or_false] at hb;rcases hb with rfl | rfl
   ·rw[JO n1];exact(hf _ (by simp)).1
   ·rw[JO n2];exact(hf _ (by simp)).1
 done:=by
  intro X hP hw hK hc i pins s σ H E I hf st hg;subst hP hw hK;obtain⟨xs,h1,he⟩:=hg;obtain⟨⟨old,a1⟩,a2⟩:=st;obtain⟨its,r1,p1,_⟩:=I.list (SqL.of h1);have l1:=r1.length;refine wpAny_pyNext_enum_end (I.ok.hd hc) a1 a2 p1.isList (by simp;omega) λh' kp=>⟨rfl,I.turnedAll (t':=s.toks) (ch:=[e,it]) hf λb v hb q=>?_⟩
  simp only[Qz,Jy,or_false,not_or] at hb;exact kp b v hb.2 q
 self:=λ_ _ _ _ _ st h=>by
  obtain⟨⟨old,a1⟩,_⟩:=st;exact QxI a1 h
def Qy6(ta:TA):TI:=λσ H R=>ta σ H λvs H1=>∃l xs,vs=[.ref l]/\H1 l=some (.lst xs)/\R (Ite l) H1
theorem Qns:bootBuiltins "enumerate" = some (.type "enumerate"):=by decide +kernel
section
variable{X:Cx}
theorem QsZ{a:QP}{elts:List QP}{x1}{tpos:Pos}{ta:TA}{p pos:Pos}(hg:Gl X "enumerate")(hm:X.mg "enumerate" = none)(ha:PA X [a] ta)(hs:starEach [a] X.env=[(false,eval a X.env)]:=by rfl) :
  PI X (.Tuple elts x1 tpos) (.Call (.Name "enumerate" p) [a] [] pos) (Qy6 ta):=by
 intro pins s σ H R I h;refine Call_ (Qch I hg hm Qns (JE (thn (ha pos pins s σ H _ I h) λus s1 ⟨vs,H1,I1,r1,q1⟩=>?_) hs rfl));obtain⟨l,xs,e,h1,q⟩:=q1;subst e;obtain⟨u,rfl,ru⟩:=vals1 r1;cases(show u=JF l from ru);obtain⟨its,w1,p1,_⟩:=I1.list (SqL.of h1);refine call_enumerate_list p1.isList λh' e1 i1 sz kp=>?_
 refine QxI (s:={ s1 with heap:=h' }) e1 ?_
 refine⟨s1.heap.objs.size+1,_,_,_,H1,rfl,I1.kept (t':=s1.toks) kp,Qle (by show ¬(s1.heap.objs.size+1=s1.heap.objs.size);omega),⟨⟨_,e1⟩,i1⟩,λb hb=>?_,q⟩;have hb':s1.heap.objs.size<=b:=by
  simp only[Qz,Jy,or_false] at hb;rcases hb with rfl | rfl<;>omega
 exact I1.fpOk hb' (I1.hok.fresh hb')
end
section
variable{prog:Qy}{w:Jg}{A:Q5}{R:Qr4->Shared->Prop}{s:Shared}
theorem QgJ{elt tg iter:QP}{ifs:List QP}{g0:QcB}{scope:Z5}{pos:Pos}{it acc:Value}{env:Env}
  (h0:codeAny (model prog w) A (.compLoop (.ListComp elt [g0,⟨tg,iter,ifs,0⟩] scope pos) 1 it acc env) R s)
  (h:wpAny (model prog w) A (pyIter it) (λit' s'=>codeAny (model prog w) A (.compLoop (.ListComp elt [g0,⟨tg,iter,ifs,0⟩] scope pos) 1 it' acc env) R s') (notedBy (model prog w) A env λx s'=>R (.error x) s') s) :
  codeAny (model prog w) A (.compStart (.ListComp elt [g0,⟨tg,iter,ifs,0⟩] scope pos) 1 it acc env) R s:=by
 refine codeAny_of_tree ?_
 show wpAny _ _ ((compStart (.ListComp elt [g0,⟨tg,iter,ifs,0⟩] scope pos) 1 it acc env).onRaise (λx=>do noteFrame x env;standAt theWindowsPlace)) _ _ s;refine wpAny_notedAt ?_
 unfold compStart;show wpAny _ _ (ask >>= _) _ _ s;refine wpAny_bind (wpAny_askSetting (wpAny_ite ?_));split
 ·first
   |exact wpAny_bind (Qe (Qe ⟨rfl,h0⟩))
   |exact Qe ⟨rfl,h0⟩
 ·first
   |exact wpAny_bind (wpAny_rule (wpAny_bind (wpAny_standAt (wpAny_bind (wpAny_mono h (λit' s' h'=>Qe ⟨rfl,h'⟩) λ_ _ x=>x)))))
   |exact wpAny_bind (wpAny_rule (wpAny_bind (wpAny_standAt (wpAny_bind (wpAny_mono h (λit' s' h'=>Qe (Qe ⟨rfl,h'⟩)) λ_ _ x=>x)))))
end
theorem Qld{Y:Cx}{elt tg iter:QP}{ifs:List QP}{g0:QcB}{scope:Z5}{cpos:Pos}{it D:Addr}(Q:PySem.Fin->Shared->Prop)(E:Value->Shared->Prop)(s:Shared)
  (h:wpAny (model Y.prog Y.w) Y.A (pyNext (.ref it)) (λr s1=>match r with
   |none=>Q (.done .next) s1
   |some v=>wpAny (model Y.prog Y.w) Y.A (letOwnedTupleGo tg (.ref it) v) (λ_ s2=>QnA Y tg ifs (QnD Y elt D) v (λs3=>Q (.again (.compLoop (.ListComp elt [g0,⟨tg,iter,ifs,0⟩] scope cpos) 1 (.ref it) (.ref D) Y.env)) s3) s2) E s1) E s) :
  wpAny (model Y.prog Y.w) Y.A (compTurn (.ListComp elt [g0,⟨tg,iter,ifs,0⟩] scope cpos) 1 (.ref it) (.ref D) Y.env) Q E s:=by
 have e:compTurn (.ListComp elt [g0,⟨tg,iter,ifs,0⟩] scope cpos) 1 (.ref it) (.ref D) Y.env=(do
   standAt iter.pos
   match <- pyNext (.ref it) with
   |none=>pure (.done .next)
   |some v=>
    letOwnedTupleGo tg (.ref it) v
    assign tg Y.env v
    let mut ok:=true
    for c in ifs do
     if ok then ok <- isTrue c Y.env (eval c Y.env)
    if ok then
     (do let _ <- call (.builtin "list.append") [.ref D,<- eval elt Y.env])
    again (.compLoop (.ListComp elt [g0,⟨tg,iter,ifs,0⟩] scope cpos) 1 (.ref it) (.ref D) Y.env)):=by rfl
 rw[e];refine wpAny_bind (wpAny_standAt (wpAny_bind (thn h λr s1 h1=>?_)));cases r with
 |none=>exact Qe h1
 |some v=>
  refine wpAny_bind (thn h1 λ_ s2 h2=>?_);refine wpAny_bind (wpAny_mono h2 (λ_ s4 h4=>wpAny_bind (wpAny_mono h4 (λok s5 h5=>?_) λ_ _ f=>f.elim)) λ_ _ f=>f.elim);cases ok with
  |false=>exact Qe h5
  |true=>exact wpAny_bind (wpAny_bind (wpAny_mono h5 (λx s6 h6=>wpAny_bind (wpAny_mono h6 (λ_ s7 h7=>Qe (Qe h7)) λ_ _ f=>f.elim)) λ_ _ f=>f.elim))
def QnB(Y:Cx)(e:QP)(iter:QP)(D:Addr):Act:=λQ s=>wpAny (model Y.prog Y.w) Y.A (eval iter Y.env) (λx s1=>wpAny (model Y.prog Y.w) Y.A (pyIter x)
 (λitv s2=>codeAny (model Y.prog Y.w) Y.A (.compStart e 1 itv (.ref D) Y.env) (λr s3=>match r with | .ok _=>Q s3 | .error _=>False) s2) (λ_ _=>False) s1) (λ_ _=>False) s
def Qxc(wi:TI)(g:TG)(tc:TT)(p:Addr)(te:TE):St->Hp->(Hp->Prop)->Prop:=λσ H k=>wi σ H λJ H1=>QgG J (bOf σ g tc (QuD p te)) k H1
theorem Qhs{Y:Cx}{σ:St}{elt tg iter:QP}{ifs:List QP}{g0:QcB}{scope:Z5}{cpos:Pos}{D:Addr}{wi:TI}{g:TG}{tc:TT}{te:TE}(hx:Y.xe=λ_ _=>False)(hc:Y.calm=true)
  (hi:PI Y tg iter wi)(hg:PG Y tg g)(ht:PTs Y ifs tc)(he:PE Y elt te):BodyOk Y σ (QnB Y (.ListComp elt [g0,⟨tg,iter,ifs,0⟩] scope cpos) iter D) (Qxc wi g tc D te σ):=by
 intro pins s H k Q I h hQ;have hx':∀(v:Value)(s':Shared),Y.xe v s'->False:=λv s' z=>by rw[hx] at z;exact z
 refine wpAny_mono (hi pins s σ H _ I h) (λv s1 h1=>wpAny_mono h1 (λitv s2 h2=>?_) hx') hx';obtain⟨it,fp,tn,J,H2,e,I2,T,st2,f2,hW⟩:=h2;subst e;have loop:codeAny (model Y.prog Y.w) Y.A (.compLoop (.ListComp elt [g0,⟨tg,iter,ifs,0⟩] scope cpos) 1 (.ref it) (.ref D) Y.env) (λr s3=>match r with | .ok _=>Q s3 | .error _=>False) s2:=
  QbT (Y:=Y) (gens:=[g0,⟨tg,iter,ifs,0⟩]) (d:=1) hc T st2 f2 (λQ E s h=>Qld Q E s h) (λx u r=>Qdw hx hg ht (λσ4=>Qgi hx he) x u r) I2 hW λs' H' I' q=>hQ s' H' I' q
 exact QgJ loop (T.self _ 0 _ _ _ st2 loop)
theorem QeU{Y:Cx}{elt tg iter tg2 iter2:QP}{ifs ifs2:List QP}{scope:Z5}{cpos:Pos}{it D:Addr}(hs:∀x,foldedSetIterable iter2 Y.env x=pure x)(Q:PySem.Fin->Shared->Prop)(E:Value->Shared->Prop)(s:Shared)
  (h:wpAny (model Y.prog Y.w) Y.A (pyNext (.ref it)) (λr s1=>match r with
   |none=>Q (.done .next) s1
   |some v=>wpAny (model Y.prog Y.w) Y.A (letOwnedTupleGo tg (.ref it) v) (λ_ s2=>QnA Y tg ifs (QnB Y (.ListComp elt [⟨tg,iter,ifs,0⟩,⟨tg2,iter2,ifs2,0⟩] scope cpos) iter2 D) v (λs3=>Q (.again (.compLoop (.ListComp elt [⟨tg,iter,ifs,0⟩,⟨tg2,iter2,ifs2,0⟩] scope cpos) 0 (.ref it) (.ref D) Y.env)) s3) s2) E s1) E s) :
  wpAny (model Y.prog Y.w) Y.A (compTurn (.ListComp elt [⟨tg,iter,ifs,0⟩,⟨tg2,iter2,ifs2,0⟩] scope cpos) 0 (.ref it) (.ref D) Y.env) Q E s:=by
 have e:compTurn (.ListComp elt [⟨tg,iter,ifs,0⟩,⟨tg2,iter2,ifs2,0⟩] scope cpos) 0 (.ref it) (.ref D) Y.env=(do
   standAt iter.pos
   match <- pyNext (.ref it) with
   |none=>pure (.done .next)
   |some v=>
    letOwnedTupleGo tg (.ref it) v
    assign tg Y.env v
    let mut ok:=true
    for c in ifs do
     if ok then ok <- isTrue c Y.env (eval c Y.env)
    if ok then
     let x <- eval iter2 Y.env
     standAt iter2.pos
     let x <- foldedSetIterable iter2 Y.env x
     let _ <- runOwn (.compStart (.ListComp elt [⟨tg,iter,ifs,0⟩,⟨tg2,iter2,ifs2,0⟩] scope cpos) 1 (<- holding [x] (pyIter x)) (.ref D) Y.env) Y.env
    again (.compLoop (.ListComp elt [⟨tg,iter,ifs,0⟩,⟨tg2,iter2,ifs2,0⟩] scope cpos) 0 (.ref it) (.ref D) Y.env)):=by rfl
 rw[e];refine wpAny_bind (wpAny_standAt (wpAny_bind (thn h λr s1 h1=>?_)));cases r with
 |none=>exact Qe h1
 |some v=>
  refine wpAny_bind (thn h1 λ_ s2 h2=>?_);refine wpAny_bind (wpAny_mono h2 (λ_ s4 h4=>wpAny_bind (wpAny_mono h4 (λok s5 h5=>?_) λ_ _ f=>f.elim)) λ_ _ f=>f.elim);cases ok with
  |false=>exact Qe h5
  |true=>
   refine wpAny_bind (wpAny_mono h5 (λx s6 h6=>wpAny_bind (wpAny_standAt ?_)) λ_ _ f=>f.elim);rw[hs x];refine wpAny_bind (Qe (wpAny_bind (Zg (wpAny_mono h6 (λitv s7 h7=>?_) λ_ _ f=>f.elim))));refine wpAny_bind (wpAny_runOwn (h:=none) (QbZ h7 λr s8 h8=>?_));cases r with
   |error z=>exact h8.elim
   |ok fl=>exact Qe h8
def Qli(cap:List (Option Nat))(wi:TI)(g:TG)(tc:TT)(wi2:TI)(g2:TG)(tc2:TT)(te:TE):TE:=λσ H Q=>wi σ H λJ H1=>∀p,H1 p=none->QgG J (bOf (Qc0 cap σ) g tc (Qxc wi2 g2 tc2 p te)) (Q (.ref p)) (upd H1 p (.lst []))
theorem QlV{X:Cx}{M:List Str}{cap:List (Option Nat)}{elt tg iter tg2 iter2:QP}{ifs ifs2:List QP}{scope:Z5}{pos:Pos}{wi wi2:TI}{g g2:TG}{tc tc2:TT}{te:TE}(hc:X.calm=true)(ok:Qcr X.N X.env.scope M scope cap=true)
  (hi:PI X tg iter wi)(hb:∀cl ex s3 H3 C,PG (blk X M scope cl ex s3 H3 C) tg g/\PTs (blk X M scope cl ex s3 H3 C) ifs tc/\PI (blk X M scope cl ex s3 H3 C) tg2 iter2 wi2/\PG (blk X M scope cl ex s3 H3 C) tg2 g2/\PTs (blk X M scope cl ex s3 H3 C) ifs2 tc2/\PE (blk X M scope cl ex s3 H3 C) elt te)
  (hs:∀x,foldedSetIterable iter X.env x=pure x:=by intro _;rfl)(hs2:∀env x,foldedSetIterable iter2 env x=pure x:=by intro _ _;rfl):PE X (.ListComp elt [⟨tg,iter,ifs,0⟩,⟨tg2,iter2,ifs2,0⟩] scope pos) (Qli cap wi g tc wi2 g2 tc2 te):=by
 intro pins s σ H Q I h;have c:=CapOk.of ok;rw[eval_ListComp];refine Z4 (use:=none) rfl hs (Qez (I.ok.cells c)) c.kind c.loc ?_
 refine thn (hi pins s σ H _ I h) λv s1 h1=>thn h1 λitv s2 h2=>?_
 obtain⟨it,fp,tn,J,H2,e,I2,T,st2,f2,hW⟩:=h2;subst e;refine JC (Y2 c.cell (by intro y hy;simp at hy) (λh₁ hns₁ hsb₁=>?_) c.kind);have I3:Inv X pins σ (upd H2 s2.heap.objs.size (.lst [])) { s2 with heap:=s2.heap.push { cls:=.type "list",data:=.seq ([]:List Value).toArray } }:=I2.lnew (t':=s2.toks) (ys:=[]) .nil (Qw _);have lt2:∀b∈fp,b<s2.heap.objs.size:=λb hb=>by obtain⟨o,e,_⟩:=T.obj _ _ st2 b hb;exact Qp e
 have f3:∀b∈fp,FpOk X pins (upd H2 s2.heap.objs.size (.lst [])) b:=λb hb=>(f2 b hb).upd (QD (lt2 b hb))
 generalize hs3:({ s2 with heap:=s2.heap.push { cls:=.type "list",data:=.seq ([]:List Value).toArray } }:Shared)=s3 at I3;have e3:s3.heap=s2.heap.push { cls:=.type "list",data:=.seq ([]:List Value).toArray }:=by rw[<- hs3]
 have z3:s3.heap.objs.size=s2.heap.objs.size+1:=by rw[e3,ZN]
 have hk:∀b o,s3.heap.get? b=some o->h₁.get? b=some o:=λb o e=>hsb₁.extBut b o (by
  have:=Qp e;rw[e3] at this;exact QD this) (Qc _ (e3 ▸ e))
 have hn₁:h₁.Ns s3.heap.objs.size λ_=>none:=by rw[e3];exact hns₁
 have B:=QbX (t4:=s3.toks+([]:List (Str×Value)).length) (fp:=fp) I3 c f3 (λb hb=>by rw[z3];exact Qap (lt2 b hb)) hn₁ hk;have st4:tn 0 h₁:=T.keep _ _ _ st2 λb hb o e=>hk b o (by rw[e3];exact Qc _ e)
 have fp4:∀b∈fp,FpOk (blk X M scope (Qa4 X.env scope.names []) fp s3 (upd H2 s2.heap.objs.size (.lst [])) s3.heap.objs.size) [] (upd H2 s2.heap.objs.size (.lst [])) b:=λb hb=>by
  refine⟨(f3 b hb).1,(B.ok.exf b hb).1,B.ok.exfs b hb,.inl hb,(B.ok.exf b hb).2,λp hp=>(nomatch hp)⟩
 obtain⟨hg,ht,hi2,hg2,ht2,he⟩:=hb (Qa4 X.env scope.names []) fp s3 (upd H2 s2.heap.objs.size (.lst [])) s3.heap.objs.size;have loop:codeAny (model X.prog X.w) X.A (.compLoop (.ListComp elt [⟨tg,iter,ifs,0⟩,⟨tg2,iter2,ifs2,0⟩] scope pos) 0 (.ref it) (.ref s2.heap.objs.size) (compEnvC scope (Qa4 X.env scope.names []) s3.heap.objs.size X.env))
   (compPost (model X.prog X.w) X.A X.xe none (EP X pins σ Q) (.ref s2.heap.objs.size) s3.heap.objs.size) { s3 with heap:=h₁,toks:=s3.toks+([]:List (Str×Value)).length }:=by
  refine QbT (Y:=blk X M scope (Qa4 X.env scope.names []) fp s3 (upd H2 s2.heap.objs.size (.lst [])) s3.heap.objs.size) (gens:=[⟨tg,iter,ifs,0⟩,⟨tg2,iter2,ifs2,0⟩]) (d:=0) hc T st4 fp4
   (λQ E s h=>QeU (hs2 _) Q E s h) (λx u r=>Qdw rfl hg ht (λσ4=>Qhs rfl hc hi2 hg2 ht2 he) x u r) B (hW _ (I2.hok.fresh (Qi _))) λs' H' I' q=>?_
  obtain⟨m,hn,_⟩:=I'.loc;exact⟨m,hn,λh' hs'=>⟨.ref s2.heap.objs.size,H',Qgj I3 f3 I' hs',rfl,q⟩⟩
 exact QaL loop (T.self _ 0 _ _ _ st4 loop)
end L2
namespace Rk
open L2 Rd
def pairD(ij:Int×Int):Qa:=.tuple [.int ij.1,.int ij.2]
theorem QkE(b:Int×Int):Jx (pairD b)=1:=by
 unfold pairD;simp[Jx,Q4]
end Rk
namespace Rr
section
variable{prog:Qy}{w:Jg}{A:Q5}{E:Value->Shared->Prop}{s:Shared}
theorem QwH{Q:List Value->Shared->Prop}{r:Addr}{a b:Int}{t u v:Tok}{n:Nat}(hh:A.handled=none)(hr:Qgz s.heap r a b 1 t u v)(hsm:QbF a b 1=true)(hn:Js a b 1=n)(hl:n<=2^24)
  (hQ:∀(h':J5)(tk:Nat)(acc:Array Value),(∀c o,s.heap.get? c=some o->h'.get? c=some o)->ItemsOf (λi v=>∃t,v=.int (a+i*1) t) acc n->Q acc.toList { s with heap:=h',toks:=tk }) :
  wpAny (model prog w) A (collect (.ref r)) Q E s:=by
 unfold collect;refine wpAny_bind (wpAny_runValue (QdH F.entry_proto_collect ?_));rw[Qcy F.plain_proto_collect _];show wpAny _ A.in1 (newList [] >>= λl=>again (.builtin "list.__iadd__" ⟨[l,.ref r],[]⟩)) _ _ s;refine wpAny_bind (JC (Qe ⟨plainId_quiet QuO _,QdH F.entry_list_iadd ?_⟩));rw[Qcy QuO _];have hS:(s.heap.push { cls:=.type "list",data:=.seq ([]:List Value).toArray }).get? s.heap.objs.size=some { cls:=.type "list",data:=.seq #[] }:=QB _ rfl;show wpAny _ A.in1 (Builtin.List.listExtendWith (.ref s.heap.objs.size) (.ref r) (.ref s.heap.objs.size)) _ _ _;refine wpAny_extend_range (A:=A) (R:=λrr s'=>match rr with
  |.ok (.ret v)=>wpAny (model prog w) A (match v with
   |.ref a=>do
    let o <- load a
    match o.data with
    |.seq xs _=>pure xs.toList
    |_=>unsupported "internal:collect"
   |_=>unsupported "internal:collect") Q E s'
  |.ok _=>False
  |.error e=>E e s') (s:={ s with heap:=s.heap.push { cls:=.type "list",data:=.seq ([]:List Value).toArray } }) hh (Qc _ hr) hsm hn hl s.heap.objs.size (.ref s.heap.objs.size) 0 hS λh' tk acc' c' kp hS' hacc=>?_
 show wpAny _ A (load s.heap.objs.size >>= _) _ _ _;refine wpAny_bind (wpAny_load hS' (Qe (hQ h' tk acc' (λc o e=>kp c o (QD (Qp e)) (Qc _ e)) hacc)))
theorem Qwl(r:Addr)(a b:Int)(t u v:Tok)(n:Nat)(hsm:QbF a b 1=true)(hn:Js a b 1=n)(hl:n<=1000) :
  Meets (QcC.«tuple.__new__» ⟨[.type "tuple",.ref r],[]⟩) (λA R s=>A.handled=none/\Qgz s.heap r a b 1 t u v/\∀(h':J5)(tk:Nat)(acc:Array Value),(∀c o,s.heap.get? c=some o->h'.get? c=some o)->ItemsOf (λi v=>∃t,v=.int (a+i*1) t) acc n ->
    R (.ok (.ret (.ref h'.objs.size))) { s with heap:=h'.push { cls:=.type "tuple",data:=.seq acc },toks:=tk }):=
 .of_wp λprog w A R s h=>by
  obtain⟨hh,hr,h⟩:=h;have hsub:=sub_tuple_self;have hinit:=init_tuple_lookup;have hmh:=madeHere_tuple;have hT:s.TypeIs (.ref r) "range" := ⟨_,hr,rfl⟩;have hh1:A.in1.handled=none:=hh
  wp_walk using QhB hT,QwH hh1 hr hsm hn (Q2 hl (by decide))
  intro h' tk acc kp hacc;have hz:acc.size=n:=hacc.1;show wpAny _ _ (Zi acc.toList.toArray >>= λv=>ret v) _ _ _;unfold Zi;have e:acc.toList.toArray=acc:=by simp
  rw[e];refine wpAny_bind (JC ?_ (by show acc.size<=sizeLine;rw[hz];exact Q2 hl (by decide)));exact Qe ⟨_,rfl,h h' tk acc kp hacc⟩
theorem Qun{Q:Value->Shared->Prop}{r:Addr}{a b:Int}{t u v:Tok}{n:Nat}(hh:A.handled=none)(hr:Qgz s.heap r a b 1 t u v)(hsm:QbF a b 1=true)(hn:Js a b 1=n)(hl:n<=1000)
  (hQ:∀(h':J5)(tk:Nat)(acc:Array Value),(∀c o,s.heap.get? c=some o->h'.get? c=some o)->ItemsOf (λi v=>∃t,v=.int (a+i*1) t) acc n->Q (.ref h'.objs.size) { s with heap:=h'.push { cls:=.type "tuple",data:=.seq acc },toks:=tk }) :
  wpAny (model prog w) A (call (.type "tuple") [.ref r]) Q E s:=
 callType_new F.called_tuple (by decide) (F.typeCall_tuple_1 _) (F.newCall_tuple_1 _) (λobj=>F.args_object_init_2 obj _) F.entry_tuple_new (Qwl r a b t u v n hsm hn hl)
  ⟨hh,hr,λh' tk acc kp hacc=>⟨⟨_,QB _ rfl,rfl⟩,hQ h' tk acc kp hacc⟩⟩
end
end Rr
namespace L2
def Qu0(ta:TA):TE:=λσ H Q=>ta σ H λvs H1=>∃j,vs=[.int j]/\∀r H2,Same H1 H2->H1 r=none->H2 r=some (.rng 0 j)->Q (.ref r) H2
section
variable{X:Cx}
theorem Qjd{a:QP}{ta:TA}{p pos:Pos}(hg:Gl X "range")(hm:X.mg "range" = none)(ha:PA X [a] ta)(hs:starEach [a] X.env=[(false,eval a X.env)]:=by rfl):PE X (.Call (.Name "range" p) [a] [] pos) (Qu0 ta):=by
 intro pins s σ H Q I h;refine YA (Qch I hg hm QxN ?_);refine JE (thn (ha pos pins s σ H _ I h) λus s1 ⟨vs,H1,I1,r1,q1⟩=>?_) hs rfl;obtain⟨j,e,q⟩:=q1;subst e;obtain⟨u,rfl,ru⟩:=vals1 r1;obtain⟨t,rfl⟩:=ru;refine call_range_1 ?_
 have hf:H1 s1.heap.objs.size=none:=I1.hok.fresh (Qi _);refine⟨.ref s1.heap.objs.size,upd H1 s1.heap.objs.size (.rng 0 j),I1.laid (t':=s1.toks+1+1) (λb u e=>Qc _ e) (Qi _) ⟨_,_,_,QB _ rfl⟩,rfl,q _ _ (Ji hf) hf Jl⟩
theorem Qky{acc:Array Value}{n:Nat}(h:ItemsOf (λi v=>∃t,v=Qbx ((0:Int)+i*1) t) acc n):Vals ((QQ n).map λi=>V.int (i:Nat)) acc.toList:=by
 obtain⟨hs,hi⟩:=h;have key:∀(m:Nat)(l:List Value)(o:Nat),l.length=m->(∀i v,l[i]? = some v->∃t,v=Qbx ((0:Int)+((o+i:Nat):Int)*1) t)->Vals ((List.range' o m).map λi=>V.int (i:Nat)) l:=by
  intro m;induction m with
  |zero=>intro l o hl _;cases l with
   |nil=>exact .nil
   |cons a b=>cases hl
  |succ m ih=>
   intro l o hl hv;cases l with
   |nil=>cases hl
   |cons a b=>
    rw[List.range'_succ,JN];refine .cons ?_ (ih b (o+1) (by simpa using hl) λi v e=>?_)
    ·obtain⟨t,rfl⟩:=hv 0 a rfl;exact⟨t,by simp⟩
    ·obtain⟨t,rfl⟩:=hv (i+1) v (by simpa using e);exact⟨t,by congr 3;omega⟩
 rw[List.range_eq_range'];refine key n acc.toList 0 (by simpa using hs) λi v e=>?_
 have:=hi i v (by simpa using e)
 simpa using this
def Qsz:List V->Hp->VK->Prop:=λxs H Q=>∃r j,xs=[.ref r]/\H r=some (.rng 0 j) /\ -1000<=j/\j<=1000/\∀t H2,Same H H2->H t=none->H2 t=some (.tup ((QQ j.toNat).map λi=>V.int (i:Nat)))->Q (.ref t) H2
theorem Qiz(hc:X.calm=true):CallR X (.type "tuple") Qsz:=by
 intro pins s σ H xs us Q I r h;obtain⟨a,j,rfl,ha,h1,h2,q⟩:=h;obtain⟨u,rfl,ru⟩:=vals1 r;cases(show u=JF a from ru);obtain⟨t1,t2,t3,e⟩:=I.hok a _ ha;have hn:Js 0 j 1=((j.toNat:Nat):Int):=by rw[Qfv];split<;>omega
 refine Rr.Qun (n:=j.toNat) (I.ok.hd hc) (show Qgz s.heap a 0 j 1 t1 t2 t3 from e) (small_one (by omega) (by omega) (by omega) (by omega)) hn (by omega) λh' tk acc kp hacc=>?_
 have hz:acc.size=j.toNat:=hacc.1;have rv:=Qky hacc;have I1:Inv X pins σ H { s with heap:=h',toks:=tk }:=I.kept kp;have hf:H h'.objs.size=none:=I1.hok.fresh (Qi _);refine⟨.ref h'.objs.size,upd H h'.objs.size (.tup ((QQ j.toNat).map λi=>V.int (i:Nat))),I1.laid (t':=tk) (λb u e=>Qc _ e) (Qi _) ⟨?_,acc.toList,rv,⟨_,QB _ rfl,rfl,0,by simp⟩⟩,rfl,q _ _ (Ji hf) hf Jl⟩;rw[Qg,Jd];exact Z1 (Rk.Qbj (by omega))
end
end L2
namespace Rs
open PySem.W
def sp{α:Type}(n:Nat)(c:Nat->Nat->Bool):KasT α->(α->Prop)->Prop
 |.ret a,Q=>Q a
 |.ask i j f,Q=>i<n/\j<n/\sp n c (f (c i j)) Q
section
variable{n:Nat}{K:Nat->Int}
structure Good (n:Nat) (p:Array Nat):Prop where
 perm:p.toList.Perm (QQ n)
theorem Good.size{p:Array Nat}(g:Good n p):p.size=n:=by
 have:=g.perm.length_eq;rw[Jd,Qj] at this;exact this
def at_(p:Array Nat)(i:Nat):Nat:=p.getD i 0
theorem Qnw{p:Array Nat}{i:Nat}(h:i<p.size):p[i]? = some (at_ p i):=by
 unfold at_;rw[QfC,Qbg h];rfl
theorem Good.lt{p:Array Nat}(g:Good n p)(h0:0<n)(i:Nat):at_ p i<n:=by
 by_cases h:i<p.size
 ·have e:=Qnw h;have m:at_ p i∈p.toList:=by
   have:=Qj3 e;exact QcE.mpr this
  exact YN.mp (g.perm.mem_iff.mp m)
 ·unfold at_;rw[QfC,Array.getElem?_eq_none (by omega)];exact h0
theorem Good.inj{p:Array Nat}(g:Good n p){i j:Nat}(hi:i<n)(hj:j<n)(e:at_ p i=at_ p j):i=j:=by
 have nd:p.toList.Nodup:=g.perm.nodup_iff.mpr List.nodup_range;have hs:=g.size;have hi':i<p.toList.length:=by rw[Qj];omega
 have hj':j<p.toList.length:=by rw[Qj];omega
 have ei:p.toList[i]=at_ p i:=by
  have:=Qnw (p:=p) (i:=i) (by omega);rw[Qbg (by omega)] at this;rw[QkX];exact Qv this
 have ej:p.toList[j]=at_ p j:=by
  have:=Qnw (p:=p) (i:=j) (by omega);rw[Qbg (by omega)] at this;rw[QkX];exact Qv this
 have pw:=ZL.mp nd;rcases Nat.lt_trichotomy i j with h | h | h
 ·exact absurd (ei.trans (e.trans ej.symm)) (pw i j hi' hj' h)
 ·exact h
 ·exact absurd (ej.trans (e.symm.trans ei.symm)) (pw j i hj' hi' h)
def kk(K:Nat->Int)(p:Array Nat)(i:Nat):Int:=K (at_ p i)
end
end Rs
namespace Rs
open PySem.W PySem.Calls
section
variable{prog:Qy}{w:Jg}{A:Q5}{E:Value->Shared->Prop}{s:Shared}
def Kept(a:Addr)(h h':J5):Prop:=∀b x,b≠a->h.get? b=some x->h'.get? b=some x
theorem QfH{h:J5}{a:Addr}(f:Obj->Obj):Kept a h (h.update a f):=λb x hb e=>(Heap.get?_update_ne _ _ _ _ hb).trans e
theorem QgW{h:J5}{a:Addr}(o:Obj):Kept a h (h.push o):=λb x _ e=>Qc _ e
theorem Kept.trans{a:Addr}{h h1 h2:J5}(k:Kept a h h1)(k':Kept a h1 h2):Kept a h h2:=λb x hb e=>k' b x hb (k b x hb e)
end
structure Qxi (h:J5) (v:Value) (ij:Int×Int):Prop where
 it:∃(a:Addr)(o:Obj)(n:Nat)(t u:Tok),v=.ref a/\h.get? a=some o/\o.cls=.type "tuple" /\ o.data=.seq #[.int ij.1 t,.int ij.2 u] n
inductive PairsV (h:J5):List Value->List (Int×Int)->Prop
 |nil:PairsV h [] []
 |cons {v:Value} {vs:List Value} {ij:Int×Int} {L:List (Int×Int)}:Qxi h v ij->PairsV h vs L->PairsV h (v::vs) (ij::L)
theorem PairsV.at_{h:J5}:∀{vs:List Value}{L:List (Int×Int)},PairsV h vs L->∀i,i<vs.length->Qxi h (vs.getD i Zd) (L.getD i (0,0))
 |_,_,.nil,i,hi=>by simp at hi
 |_,_,.cons q r,0,hi=>q
 |_,_,.cons q r,i+1,hi=>by
  have:=r.at_ i (by simpa using hi)
  simpa using this
def code(ij:Int×Int):Int:=64*ij.1+ij.2
section
variable{prog:Qy}{w:Jg}{A:Q5}{E:Value->Shared->Prop}{s:Shared}
end
end Rs
namespace L2
open _root_.Rd _root_.Rk _root_.Rs
section
variable{X:Cx}
end
end L2
namespace Re
open AutoSeq1 (wpAny_loadPart')
end Re
namespace L2
section
variable{X:Cx}
end
end L2
namespace Rk
open L2
theorem Qkg{L:List (Int×Int)}(h:L.Pairwise λa b=>Rs.code a<Rs.code b):L.Nodup:=Qgy (λ{a b} q z=>by subst z;omega) h
theorem QiC{h w:Int}{L:List (Int×Int)}(g:Good h w L)(hw:w<=64):L.Pairwise λa b=>Rs.code a<Rs.code b:=by
 refine QdT (λ{a b} ha hb q=>?_) g.asc;have:=g.ins a ha;have:=g.ins b hb;unfold Rs.code;rcases q with z | z<;>omega
end Rk
namespace L2
section
variable{X:Cx}{pins:List (Addr×Obj)}{σ:St}{H:Hp}
theorem Qcd{M:List Str}{scope:Z5}{fp:List Addr}{σ':St}{H3:Hp}{s3 s':Shared}{D:Addr}{i:Nat}{y:Str}{py:Pos}{Mo:QjY}{A:Q5}{E:Value->Shared->Prop}{Q:Value->Shared->Prop}
  (I3:Inv X pins σ H3 s3)(f3:∀b∈fp,FpOk X pins H3 b)(J:Inv (blk X M scope (Qa4 X.env scope.names []) fp s3 H3 s3.heap.objs.size) [] σ' H s')
  (hN:X.N.Nodup)(hi:X.N[i]? = some y)(hl:X.env.scope.names.lookup y=some .local)(hq:∀s2,Inv X pins (σ.set i (some (.ref D))) H s2->Q .none s2) :
  wpAny Mo A (assign (.Name y py) X.env (.ref D)) (λ_ s2=>∃m,s2.heap.Ns s3.heap.objs.size m/\∀h',Qax s3.heap.objs.size s2.heap h'->Q .none { s2 with heap:=h' }) E s':=by
 have J0:Inv X pins σ H s':=Qgj I3 f3 J (Heap.SameBut.refl ..);obtain⟨m,hn,_⟩:=J.loc;have hC:H s3.heap.objs.size=none:=J.free;have lt:X.env.locals<s3.heap.objs.size:=I3.lt;refine QxJ (QgI J0 hN hi (QV hl) (show RelV (.ref D) (.ref D) from rfl) (λs2 J2 ⟨a,sb,ha⟩=>?_) (.inr hl));have ea:a=X.env.locals∨X.env.cells.lookup y=some a:=ha;have na:s3.heap.objs.size≠a:=by
  rcases ea with z | z
  ·rw[z];exact QcA lt
  ·obtain⟨v,o,ho,_⟩:=I3.cell y a z;exact QcA (Qp ho)
 refine⟨m,hn.sameBut sb na,λh' hs=>hq _ ?_⟩;refine J2.turned (t':=s2.toks) (it:=s3.heap.objs.size) (λb o hb e=>hs.extBut b o hb e) hC (QcA lt) (.inr I3.sz) (λx c e z=>?_) λp hp z=>?_
 ·obtain⟨v,o,ho,_⟩:=I3.cell x c e;exact absurd (z ▸ Qp ho) (Z7 _)
 ·have e:=(I3.pin p hp).1;exact absurd (z ▸ Qp e) (Z7 _)
end
theorem Qjb{X:Cx}{M:List Str}{cap:List (Option Nat)}{elt tg iter:QP}{ifs:List QP}{scope:Z5}{pos:Pos}{wi:TI}{g:TG}{tc:TT}{te:TE}{i:Nat}{y:Str}{py spos:Pos}(hN:X.N.Nodup)(hiy:X.N[i]? = some y)(hly:X.env.scope.names.lookup y=some .local)(hc:X.calm=true)(ok:Qcr X.N X.env.scope M scope cap=true)
  (hi:PI X tg iter wi)(hb:∀cl ex s3 H3 C,PG (blk X M scope cl ex s3 H3 C) tg g/\PTs (blk X M scope cl ex s3 H3 C) ifs tc/\PE (blk X M scope cl ex s3 H3 C) elt te)
  (hs:∀x,foldedSetIterable iter X.env x=pure x:=by intro _;rfl)(hsw:swapsWith (.ListComp elt [⟨tg,iter,ifs,0⟩] scope pos) (some (.Name y py)) spos.line X.env=pure true:=by rfl):PS X (.Assign [.Name y py] (.ListComp elt [⟨tg,iter,ifs,0⟩] scope pos) spos) (Qrc (tComp cap wi g tc te) (Qeu i)):=by
 intro pins s σ H D I h;have c:=CapOk.of ok;rw[Qr1 _ _ _ _ hsw];refine wpAny_bind (wpAny_standAt (wpAny_bind ?_));show wpAny _ X.A (do let _ <- comprehension (.ListComp elt [⟨tg,iter,ifs,0⟩] scope pos) scope X.env _ (newList []) false (eval iter X.env) (some (assign (.Name y py) X.env))) _ _ s;refine wpAny_bind (wpAny_mono (Z4 (use:=some (assign (.Name y py) X.env)) (Q:=λ_ s'=>SP X pins D .next s') rfl hs (Qez (I.ok.cells c)) c.kind c.loc ?_) (λ_ s' hq=>Qe (Qe hq)) λ_ _ e=>e);refine thn (hi pins s σ H _ I h) λv s1 h1=>thn h1 λitv s2 h2=>?_
 obtain⟨it,fp,tn,J,H2,e,I2,T,st2,f2,hW⟩:=h2;subst e;refine JC (Y2 c.cell (by intro y hy;simp at hy) (λh₁ hns₁ hsb₁=>?_) c.kind);have I3:Inv X pins σ (upd H2 s2.heap.objs.size (.lst [])) { s2 with heap:=s2.heap.push { cls:=.type "list",data:=.seq ([]:List Value).toArray } }:=I2.lnew (t':=s2.toks) (ys:=[]) .nil (Qw _);have lt2:∀b∈fp,b<s2.heap.objs.size:=λb hb=>by obtain⟨o,e,_⟩:=T.obj _ _ st2 b hb;exact Qp e
 have f3:∀b∈fp,FpOk X pins (upd H2 s2.heap.objs.size (.lst [])) b:=λb hb=>(f2 b hb).upd (QD (lt2 b hb))
 generalize hs3:({ s2 with heap:=s2.heap.push { cls:=.type "list",data:=.seq ([]:List Value).toArray } }:Shared)=s3 at I3;have e3:s3.heap=s2.heap.push { cls:=.type "list",data:=.seq ([]:List Value).toArray }:=by rw[<- hs3]
 have z3:s3.heap.objs.size=s2.heap.objs.size+1:=by rw[e3,ZN]
 have hk:∀b o,s3.heap.get? b=some o->h₁.get? b=some o:=λb o e=>hsb₁.extBut b o (by
  have:=Qp e;rw[e3] at this;exact QD this) (Qc _ (e3 ▸ e))
 have hn₁:h₁.Ns s3.heap.objs.size λ_=>none:=by rw[e3];exact hns₁
 have B:=QbX (t4:=s3.toks+([]:List (Str×Value)).length) (fp:=fp) I3 c f3 (λb hb=>by rw[z3];exact Qap (lt2 b hb)) hn₁ hk;have st4:tn 0 h₁:=T.keep _ _ _ st2 λb hb o e=>hk b o (by rw[e3];exact Qc _ e)
 have fp4:∀b∈fp,FpOk (blk X M scope (Qa4 X.env scope.names []) fp s3 (upd H2 s2.heap.objs.size (.lst [])) s3.heap.objs.size) [] (upd H2 s2.heap.objs.size (.lst [])) b:=λb hb=>by
  refine⟨(f3 b hb).1,(B.ok.exf b hb).1,B.ok.exfs b hb,.inl hb,(B.ok.exf b hb).2,λp hp=>(nomatch hp)⟩
 obtain⟨hg,ht,he⟩:=hb (Qa4 X.env scope.names []) fp s3 (upd H2 s2.heap.objs.size (.lst [])) s3.heap.objs.size;have loop:codeAny (model X.prog X.w) X.A (.compLoop (.ListComp elt [⟨tg,iter,ifs,0⟩] scope pos) 0 (.ref it) (.ref s2.heap.objs.size) (compEnvC scope (Qa4 X.env scope.names []) s3.heap.objs.size X.env))
   (compPost (model X.prog X.w) X.A X.xe (some (assign (.Name y py) X.env)) (λ_ s'=>SP X pins D .next s') (.ref s2.heap.objs.size) s3.heap.objs.size) { s3 with heap:=h₁,toks:=s3.toks+([]:List (Str×Value)).length }:=by
  refine QbT (Y:=blk X M scope (Qa4 X.env scope.names []) fp s3 (upd H2 s2.heap.objs.size (.lst [])) s3.heap.objs.size) (gens:=[⟨tg,iter,ifs,0⟩]) (d:=0) hc T st4 fp4
   (λQ E s h=>QiO Q E s h) (λx u r=>Qdw rfl hg ht (λσ4=>Qgi rfl he) x u r) B (hW _ (I2.hok.fresh (Qi _))) λs' H' I' q=>?_
  exact Qcd (Q:=λ_ s'=>SP X pins D .next s') I3 f3 I' hN hiy hly λs2' J2=>⟨_,H',J2,q⟩
 exact QaL loop (T.self _ 0 _ _ _ st4 loop)
theorem QlN{X:Cx}{M:List Str}{cap:List (Option Nat)}{elt tg iter tg2 iter2:QP}{ifs ifs2:List QP}{scope:Z5}{pos:Pos}{wi wi2:TI}{g g2:TG}{tc tc2:TT}{te:TE}{i:Nat}{y:Str}{py spos:Pos}(hN:X.N.Nodup)(hiy:X.N[i]? = some y)(hly:X.env.scope.names.lookup y=some .local)(hc:X.calm=true)(ok:Qcr X.N X.env.scope M scope cap=true)
  (hi:PI X tg iter wi)(hb:∀cl ex s3 H3 C,PG (blk X M scope cl ex s3 H3 C) tg g/\PTs (blk X M scope cl ex s3 H3 C) ifs tc/\PI (blk X M scope cl ex s3 H3 C) tg2 iter2 wi2/\PG (blk X M scope cl ex s3 H3 C) tg2 g2/\PTs (blk X M scope cl ex s3 H3 C) ifs2 tc2/\PE (blk X M scope cl ex s3 H3 C) elt te)
  (hs:∀x,foldedSetIterable iter X.env x=pure x:=by intro _;rfl)(hs2:∀env x,foldedSetIterable iter2 env x=pure x:=by intro _ _;rfl)(hsw:swapsWith (.ListComp elt [⟨tg,iter,ifs,0⟩,⟨tg2,iter2,ifs2,0⟩] scope pos) (some (.Name y py)) spos.line X.env=pure true:=by rfl):PS X (.Assign [.Name y py] (.ListComp elt [⟨tg,iter,ifs,0⟩,⟨tg2,iter2,ifs2,0⟩] scope pos) spos) (Qrc (Qli cap wi g tc wi2 g2 tc2 te) (Qeu i)):=by
 intro pins s σ H D I h;have c:=CapOk.of ok;rw[Qr1 _ _ _ _ hsw];refine wpAny_bind (wpAny_standAt (wpAny_bind ?_));show wpAny _ X.A (do let _ <- comprehension (.ListComp elt [⟨tg,iter,ifs,0⟩,⟨tg2,iter2,ifs2,0⟩] scope pos) scope X.env _ (newList []) false (eval iter X.env) (some (assign (.Name y py) X.env))) _ _ s;refine wpAny_bind (wpAny_mono (Z4 (use:=some (assign (.Name y py) X.env)) (Q:=λ_ s'=>SP X pins D .next s') rfl hs (Qez (I.ok.cells c)) c.kind c.loc ?_) (λ_ s' hq=>Qe (Qe hq)) λ_ _ e=>e);refine thn (hi pins s σ H _ I h) λv s1 h1=>thn h1 λitv s2 h2=>?_
 obtain⟨it,fp,tn,J,H2,e,I2,T,st2,f2,hW⟩:=h2;subst e;refine JC (Y2 c.cell (by intro y hy;simp at hy) (λh₁ hns₁ hsb₁=>?_) c.kind);have I3:Inv X pins σ (upd H2 s2.heap.objs.size (.lst [])) { s2 with heap:=s2.heap.push { cls:=.type "list",data:=.seq ([]:List Value).toArray } }:=I2.lnew (t':=s2.toks) (ys:=[]) .nil (Qw _);have lt2:∀b∈fp,b<s2.heap.objs.size:=λb hb=>by obtain⟨o,e,_⟩:=T.obj _ _ st2 b hb;exact Qp e
 have f3:∀b∈fp,FpOk X pins (upd H2 s2.heap.objs.size (.lst [])) b:=λb hb=>(f2 b hb).upd (QD (lt2 b hb))
 generalize hs3:({ s2 with heap:=s2.heap.push { cls:=.type "list",data:=.seq ([]:List Value).toArray } }:Shared)=s3 at I3;have e3:s3.heap=s2.heap.push { cls:=.type "list",data:=.seq ([]:List Value).toArray }:=by rw[<- hs3]
 have z3:s3.heap.objs.size=s2.heap.objs.size+1:=by rw[e3,ZN]
 have hk:∀b o,s3.heap.get? b=some o->h₁.get? b=some o:=λb o e=>hsb₁.extBut b o (by
  have:=Qp e;rw[e3] at this;exact QD this) (Qc _ (e3 ▸ e))
 have hn₁:h₁.Ns s3.heap.objs.size λ_=>none:=by rw[e3];exact hns₁
 have B:=QbX (t4:=s3.toks+([]:List (Str×Value)).length) (fp:=fp) I3 c f3 (λb hb=>by rw[z3];exact Qap (lt2 b hb)) hn₁ hk;have st4:tn 0 h₁:=T.keep _ _ _ st2 λb hb o e=>hk b o (by rw[e3];exact Qc _ e)
 have fp4:∀b∈fp,FpOk (blk X M scope (Qa4 X.env scope.names []) fp s3 (upd H2 s2.heap.objs.size (.lst [])) s3.heap.objs.size) [] (upd H2 s2.heap.objs.size (.lst [])) b:=λb hb=>by
  refine⟨(f3 b hb).1,(B.ok.exf b hb).1,B.ok.exfs b hb,.inl hb,(B.ok.exf b hb).2,λp hp=>(nomatch hp)⟩
 obtain⟨hg,ht,hi2,hg2,ht2,he⟩:=hb (Qa4 X.env scope.names []) fp s3 (upd H2 s2.heap.objs.size (.lst [])) s3.heap.objs.size;have loop:codeAny (model X.prog X.w) X.A (.compLoop (.ListComp elt [⟨tg,iter,ifs,0⟩,⟨tg2,iter2,ifs2,0⟩] scope pos) 0 (.ref it) (.ref s2.heap.objs.size) (compEnvC scope (Qa4 X.env scope.names []) s3.heap.objs.size X.env))
   (compPost (model X.prog X.w) X.A X.xe (some (assign (.Name y py) X.env)) (λ_ s'=>SP X pins D .next s') (.ref s2.heap.objs.size) s3.heap.objs.size) { s3 with heap:=h₁,toks:=s3.toks+([]:List (Str×Value)).length }:=by
  refine QbT (Y:=blk X M scope (Qa4 X.env scope.names []) fp s3 (upd H2 s2.heap.objs.size (.lst [])) s3.heap.objs.size) (gens:=[⟨tg,iter,ifs,0⟩,⟨tg2,iter2,ifs2,0⟩]) (d:=0) hc T st4 fp4
   (λQ E s h=>QeU (hs2 _) Q E s h) (λx u r=>Qdw rfl hg ht (λσ4=>Qhs rfl hc hi2 hg2 ht2 he) x u r) B (hW _ (I2.hok.fresh (Qi _))) λs' H' I' q=>?_
  exact Qcd (Q:=λ_ s'=>SP X pins D .next s') I3 f3 I' hN hiy hly λs2' J2=>⟨_,H',J2,q⟩
 exact QaL loop (T.self _ 0 _ _ _ st4 loop)
end L2
namespace Rk
open L2 _root_.Rd
theorem Good.nodup{h w:Int}{L:List (Int×Int)}(g:Good h w L)(hw:w<=64):L.Nodup:=Qkg (QiC g hw)
section
variable{X:Cx}
def QAp(X:Cx):R2:=λx y H Q=>∃dx dy,Dat H x dx/\Dat H y dy/\X.A.units+min dx.depth dy.depth<cLine/\Q (.bl (!Jq dx dy)) H
theorem Qv0:OpR X (compareOp .NotEq) (QAp X):=by
 intro pins s σ H x y v u Q I rx ry h;obtain⟨dx,dy,qx,qy,hu,q⟩:=h;obtain⟨⟨as,ra⟩,ca⟩:=ZU I.hok dx x v qx rx;obtain⟨⟨bs,rb⟩,cb⟩:=ZU I.hok dy y u qy ry;exact SeqAt.compareNe_reads ra rb ca cb hu ⟨.bl _,H,I,rfl,q⟩
end
end Rk
namespace Rk
open L2
theorem Qzm:bootBuiltins "ValueError" = some (.type "ValueError"):=by decide +kernel
def Qlk:List QP->Option (List Str)
 |[]=>some []
 |.Constant (.str x) _ _::es=>(Qlk es).map (x::·)
 |_::_=>none
theorem Qh7{X:Cx}:∀{es:List QP}{ws:List Str},Qlk es=some ws->PA X es (λ_ H Q=>Q (ws.map V.str) H)
 |[],ws,h=>by cases h;exact JQ
 |e::es,ws,h=>by
  unfold Qlk at h;split at h
  ·rename_i e2;cases e2
  ·rename_i e2
   cases e2;obtain⟨vs,hv,rfl⟩:=JS.mp h;exact Qh8 (Qcg QlU (Qh7 hv)) λσ H Q q=>q
  ·cases h
def QtV(x:Str):List QP->Option (List Str)
 |[]=>some []
 |.Call (.Name f _) [.Name y _,.Name n _] [] _::es=>if f = "isinstance" /\ y=x then(QtV x es).map (n::·) else none
 |_::_=>none
def QAj(K:PySem.W.Frag)(cs:List Addr):TA:=λσ H Q=>∃(a C:Addr)(bs:List Bool),σ[0]? = some (some (.ref a))/\H a=some (Rx.exO a C)/\Rx.ExC K C/\Z6 (λc b=>PySem.W.kitOne K (.ref C) (.ref c)=some b) cs bs/\Q (bs.map V.bl) H
theorem Qfc{X:Cx}{x:Str}(hN:X.N[0]? = some x)(hv:Vis X.env.scope x)(hd:(x == ("__debug__" : Str))=false)(hcd:(x == ("__classdict__" : Str))=false)(hg:Gl X "isinstance")(hm:X.mg "isinstance" = none) :
  ∀{es:List QP}{ns:List Str}{cs:List Addr},QtV x es=some ns->(ns.all λn=>(X.env.kindOf n == some .globalImplicit) && !(n == ("__debug__" : Str)))=true->Z6 (λn c=>X.mg n=some (.ref c)) ns cs->PA X es (QAj X.K cs)
 |[],ns,cs,h,_,p=>by
  cases h;cases p;exact Qh8 JQ λσ H Q ⟨a,C,bs,_,_,_,pb,q⟩=>by cases pb;exact q
 |e::es,ns,cs,h,g,p=>by
  unfold QtV at h;split at h
  ·rename_i e2;cases e2
  ·rename_i f pf y py n pn pc es' e2
   cases e2;split at h
   ·rename_i hc
    obtain⟨rfl,rfl⟩:=hc;obtain⟨ns',hns,rfl⟩:=JS.mp h;cases p with
    |@cons _ c _ cs' p1 p2=>
    rw[Qxv,JG,JG] at g;have g1:Gl X n:=beq_iff_eq.mp g.1.1;have g2:(n == ("__debug__" : Str))=false:=by
     have:=g.1.2;cases q:(n == ("__debug__" : Str)) with
     |false=>rfl
     |true=>rw[q] at this;cases this
    have one:PE X (.Call (.Name "isinstance" pf) [.Name y py,.Name n pn] [] pc) _:=Zh Rx.Qhp hg hm JR (Qcg (Qru hN hv hd hcd) (Qcg (QlX (v:=.ref c) g1 p1 rfl g2) JQ rfl) rfl);refine Qh8 (Qcg one (Qfc hN hv hd hcd hg hm hns g.2 p2) rfl) λσ H Q ⟨a,C,bs,h0,ha,hc,pb,q⟩=>?_
    cases pb with
    |@cons _ b _ bs' q1 q2=>exact⟨_,h0,a,C,.ref c,.ref c,b,rfl,ha,hc,(λu r=>r),q1,a,C,bs',h0,ha,hc,q2,q⟩
   ·cases h
  ·cases h
def QgB:List Str:=["text", "order", "lines", "few", "size", "many", "number", "stand", "cell", "square", "hits", "counts", "stairs", "alike", "parting", "place", "double", "deed", "row"]
def QiV(K:PySem.W.Frag)(cs:List Addr):Sp:=λvs H Q _=>∃(a C:Addr)(bs:List Bool)(j:Nat)(wd:Str),vs=[.ref a]/\H a=some (Rx.exO a C)/\Rx.ExC K C/\Z6 (λc b=>PySem.W.kitOne K (.ref C) (.ref c)=some b) cs bs/\PySem.W.kitOne K (.ref C) (.type "ValueError")=some true /\
 bs.countP id=1/\bs[j]? = some true/\(∀m,m<j->bs[m]? = some false)/\QgB[j]? = some wd/\∀H',Same H H'->Q (.str wd) H'
theorem JJ{α β:Type}{F:α->β->Prop}{a:α}{l:List α}{bs:List β}(h:Z6 F (a::l) bs):∃b bs',bs=b::bs'/\F a b/\Z6 F l bs':=by
 cases h with
 |cons r t=>exact⟨_,_,rfl,r,t⟩
theorem Qkj{α β:Type}{F:α->β->Prop}{bs:List β}(h:Z6 F [] bs):bs=[]:=by
 cases h;rfl
end Rk
namespace Rx
open PySem.Calls L2
section
variable{X:Cx}{E:XK}
theorem Ql8(hxe:∀e s1,wpAny (model X.prog X.w) X.A (leaving X.env e) (λ_ s2=>CXE X.prog X.w X.outer X.H₀ X.s₀ E e s2) (λe' s2=>CXE X.prog X.w X.outer X.H₀ X.s₀ E e' s2) s1->X.xe e s1)
  (hstk:X.stack=X.env::X.outer)(hfr:X.env.frame=some X.env.locals)(hex:X.ex=[]):Qbu (CXE X.prog X.w) X E:=by
 intro pins σ H s e s' I h;obtain⟨C,H',⟨a,t,B,rfl,os,bare,fl,fa,fH,land⟩,q⟩:=h;refine hxe _ _ ?_
 have fl2:=fl;rw[hstk] at fl2;have fr:X.A.frames=some (X.env::X.outer):=by rw[<- hstk];exact I.ok.frames
 refine wpAny_leaves_onW fr hfr fl2 λh' fl' up=>⟨C,H',⟨a,t,B,rfl,os.trans I.os,bare,fl',?_,fH,λh2 st up2=>?_⟩,q⟩
 ·cases z:X.s₀.heap.get? a with
  |none=>rfl
  |some o=>
   obtain⟨o',e'⟩:=I.base.there a o z (by rw[hex];simp);rw[fa] at e';cases e'
 ·obtain⟨un,hok⟩:=land h2 st (up.trans up2);have J:=I.call' (s':={ s' with heap:=h2 }) (ch:=[]) os un hok bare (λb z=>absurd z (by simp));have hb:=J.base;rw[hex] at hb;exact⟨hb,hok⟩
end
section
variable{X:Cx}{tf:TE}{fe:QP}{pos:Pos}{e:QP}{es:List QP}{t:TA}{M:Addr->Sp->Prop}
end
end Rx
namespace Rk
open L2 _root_.Rd
structure GlbA (mg:Str->Option Value):Prop where
 isinstance:mg "isinstance" = none
 int:mg "int" = none
 bool:mg "bool" = none
 str:mg "str" = none
 tuple:mg "tuple" = none
 list:mg "list" = none
 all:mg "all" = none
 len:mg "len" = none
 zip:mg "zip" = none
 enumerate:mg "enumerate" = none
 range:mg "range" = none
 max:mg "max" = none
 min:mg "min" = none
 sorted:mg "sorted" = none
 sum:mg "sum" = none
 set:mg "set" = none
 any:mg "any" = none
 reversed:mg "reversed" = none
 divmod:mg "divmod" = none
structure KOk (K:PySem.W.Frag) (cs:List Addr) (R C:Addr) (wd:Str):Prop where
 by_:Rx.ByC K C R
 ex:∃(bs:List Bool)(j:Nat),Rx.ExC K C/\Z6 (λc b=>PySem.W.kitOne K (.ref C) (.ref c)=some b) cs bs/\PySem.W.kitOne K (.ref C) (.type "ValueError")=some true/\bs.countP id=1/\bs[j]? = some true/\(∀m,m<j->bs[m]? = some false)/\QgB[j]? = some wd
def Qyw(u:Nat)(neg:Bool):R2:=λx y H Q=>∃c ps ds d,y=.ref c/\H c=some (.tup ps)/\Dats H ps ds/\Dat H x d/\u+d.depth<cLine/\Q (.bl (if neg then !(ds.any λe=>Jq e d) else ds.any λe=>Jq e d)) H
theorem Qv4{X:Cx}:OpR X (compareOp .In) (Qyw X.A.in1.units false):=Qv6
end Rk
namespace Rx
open PySem.Calls L2
section
variable{P:Qy}{w:Jg}{K:PySem.W.Frag}{mg:Str->Option Value}{base:J5}
theorem okE{x qual:Str}{st:ZZ}{f:Addr}{fd:QN}{N ps:List Str}{k:Nat}{sp:Sp}(F:Fun K x qual st f fd)(S:Jw N ps (Qt st))(len:∀vs H Q E,sp vs H Q E->vs.length=ps.length)
  (hbody:∀(cdv:Value)(A:Q5)(outer:List Env)(s:Shared)(H:Hp)(vs:List V)(Q:VK)(E:XK),Room k (A.deeper (envOfC qual (Qt st) s.heap.objs.size f cdv))->sp vs H Q E ->
   ∃t,PSs (cxOf (CXE P w) P w K mg base N qual (Qt st) f cdv A outer s H E) (Ju st) t/\t { nx:=λ_ H'=>Q .non H',rt:=Q } (start N vs) H):FnOk P w K mg base (CXE P w) (k+1) f fd ps sp:=by
 obtain⟨oc,od,kV,doc,pm,an,cdv,ct,osl,rfl,lk,hcd⟩:=F.ex;exact QwI lk hcd S len λA outer s H vs Q E hr hsp=>hbody cdv A outer s H vs Q E hr hsp
end
end Rx
namespace Rk
open L2 _root_.Rd
section
variable{X:Cx}{is js:List Nat}
end
theorem handled{K:PySem.W.Frag}{cs:List Addr}{R C:Addr}{wd:Str}(o:KOk K cs R C wd){H1:Hp}{Q:VK}{σ:L2.St}{i:Nat}(hi:i < σ.length)(k:∀H',Same H1 H'->Q (.str wd) H') :
  Rx.ByC K C R/\∀a,H1 a=none->(QdM (QgF i) Qra) (σ.set i (some (.ref a))) (upd H1 a (Rx.exO a C)) λvs H2=>QiV K cs vs H2 Q E0:=by
 refine⟨o.by_,λa ha=>?_⟩;obtain⟨bs,j,hx,pb,eV,hc,hj,hm,hw⟩:=o.ex;exact⟨_,Qai hi,a,C,bs,j,wd,rfl,Jl,hx,pb,eV,hc,hj,hm,hw,λH2 s2=>k H2 ((Ji ha).trans s2)⟩
end Rk
namespace L2
theorem YJ{h:J5}{a:Addr}{its:Array Value}(p:PlainL h a its):h.IsList a its:=by
 obtain⟨o,n,h1,h2,_,h3⟩:=p;exact⟨o,h1,h2,n,h3⟩
structure Qhy (h:J5) (z TI TO i1 i2 t1 t2:Addr) (f:Value) (k:Nat):Prop where
 zp:Qsa h z TI TO f
 ti:IsPair h TI (.ref i1) (.ref i2)
 to:∃a b,IsPair h TO a b
 i1:h.IsListIter i1 t1 k
 i2:h.IsListIter i2 t2 k
section
variable{prog:Qy}{w:Jg}{A:Q5}{E:Value->Shared->Prop}{s:Shared}
theorem Qk8{z TI TO i1 i2 t1 t2:Addr}{k:Nat}{xs ys:Array Value}{x y:Value}{Q:Option Value->Shared->Prop}(D:Qxn z TI TO i1 i2 t1 t2)(Z:Qhy s.heap z TI TO i1 i2 t1 t2 .none k)
  (hl1:s.heap.IsList t1 xs)(hl2:s.heap.IsList t2 ys)(hx:xs[k]? = some x)(hy:ys[k]? = some y)
  (hQ:∀h',Qhy h' z TI TO i1 i2 t1 t2 (rawInt s.heap.objs.size) (k+1)->IsPair h' s.heap.objs.size x y->(∀c o,c≠z->c≠TO->c≠i1->c≠i2->s.heap.get? c=some o->h'.get? c=some o)->Q (some (.ref s.heap.objs.size)) { s with heap:=h' }) :
  wpAny (model prog w) A (pyNext (.ref z)) Q E s:=by
 obtain⟨hz,hTI,⟨a,b,hTO⟩,h1,h2⟩:=Z;exact wpAny_pyNext_zip_item D hz hTI hTO h1 h2 hl1 hl2 hx hy λh' a1 a2 a3 a4 a5 a6 a7=>hQ h' ⟨a1,a7 _ _ D.TIz D.TITO D.TIi1 D.TIi2 hTI,⟨x,y,a2⟩,a3,a4⟩ a5 a7
theorem QnZ{z TI TO i1 i2 t1 t2:Addr}{k:Nat}{xs ys:Array Value}{Q:Option Value->Shared->Prop}(hh:A.handled=none)(D:Qxn z TI TO i1 i2 t1 t2)(Z:Qhy s.heap z TI TO i1 i2 t1 t2 .none k)
  (hl1:s.heap.IsList t1 xs)(hl2:s.heap.IsList t2 ys)(hend:xs[k]? = none∨ys[k]? = none)
  (hQ:∀h',(∀c o,c≠z->c≠TO->c≠i1->c≠i2->s.heap.get? c=some o->h'.get? c=some o)->Q none { s with heap:=h' }):wpAny (model prog w) A (pyNext (.ref z)) Q E s:=by
 obtain⟨hz,hTI,⟨a,b,hTO⟩,h1,h2⟩:=Z;exact wpAny_pyNext_zip_end hh D hz hTI hTO h1 h2 hl1 hl2 hend hQ
theorem Qk9{t1 t2:Addr}{xs ys:Array Value}{Q:Value->Shared->Prop}(hl1:s.heap.IsList t1 xs)(hl2:s.heap.IsList t2 ys)
  (h:∀h',Qhy h' (s.heap.objs.size+4) (s.heap.objs.size+2) (s.heap.objs.size+3) s.heap.objs.size (s.heap.objs.size+1) t1 t2 .none 0->(∀c o,s.heap.get? c=some o->h'.get? c=some o)->Q (.ref (s.heap.objs.size+4)) { s with heap:=h' }) :
  wpAny (model prog w) A (call (.type "zip") [.ref t1,.ref t2]) Q E s:=
 call_zip_2 hl1 hl2 λh' a1 a2 a3 a4 a5 a6 a7=>h h' ⟨a1,a2,⟨_,_,a3⟩,a4,a5⟩ a7
end
def QAc(t1 t2:Addr):It:=
 ⟨λi H=>∃xs ys x y,H t1=some (.lst xs)/\H t2=some (.lst ys)/\xs[i]? = some x/\ys[i]? = some y,
  λi H v H'=>∃p x y,H p=none/\(∀xs,H t1=some (.lst xs)->xs[i]? = some x)/\(∀ys,H t2=some (.lst ys)->ys[i]? = some y)/\v=.ref p/\H'=upd H p (.tup [x,y]),
  λi H=>∃xs ys,H t1=some (.lst xs)/\H t2=some (.lst ys)/\(xs.length<=i∨ys.length<=i)⟩
theorem Qlb{P:Qy}{w:Jg}{K:PySem.W.Frag}{elts:List QP}{x1}{tpos:Pos}{z TI TO i1 i2 t1 t2:Addr}(D:Qxn z TI TO i1 i2 t1 t2) :
  Turn P w K (.Tuple elts x1 tpos) (QAc t1 t2) [z,TI,TO,i1,i2] z (λi h=>Qhy h z TI TO i1 i2 t1 t2 .none i) where
 mem:=by simp
 obj:=λi h st b hb=>by
  obtain⟨a1,a2,⟨_,_,a3⟩,⟨o4,a4,_,d4⟩,⟨o5,a5,_,d5⟩⟩:=st;simp only[Qz,Jy,or_false] at hb;rcases hb with rfl | rfl | rfl | rfl | rfl
  ·exact⟨_,a1,λv q=>nomatch q⟩
  ·exact⟨_,a2,λv q=>nomatch q⟩
  ·exact⟨_,a3,λv q=>nomatch q⟩
  ·exact⟨_,a4,λv q=>by rw[d4] at q;cases q⟩
  ·exact⟨_,a5,λv q=>by rw[d5] at q;cases q⟩
 keep:=λi h h' st k=>by
  obtain⟨a1,a2,⟨a,b,a3⟩,a4,a5⟩:=st;exact⟨k z (by simp) _ a1,k TI (by simp) _ a2,⟨a,b,k TO (by simp) _ a3⟩,a4.at λo e=>k i1 (by simp) o e,a5.at λo e=>k i2 (by simp) o e⟩
 item:=by
  intro X hP hw hK hc i pins s σ H E I hf st hg;subst hP hw hK;obtain⟨xs,ys,x,y,h1,h2,hx,hy⟩:=hg;obtain⟨its1,r1,p1,_⟩:=I.list (SqL.of h1);obtain⟨its2,r2,p2,_⟩:=I.list (SqL.of h2);obtain⟨u1,hu1,ru1⟩:=r1.get hx;obtain⟨u2,hu2,ru2⟩:=r2.get hy;refine Qk8 D st (YJ p1) (YJ p2) (by simpa using hu1) (by simpa using hu2) λh' st' tp kp=>?_
  have hlt:∀b∈[z,TI,TO,i1,i2],b≠s.heap.objs.size:=λb hb=>by
   obtain⟨a1,a2,⟨_,_,a3⟩,⟨o4,a4,_,d4⟩,⟨o5,a5,_,d5⟩⟩:=st;simp only[Qz,Jy,or_false] at hb;rcases hb with rfl | rfl | rfl | rfl | rfl
   ·exact QD (Qp a1)
   ·exact QD (Qp a2)
   ·exact QD (Qp a3)
   ·exact QD (Qp a4)
   ·exact QD (Qp a5)
  have fr:H s.heap.objs.size=none:=I.hok.fresh (Qi _);refine⟨_,rfl,QkY st'.zp λh2' z2 s2=>?_⟩;have I1:Inv X pins σ (upd H s.heap.objs.size (.tup [x,y])) { s with heap:=h2',toks:=s.toks }:=by
   refine I.turnedNew (ch:=[z,TI,TO,i1,i2]) hf (λb u hb e=>?_) (Qi _) ⟨by show 2<=sizeLine;decide,[u1,u2],.cons ru1 (.cons ru2 .nil),?_⟩
   ·simp only[Qz,Jy,or_false,not_or] at hb;exact s2.extBut _ _ hb.1 (kp b u hb.1 hb.2.2.1 hb.2.2.2.1 hb.2.2.2.2 e)
   ·exact⟨_,s2.extBut _ _ (hlt z (by simp)).symm tp,rfl,0,rfl⟩
  refine⟨.ref s.heap.objs.size,_,I1,rfl,⟨_,x,y,fr,λxs' e=>?_,λys' e=>?_,rfl,rfl⟩,?_,λb hb=>?_⟩
  ·rw[h1] at e;cases e;exact hx
  ·rw[h2] at e;cases e;exact hy
  ·obtain⟨a1,a2,⟨a,b,a3⟩,a4,a5⟩:=st';exact⟨z2,s2.extBut _ _ D.TIz a2,⟨a,b,s2.extBut _ _ D.TOz a3⟩,a4.extBut s2.extBut D.i1z,a5.extBut s2.extBut D.i2z⟩
  ·rw[JO (hlt b hb)];exact(hf b hb).1
 done:=by
  intro X hP hw hK hc i pins s σ H E I hf st hg;subst hP hw hK;obtain⟨xs,ys,h1,h2,he⟩:=hg;obtain⟨its1,r1,p1,_⟩:=I.list (SqL.of h1);obtain⟨its2,r2,p2,_⟩:=I.list (SqL.of h2);have l1:=r1.length;have l2:=r2.length;refine QnZ (I.ok.hd hc) D st (YJ p1) (YJ p2) ?_ λh' kp=>⟨rfl,I.turnedAll (t':=s.toks) (ch:=[z,TI,TO,i1,i2]) hf λb u hb e=>?_⟩
  ·rcases he with q | q
   ·exact .inl (by simp;omega)
   ·exact .inr (by simp;omega)
  ·simp only[Qz,Jy,or_false,not_or] at hb;exact kp b u hb.1 hb.2.2.1 hb.2.2.2.1 hb.2.2.2.2 e
 self:=λ_ _ _ _ _ st h=>QcV st.zp h
section
variable{X:Cx}
theorem QkM(n t1 t2:Nat)(h1:t1<n)(h2:t2<n):Qxn (n+4) (n+2) (n+3) n (n+1) t1 t2 where
 TIz:=by show ¬(n+2=n+4);omega
 TOz:=by show ¬(n+3=n+4);omega
 i1z:=by show ¬(n=n+4);omega
 i2z:=by show ¬(n+1=n+4);omega
 TITO:=by show ¬(n+2=n+3);omega
 TIi1:=by show ¬(n+2=n);omega
 TIi2:=by show ¬(n+2=n+1);omega
 TOi1:=by show ¬(n+3=n);omega
 TOi2:=by show ¬(n+3=n+1);omega
 i12:=by show ¬(n=n+1);omega
 l1z:=by show ¬(t1=n+4);omega
 l1TO:=by show ¬(t1=n+3);omega
 l1i1:=by show ¬(t1=n);omega
 l1i2:=by show ¬(t1=n+1);omega
 l2z:=by show ¬(t2=n+4);omega
 l2TO:=by show ¬(t2=n+3);omega
 l2i1:=by show ¬(t2=n);omega
 l2i2:=by show ¬(t2=n+1);omega
def Qy2(ta:TA):TI:=λσ H R=>ta σ H λvs H1=>∃t1 t2 xs ys,vs=[.ref t1,.ref t2]/\H1 t1=some (.lst xs)/\H1 t2=some (.lst ys)/\R (QAc t1 t2) H1
theorem Qnq:bootBuiltins "zip" = some (.type "zip"):=by decide +kernel
theorem QlQ{a b:QP}{elts:List QP}{x1}{tpos:Pos}{ta:TA}{p pos:Pos}(hg:Gl X "zip")(hm:X.mg "zip" = none)(ha:PA X [a,b] ta)(hs:starEach [a,b] X.env=[(false,eval a X.env),(false,eval b X.env)]:=by rfl)(hs2:starEach [b] X.env=[(false,eval b X.env)]:=by rfl) :
  PI X (.Tuple elts x1 tpos) (.Call (.Name "zip" p) [a,b] [] pos) (Qy2 ta):=by
 intro pins s σ H R I h;refine Call_ (Qch I hg hm Qnq (JE (thn (ha pos pins s σ H _ I h) λus s1 ⟨vs,H1,I1,r1,q1⟩=>?_) (by rw[hs,hs2]) (by rw[hs2];rfl)));obtain⟨t1,t2,xs,ys,e,h1,h2,q⟩:=q1;subst e;obtain⟨u,v,rfl,ru,rv⟩:=vals2 r1;cases(show u=JF t1 from ru);cases(show v=JF t2 from rv);obtain⟨its1,w1,p1,_⟩:=I1.list (SqL.of h1);obtain⟨its2,w2,p2,_⟩:=I1.list (SqL.of h2);have n1:t1<s1.heap.objs.size:=I1.hok.lt h1;have n2:t2<s1.heap.objs.size:=I1.hok.lt h2;refine Qk9 (YJ p1) (YJ p2) λh' st kp=>?_
 refine QcV (s:={ s1 with heap:=h' }) st.zp ?_
 have D:=QkM s1.heap.objs.size t1 t2 n1 n2;refine⟨s1.heap.objs.size+4,_,_,_,H1,rfl,I1.kept (t':=s1.toks) kp,Qlb D,st,λb hb=>?_,q⟩;have hb':s1.heap.objs.size<=b:=by
  simp only[Qz,Jy,or_false] at hb;rcases hb with rfl | rfl | rfl | rfl | rfl<;>omega
 exact I1.fpOk hb' (I1.hok.fresh hb')
end
def Qvm(K:PySem.W.Frag):List V->Hp->VK->Prop:=λxs H Q=>∃p ys,xs=[.ref p]/\(SqL K H p ys∨SqT K H p ys)/\Q (.int ys.length) H
def Qyv:List V->Hp->VK->Prop:=λxs H Q=>(∃i,xs=[.int i]/\Q (.int i) H)∨∃k,xs=[.bl k]/\Q (.int (if k then 1 else 0)) H
theorem bt_set:bootBuiltins "set" = some (.type "set"):=by decide +kernel
theorem QeB:bootBuiltins "sorted" = some (.builtin "sorted"):=by decide +kernel
def CMulB(i j:Int):Prop:=∃k:Nat,k<=1000000/\i.natAbs<2^k/\j.natAbs<2^k
theorem Qnv{i:Int}{k:Nat}(h:i.natAbs<2^k):Zf i<=k:=by
 unfold Zf;split
 ·exact Qw _
 ·rename_i z
  have hz:i.natAbs≠0:=by
   intro q;apply z
   have:i=0:=by omega
   subst this;rfl
  have:=(Nat.log2_lt hz).mpr h;omega
theorem CMulB.ok{i j:Int}(h:CMulB i j):IntMulOk i j:=by
 obtain⟨k,hk,h1,h2⟩:=h;have a:=Qnv h1;have b:=Qnv h2;unfold IntMulOk;have c:QfB (Zf i+Zf j:Nat)=false:=by
  unfold QfB;rw[decide_eq_false];have:bitsLine=134217728:=by decide +kernel
  rw[this];omega
 intro z;rw[JG] at z;have z2:=z.2;have e:((Zf i+Zf j:Nat):Int)=(Zf i:Int)+(Zf j:Int):=by omega
 rw[e] at c;rw[c] at z2;cases z2
section
variable{X:Cx}
theorem Qtq:OpR X (binaryOp .Mult) (rI CMulB λi j=>.int (i*j)):=opI λ_ _ _ _ _ _ _ hc q=>mul_int q hc.ok
theorem Qpy:Qz9 X (QxA X.K):=by
 intro pins s σ H o i ov iv Q I ro ri h;obtain⟨p,xs,k,z,rfl,rfl,hq,he,q⟩:=h;cases ro;obtain⟨t,rfl⟩:=ri;obtain⟨its,r,pl,hz⟩:=I.list hq;obtain⟨j,h1,h2,h3,h4,h5⟩:=QiE he;obtain⟨w,ew,rw'⟩:=r.get h2;have hl:=r.length;have hn:=Qfm;have fin:EP X pins σ Q w s:=⟨z,H,I,rw',q⟩;by_cases h0:0<=k
 ·have hj:k.toNat=j:=by
   rw[QjS h0 h5] at h1;exact Qv h1
  exact wpAny_getItem_list pl.isList h0 (by omega) (by rw[hj];simpa using ew) fin
 ·have hj:(k+(its.toArray.size:Int)).toNat=j:=by
   rw[QhC (by omega) h4] at h1;rw[Qr,<- hl];exact Qv h1
  exact QpW pl.isList (by omega) (by rw[Qr]<;>omega) (by omega) (by rw[hj];simpa using ew) fin
def iOr(a b:TI):TI:=λσ H R=>a σ H R∨b σ H R
theorem QyF{tg e:QP}{a b:TI}(h1:PI X tg e a)(h2:PI X tg e b):PI X tg e (iOr a b):=by
 intro pins s σ H R I h;rcases h with h | h
 ·exact h1 pins s σ H R I h
 ·exact h2 pins s σ H R I h
end
end L2
namespace Rk
open L2 _root_.Rd
def QzC(u:Nat):R2:=λx y H Q=>∃dx dy,Dat H x dx/\Dat H y dy/\u+min dx.depth dy.depth<cLine/\Q (.bl (!Jq dx dy)) H
theorem QvZ{X:Cx}:OpR X (compareOp .NotEq) (QzC X.A.units):=Qv0
def QzK(u:Nat):R2:=λx y H Q=>∃dx dy,Dat H x dx/\Dat H y dy/\u+min dx.depth dy.depth<cLine/\Q (.bl (Jq dx dy)) H
theorem Qv9{X:Cx}:OpR X (compareOp .Eq) (QzK X.A.units):=Qmd
theorem Qma{X:Cx}:OpR X (compareOp .NotIn) (Qyw X.A.in1.units true):=Qmb
def QcP:Nat->Qa->Bool
 |_,.none=>true
 |_,.bool _=>true
 |_,.int _=>true
 |_,.str _=>true
 |n+1,.tuple ds=>decide (ds.length<=1000)&&ds.all (QcP n)
 |n+1,.list ds=>decide (ds.length<=1000)&&ds.all (QcP n)
 |_,_=>false
def Qh1:Nat->Sp
 |0=>λ_ _ _ _=>False
 |n+1=>λvs H Q _=>∃x y d,vs=[x,y]/\Dat H x d/\Dat H y d/\QcP n d=true/\∀H',Same H H'->Q (.bl true) H'
theorem Qvz{X:Cx}{st:ZZ}{t:TS}(h:PS X.nox st t):PS X st t:=λpins s σ H D I hw=>
 wpAny_mono (h pins s σ H D (I.wish _) hw) (λ_ _ q=>SP.unwish q) λ_ _ x=>x.elim
end Rk
namespace Rx
open PySem.Calls L2
theorem QyN{P:Qy}{w:Jg}{X:Cx}:Qbu (CXE P w) X E0:=by
 intro pins σ H s e s' I h;obtain⟨C,H',_,q⟩:=h;exact q.elim
end Rx
namespace Rk
open L2 _root_.Rd
theorem QtU{n k:Nat}(h:k<n):ixN n (k:Nat)=some k:=by
 unfold ixN;rw[if_pos (by omega),if_pos (by omega)];simp
end Rk
namespace HT
section
open PySem.SeqAt
open PySem.AutoSeq1 (wpAny_loadPart')
open PySem.MeetsSeq PySem.MeetsSeq2 PySem.MeetsSeq3
end
section
variable{prog:Qy}{w:Jg}{A:Q5}{E:Value->Shared->Prop}{s:Shared}
end
end HT
namespace L2
def Qvi(K:PySem.W.Frag):V->Option Int->Option Int->Hp->VK->Prop:=λx lo hi H Q=>∃a xs,x=.ref a/\SqL K H a xs/\∀p H',Same H H'->H p=none->H' p=some (.lst (QjK xs lo hi))->Q (.ref p) H'
theorem Qn6{X:Cx}:SlR X (Qvi X.K):=by
 intro pins s σ H x v vl vu lo hi sl Q I rx hs pl pu h;obtain⟨a,xs,e,hx,q⟩:=h;exact Qso pins s σ H x v vl vu lo hi sl Q I rx hs pl pu ⟨a,xs,e,hx,λp hp=>q p _ (Ji hp) hp Jl⟩
theorem cut_last(xs:List V):(QjK xs (some (-1)) none).length<=1:=by
 unfold QjK;rw[J8,QaN];have h2:xs.length - 1<=HT.sIx xs.length 0 (some (-1)):=by
  show xs.length - 1<=(if(-1:Int)<0 then((-1:Int)+(xs.length:Int)).toNat else min (-1:Int).toNat xs.length);rw[if_pos (by decide)];omega
 omega
end L2
namespace Rk
open L2 _root_.Rd
end Rk
namespace L2
section
variable{X:Cx}
def QlA(K:PySem.W.Frag):List V->Hp->VK->Prop:=λxs H Q=>∃p ys,xs=[.ref p]/\((SqL K H p ys/\∀l H',Same H H'->H l=none->H' l=some (.tup ys)->Q (.ref l) H')∨(SqT K H p ys/\Q (.ref p) H))
theorem ZV:CallR X (.type "tuple") (QlA X.K):=by
 intro pins s σ H xs us Q I r h;obtain⟨p,ys,e,h⟩:=h;refine Qgf pins s σ H xs us Q I r ⟨p,ys,e,?_⟩;rcases h with⟨h1,h2⟩ | h
 ·exact .inl ⟨h1,λl hl=>h2 l _ (Ji hl) hl Jl⟩
 ·exact .inr h
def QlC(K:PySem.W.Frag):List V->Hp->VK->Prop:=λxs H Q=>∃p ys,xs=[.ref p]/\(SqL K H p ys∨SqT K H p ys)/\∀l H',Same H H'->H l=none->H' l=some (.lst ys)->Q (.ref l) H'
theorem Qgg:CallR X (.type "list") (QlC X.K):=by
 intro pins s σ H xs us Q I r h;obtain⟨p,ys,e,h1,h2⟩:=h;exact Qho pins s σ H xs us Q I r ⟨p,ys,e,h1,λl hl=>h2 l _ (Ji hl) hl Jl⟩
end
end L2
namespace Rk
open L2 _root_.Rd
end Rk
namespace L2
section
variable{X:Cx}
end
section
variable{X:Cx}
end
end L2
namespace Rk
open L2 _root_.Rd
end Rk
namespace Rx
open PySem.Calls L2
abbrev TSX:=L2.Ends->L2.St->Hp->(Addr->Hp->Prop)->Prop
def PSX(X:Cx)(st:ZZ)(t:TSX):Prop:=∀(pins:List (Addr×Obj))(s:Shared)(σ:L2.St)(H:Hp)(D:L2.Ends)(Ex:Addr->Hp->Prop),Inv X pins σ H s->t D σ H Ex ->
 wpAny (model X.prog X.w) X.A (exec st X.env) (SP X pins D) (XP X pins λσ1 C H1=>σ1=σ/\Ex C H1) s
def Qzs(X:Cx)(sts:List ZZ)(t:TSX):Prop:=∀(pins:List (Addr×Obj))(s:Shared)(σ:L2.St)(H:Hp)(D:L2.Ends)(Ex:Addr->Hp->Prop),Inv X pins σ H s->t D σ H Ex ->
 wpAny (model X.prog X.w) X.A (execs sts X.env) (SP X pins D) (XP X pins λσ1 C H1=>σ1=σ/\Ex C H1) s
section
variable{X:Cx}{e:QP}{st:ZZ}{pos:Pos}{te:TX}{t u:TSX}{tc:TT}{c:QP}{a b:List ZZ}
theorem Qou(h1:PSX X st t):Qzs X [st] t:=by
 intro pins s σ H D Ex I h;refine QcW (thn (h1 pins s σ H D Ex I h) λf s1 q=>?_);cases f with
 |next=>exact Qbw q
 |ret v=>exact q
 |brk=>exact q
 |cont=>exact q
end
def Qyi(K:PySem.W.Frag)(R:Addr)(i:Nat)(tb:TSX)(th:TE):TS:=λD σ H=>tb D σ H λC H1=>ByC K C R/\∀a,H1 a=none->th (σ.set i (some (.ref a))) (upd H1 a (exO a C)) D.rt
section
variable{X:Cx}{R:Addr}{i:Nat}{n r:Str}{body:List ZZ}{hx:QP}{tb:TSX}{th:TE}{np hp hpos pos:Pos}
theorem QsS(hstk:X.stack=X.env::X.outer)(hfr:X.env.frame=some X.env.locals)(hc:Qzs X body tb)(hN:X.N.Nodup)(hi:X.N[i]? = some n)(hl:X.env.scope.names.lookup n=some .local)
  (hg:Gl X r)(hm:X.mg r=some (.ref R))(hh:∀e,PE (mkd X e) hx th)(hd:(r == ("__debug__" : Str))=false:=by decide) :
  PS X (.Try body [.ExceptHandler (some (.Name r np)) (some n) [.Return (some hx) hp] hpos] [] [] pos) (Qyi X.K R i tb th):=by
 intro pins s σ H D I h;refine wpAny_Try_except (wpAny_mono (hc pins s σ H D _ I h) (λf s1 q=>?_) λe s1 z=>?_)
 ·cases f with
  |next=>exact Qbw q
  |ret v=>exact q
  |brk=>exact q
  |cont=>exact q
 obtain⟨σ1,C,H1,a,t,B,rfl,fl,fH,f0,fp,land,eσ,bc,q⟩:=z;subst eσ;rw[hstk] at fl;have fr:X.A.frames=some (X.env::X.outer):=by rw[<- hstk];exact I.ok.frames
 refine wpAny_looks_onW fr hfr fl λh4 held4 up4=>?_
 refine wpAny_landsW held4 λh5 fl5 up5=>?_
 have I5:L2.Inv X pins σ1 H1 { s1 with heap:=h5 }:=land h5 s1.toks fl5.1 (up4.trans up5);have x5:ExAt a C h5:=by
  obtain⟨oe,vs,e1,e2,e3,_⟩:=fl5.first
  exact⟨oe,vs,e1,e2,e3⟩
 refine wpAny_handleBy_cons (codeAny_handlers_test (Qdn (X:=mkd X (.ref a)) (QmL I5 _) hg hm ?_ hd)) (by intro q;cases q);refine Qkr (s:={ s1 with heap:=h5 }) I5.kIn x5 bc ?_
 refine codeAny_handlers_suite_as ?_
 refine lands_againW fl5 λh6 fl6 up6=>?_
 have I6:L2.Inv X pins σ1 H1 { s1 with heap:=h6 }:=land h6 s1.toks fl6.1 ((up4.trans up5).trans up6);have x6:ExAt a C h6:=by
  obtain⟨oe,vs,e1,e2,e3,_⟩:=fl6.first
  exact⟨oe,vs,e1,e2,e3⟩
 have I7:=QmK I6 fH f0 fp x6;refine QfK I7 hN hi (QV hl) (show RelV (.ref a) (.ref a) from rfl) (λs8 I8=>?_) (.inr hl);refine QcW (Qgt (wpAny_mono (hh (.ref a) pins s8 _ _ _ (QmL I8 _) (q a fH)) (λv s9 ⟨x,H9,I9,r9,q9⟩=>?_) λ_ _ z=>z.elim));have J9:L2.Inv X pins _ H9 s9:=Qps I.ok I9;obtain⟨m,hn,hmm⟩:=id J9.loc;refine wpAny_nameGoes_keeps hl hn (by rw[I.ok.kind];rfl) λh' v' hn' hs'=>?_
 exact⟨x,_,H9,Qpt J9 hN hi hmm hn' hs',r9,q9⟩
end
end Rx
namespace L2
section
variable{X:Cx}
end
end L2
namespace Rk
open L2 _root_.Rd
end Rk
namespace Dl
open L2 _root_.Rd Rk
def dkV(kvs:List (Int×Int)):List (Key×V):=kvs.map λp=>(Qby p.1,V.int p.2)
def dkD(kvs:List (Int×Int)):List (Qa×Qa):=kvs.map λp=>(Qq p.1,Qq p.2)
mutual
inductive DA (A:Addr->Prop) (H:Hp):V->Qa->Prop
 |non:DA A H .non .none
 |bl (b:Bool):DA A H (.bl b) (.bool b)
 |int (i:Int):DA A H (.int i) (.int i)
 |str (x:Str):YH (.str x)=true->DA A H (.str x) (.str x)
 |tup {a:Addr} {xs:List V} {ds:List Qa}:¬A a->H a=some (.tup xs)->DAs A H xs ds->DA A H (.ref a) (.tuple ds)
 |lst {a:Addr} {xs:List V} {ds:List Qa}:¬A a->H a=some (.lst xs)->DAs A H xs ds->DA A H (.ref a) (.list ds)
 |dct {a:Addr} {kvs:List (Int×Int)} {ds:List (Qa×Qa)}:¬A a->H a=some (.dK (dkV kvs))->ds=dkD kvs->DA A H (.ref a) (.dict ds)
inductive DAs (A:Addr->Prop) (H:Hp):List V->List Qa->Prop
 |nil:DAs A H [] []
 |cons {x:V} {xs:List V} {d:Qa} {ds:List Qa}:DA A H x d->DAs A H xs ds->DAs A H (x::xs) (d::ds)
end
mutual
theorem QwV{A A':Addr->Prop}{H H':Hp}(k:∀a o,¬A a->H a=some o->H' a=some o)(m:∀a,A' a->A a∨H a=none):∀(d:Qa)(x:V),DA A H x d->DA A' H' x d
 |.none,_,.non=>.non
 |.bool _,_,.bl _=>.bl _
 |.int _,_,.int _=>.int _
 |.str _,_,.str _ c=>.str _ c
 |.tuple ds,_,.tup (xs:=xs) n e q=>.tup (λz=>(m _ z).elim n λz=>by rw[z] at e;cases e) (k _ _ n e) (QjG k m ds xs q)
 |.list ds,_,.lst (xs:=xs) n e q=>.lst (λz=>(m _ z).elim n λz=>by rw[z] at e;cases e) (k _ _ n e) (QjG k m ds xs q)
 |.dict _,_,.dct n e q=>.dct (λz=>(m _ z).elim n λz=>by rw[z] at e;cases e) (k _ _ n e) q
theorem QjG{A A':Addr->Prop}{H H':Hp}(k:∀a o,¬A a->H a=some o->H' a=some o)(m:∀a,A' a->A a∨H a=none):∀(ds:List Qa)(xs:List V),DAs A H xs ds->DAs A' H' xs ds
 |[],_,.nil=>.nil
 |d::ds,_,.cons (x:=x) (xs:=xs) q qs=>.cons (QwV k m d x q) (QjG k m ds xs qs)
end
theorem DA.mv{A A':Addr->Prop}{H H':Hp}{x:V}{d:Qa}(q:DA A H x d)(k:∀a o,¬A a->H a=some o->H' a=some o)(m:∀a,A' a->A a∨H a=none):DA A' H' x d:=QwV k m d x q
theorem DAs.mv{A A':Addr->Prop}{H H':Hp}{x:List V}{d:List Qa}(q:DAs A H x d)(k:∀a o,¬A a->H a=some o->H' a=some o)(m:∀a,A' a->A a∨H a=none):DAs A' H' x d:=QjG k m d x q
theorem DA.same{A:Addr->Prop}{H H':Hp}{x:V}{d:Qa}(q:DA A H x d)(s:Same H H'):DA A H' x d:=q.mv (λa o _ e=>s a o e) λa z=>.inl z
theorem DAs.same{A:Addr->Prop}{H H':Hp}{x:List V}{d:List Qa}(q:DAs A H x d)(s:Same H H'):DAs A H' x d:=q.mv (λa o _ e=>s a o e) λa z=>.inl z
theorem DAs.length{A:Addr->Prop}{H:Hp}:∀{xs:List V}{ds:List Qa},DAs A H xs ds->xs.length=ds.length
 |_,_,.nil=>rfl
 |_,_,.cons _ q=>by rw[QJ,QJ,q.length]
theorem DAs.get{A:Addr->Prop}{H:Hp}:∀{xs:List V}{ds:List Qa},DAs A H xs ds->∀(i:Nat)(d:Qa),ds[i]? = some d->∃x,xs[i]? = some x/\DA A H x d
 |_,_,.nil,i,x,e=>by simp at e
 |_,_,.cons q qs,0,x,e=>by simp at e;subst e;exact⟨_,rfl,q⟩
 |_,_,.cons q qs,i+1,x,e=>qs.get i x (by simpa using e)
theorem DAs.getV{A:Addr->Prop}{H:Hp}:∀{xs:List V}{ds:List Qa},DAs A H xs ds->∀(i:Nat)(x:V),xs[i]? = some x->∃d,ds[i]? = some d/\DA A H x d
 |_,_,.nil,i,x,e=>by simp at e
 |_,_,.cons q qs,0,x,e=>by simp at e;subst e;exact⟨_,rfl,q⟩
 |_,_,.cons q qs,i+1,x,e=>qs.getV i x (by simpa using e)
theorem DAs.app{A:Addr->Prop}{H:Hp}:∀{xs ys:List V}{ds es:List Qa},DAs A H xs ds->DAs A H ys es->DAs A H (xs++ys) (ds++es)
 |_,_,_,_,.nil,q=>q
 |_,_,_,_,.cons a b,q=>.cons a (b.app q)
theorem DAs.take{A:Addr->Prop}{H:Hp}:∀{xs:List V}{ds:List Qa},DAs A H xs ds->∀n:Nat,DAs A H (xs.take n) (ds.take n)
 |_,_,.nil,n=>by rw[Qxs,Qxs];exact .nil
 |_,_,.cons a b,0=>.nil
 |_,_,.cons a b,n+1=>.cons a (b.take n)
theorem DAs.drop{A:Addr->Prop}{H:Hp}:∀{xs:List V}{ds:List Qa},DAs A H xs ds->∀n:Nat,DAs A H (xs.drop n) (ds.drop n)
 |_,_,.nil,n=>by rw[Qxu,Qxu];exact .nil
 |_,_,.cons a b,0=>.cons a b
 |_,_,.cons a b,n+1=>b.drop n
theorem DAs.set{A:Addr->Prop}{H:Hp}{x:V}{d:Qa}(q:DA A H x d):∀{xs:List V}{ds:List Qa},DAs A H xs ds->∀n:Nat,DAs A H (xs.set n x) (ds.set n d)
 |_,_,.nil,n=>.nil
 |_,_,.cons a b,0=>.cons q b
 |_,_,.cons a b,n+1=>.cons a (b.set q n)
mutual
def nd:Qa->Bool
 |.dict _=>false
 |.tuple ds=>nds ds
 |.list ds=>nds ds
 |_=>true
def nds:List Qa->Bool
 |[]=>true
 |d::ds=>nd d&&nds ds
end
mutual
theorem Qhj{A:Addr->Prop}{H:Hp}:∀(d:Qa)(x:V),nd d=true->DA A H x d->Dat H x d
 |.none,_,_,.non=>.non
 |.bool _,_,_,.bl _=>.bl _
 |.int _,_,_,.int _=>.int _
 |.str _,_,_,.str _ c=>.str _ c
 |.tuple ds,_,n,.tup (xs:=xs) _ e q=>.tup e (Qbm ds xs n q)
 |.list ds,_,n,.lst (xs:=xs) _ e q=>.lst e (Qbm ds xs n q)
theorem Qbm{A:Addr->Prop}{H:Hp}:∀(ds:List Qa)(xs:List V),nds ds=true->DAs A H xs ds->Dats H xs ds
 |[],_,_,.nil=>.nil
 |d::ds,_,n,.cons (x:=x) (xs:=xs) q qs=>by
  have n':=Qs.mp (show(nd d&&nds ds)=true from n);exact .cons (Qhj d x n'.1 q) (Qbm ds xs n'.2 qs)
end
theorem Qf1{ds:List Qa}:nds ds=true↔∀d∈ds,nd d=true:=by
 induction ds with
 |nil=>exact⟨(λ_ _ h=>nomatch h),λ_=>rfl⟩
 |cons d ds ih=>
  rw[show nds (d::ds)=(nd d&&nds ds) from rfl,Qs,ih];constructor
  ·rintro⟨a,b⟩ e he;rcases Qz.mp he with z | z
   ·rw[z];exact a
   ·exact b e z
  ·intro h;exact⟨h d (by simp),λe he=>h e (by simp[he])⟩
def DP(A P:Addr->Prop)(H:Hp)(v:V)(d:Qa):Prop:=DA A H v d∨∃l xs ds,v=.ref l/\d=.list ds/\¬P l/\H l=some (.lst xs)/\DAs A H xs ds
theorem DP.dat{A P:Addr->Prop}{H:Hp}{v:V}{d:Qa}(h:DP A P H v d)(n:nd d=true):Dat H v d:=by
 rcases h with h | ⟨l,xs,ds,rfl,rfl,_,e,q⟩
 ·exact Qhj d v n h
 ·exact .lst e (Qbm ds xs n q)
theorem DP.list{A P:Addr->Prop}{H:Hp}{v:V}{ds:List Qa}(h:DP A P H v (.list ds)):∃l xs,v=.ref l/\H l=some (.lst xs)/\DAs A H xs ds:=by
 rcases h with h | ⟨l,xs,ds',rfl,e,_,h2,q⟩
 ·cases h with | lst n e q=>exact⟨_,_,rfl,e,q⟩
 ·cases e;exact⟨l,xs,rfl,h2,q⟩
theorem DP.tuple{A P:Addr->Prop}{H:Hp}{v:V}{ds:List Qa}(h:DP A P H v (.tuple ds)):∃l xs,v=.ref l/\H l=some (.tup xs)/\DAs A H xs ds:=by
 rcases h with h | ⟨l,xs,ds',rfl,e,_⟩
 ·cases h with | tup n e q=>exact⟨_,_,rfl,e,q⟩
 ·cases e
theorem DP.int{A P:Addr->Prop}{H:Hp}{v:V}{i:Int}(h:DP A P H v (.int i)):v=.int i:=by
 rcases h with h | ⟨l,xs,ds',rfl,e,_⟩
 ·cases h;rfl
 ·cases e
theorem DP.bool{A P:Addr->Prop}{H:Hp}{v:V}{i:Bool}(h:DP A P H v (.bool i)):v=.bl i:=by
 rcases h with h | ⟨l,xs,ds',rfl,e,_⟩
 ·cases h;rfl
 ·cases e
theorem DP.none{A P:Addr->Prop}{H:Hp}{v:V}(h:DP A P H v .none):v=.non:=by
 rcases h with h | ⟨l,xs,ds',rfl,e,_⟩
 ·cases h;rfl
 ·cases e
theorem DP.str{A P:Addr->Prop}{H:Hp}{v:V}{x:Str}(h:DP A P H v (.str x)):v=.str x/\YH (.str x)=true:=by
 rcases h with h | ⟨l,xs,ds',rfl,e,_⟩
 ·cases h with | str _ c=>exact⟨rfl,c⟩
 ·cases e
inductive Sl where
 |no | pot | scr
 |v (d:Qa)
 |own (ds:List Qa)
 |pk (ds:List Qa)
abbrev Sts:=List Sl
structure Fm where
 H0:Hp
 A0:Addr->Prop
 pt:Addr->Prop
def QAa(σ:L2.St)(δ:Sts)(i:Nat)(a:Addr):Prop:=σ[i]? = some (some (.ref a))/\(δ[i]? = some .pot∨∃ds,δ[i]? = some (.own ds))
def Av(F:Fm)(σ:L2.St)(δ:Sts)(a:Addr):Prop:=F.A0 a∨∃i,QAa σ δ i a
def ZK(σ:L2.St)(δ:Sts)(a:Addr):Prop:=∃i:Nat,σ[i]? = some (some (.ref a))/\δ[i]? = some .pot
def Qz8(K:PySem.W.Frag)(F:Fm)(H:Hp)(A:Addr->Prop)(o:Option V):Sl->Prop
 |.no=>True
 |.v d=>∃v,o=some v/\DA A H v d
 |.own ds=>∃l xs,o=some (.ref l)/\H l=some (.lst xs)/\DAs A H xs ds/\F.H0 l=none
 |.pk ds=>∃l xs,o=some (.ref l)/\H l=some (.lst xs)/\DAs A H xs ds/\∃ys,F.H0 l=some (.lst ys)/\¬F.pt l
 |.pot=>∃p n,o=some (.ref p)/\H p=some (.lst [.int n])/\(F.pt p∨F.H0 p=none)
 |.scr=>∃a ns,o=some (.ref a)/\SqL K F.H0 a ((ns:List Int).map V.int)/\¬F.pt a/\ns.length<=63
structure Rel (K:PySem.W.Frag) (F:Fm) (σ:L2.St) (H:Hp) (δ:Sts):Prop where
 len:σ.length=δ.length
 dom:∀a,F.A0 a->∃xs,H a=some (.lst xs)
 dom0:∀a,F.A0 a->∃xs,F.H0 a=some (.lst xs)
 pt0:∀p,F.pt p->F.A0 p/\∃n,H p=some (.lst [.int n])
 kx:∀b o,¬F.pt b->F.H0 b=some o->H b=some o
 sl:∀(i:Nat) o x,σ[i]? = some o->δ[i]? = some x->Qz8 K F H (Av F σ δ) o x
 inj:∀(i j:Nat) a ds,δ[i]? = some (.own ds)->σ[i]? = some (some (.ref a))->QAa σ δ j a->i=j
def Kp(σ:L2.St)(δ:Sts)(H H':Hp):Prop:=(∀b o,¬ZK σ δ b->H b=some o->H' b=some o)/\∀b,ZK σ δ b->∃n,H' b=some (.lst [.int n])
def Stp(F:Fm)(σ:L2.St)(H:Hp)(δ:Sts)(σ':L2.St)(H':Hp)(δ':Sts):Prop:=(∀b o,¬Av F σ δ b->H b=some o->H' b=some o)/\∀b,Av F σ' δ' b->Av F σ δ b∨H b=none
def Ke(F:Fm)(H':Hp):Prop:=(∀b o,¬F.pt b->F.H0 b=some o->H' b=some o)/\∀p,F.pt p->∃n,H' p=some (.lst [.int n])
theorem Yq{F:Fm}{σ:L2.St}{δ:Sts}{a:Addr}(h:ZK σ δ a):Av F σ δ a:=let ⟨i,h1,h2⟩:=h;.inr ⟨i,h1,.inl h2⟩
theorem Rel.ke{K:PySem.W.Frag}{F:Fm}{σ:L2.St}{H:Hp}{δ:Sts}(r:Rel K F σ H δ):Ke F H:=⟨r.kx,λp hp=>(r.pt0 p hp).2⟩
theorem Rel.isl{K:PySem.W.Frag}{F:Fm}{σ:L2.St}{H:Hp}{δ:Sts}(r:Rel K F σ H δ){a:Addr}(h:Av F σ δ a):∃xs,H a=some (.lst xs):=by
 rcases h with h | ⟨i,h1,h2⟩
 ·exact r.dom a h
 ·rcases h2 with h2 | ⟨ds,h2⟩
  ·obtain⟨p,n,e,h,_⟩:=r.sl i _ _ h1 h2;cases e;exact⟨_,h⟩
  ·obtain⟨l,xs,e,h,_⟩:=r.sl i _ _ h1 h2;cases e;exact⟨_,h⟩
theorem Kp.refl{K:PySem.W.Frag}{F:Fm}{σ:L2.St}{H:Hp}{δ:Sts}(r:Rel K F σ H δ):Kp σ δ H H:=⟨λ_ _ _ e=>e,λb ⟨i,h1,h2⟩=>by
 obtain⟨p,n,e,h,_⟩:=r.sl i _ _ h1 h2;cases e;exact⟨n,h⟩⟩
theorem Kp.trans{σ:L2.St}{δ:Sts}{H H1 H2:Hp}(a:Kp σ δ H H1)(b:Kp σ δ H1 H2):Kp σ δ H H2:=⟨λc o n e=>b.1 c o n (a.1 c o n e),b.2⟩
theorem Kp.same{K:PySem.W.Frag}{F:Fm}{σ:L2.St}{H H':Hp}{δ:Sts}(r:Rel K F σ H δ)(s:Same H H'):Kp σ δ H H':=⟨λb o _ e=>s b o e,λb hb=>let ⟨n,h⟩:=(Kp.refl r).2 b hb;⟨n,s _ _ h⟩⟩
theorem Kp.da{F:Fm}{σ:L2.St}{H H':Hp}{δ:Sts}{v:V}{d:Qa}(k:Kp σ δ H H')(h:DA (Av F σ δ) H v d):DA (Av F σ δ) H' v d:=h.mv (λa o n e=>k.1 a o (λz=>n (Yq z)) e) λa z=>.inl z
theorem Kp.das{F:Fm}{σ:L2.St}{H H':Hp}{δ:Sts}{v:List V}{d:List Qa}(k:Kp σ δ H H')(h:DAs (Av F σ δ) H v d):DAs (Av F σ δ) H' v d:=h.mv (λa o n e=>k.1 a o (λz=>n (Yq z)) e) λa z=>.inl z
theorem Kp.dp{F:Fm}{σ:L2.St}{H H':Hp}{δ:Sts}{v:V}{d:Qa}(k:Kp σ δ H H')(h:DP (Av F σ δ) (ZK σ δ) H v d):DP (Av F σ δ) (ZK σ δ) H' v d:=by
 rcases h with h | ⟨l,xs,ds,e1,e2,n,e,q⟩
 ·exact .inl (k.da h)
 ·exact .inr ⟨l,xs,ds,e1,e2,n,k.1 _ _ n e,k.das q⟩
theorem Rel.own_pot{K:PySem.W.Frag}{F:Fm}{σ:L2.St}{H:Hp}{δ:Sts}(r:Rel K F σ H δ){i:Nat}{ds:List Qa}{l:Addr}(h:δ[i]? = some (.own ds))(e:σ[i]? = some (some (.ref l))):¬ZK σ δ l:=by
 rintro⟨j,h1,h2⟩;have:=r.inj i j l _ h e ⟨h1,.inl h2⟩;subst this;rw[h] at h2;cases h2
theorem Rel.pt_pot{K:PySem.W.Frag}{F:Fm}{σ:L2.St}{H H':Hp}{δ:Sts}(r:Rel K F σ H δ)(k:Kp σ δ H H'){p:Addr}(hp:F.pt p):∃n,H' p=some (.lst [.int n]):=by
 by_cases z:ZK σ δ p
 ·exact k.2 p z
 ·obtain⟨n,e⟩:=(r.pt0 p hp).2;exact⟨n,k.1 _ _ z e⟩
theorem Rel.kp{K:PySem.W.Frag}{F:Fm}{σ:L2.St}{H H':Hp}{δ:Sts}(r:Rel K F σ H δ)(k:Kp σ δ H H'):Rel K F σ H' δ where
 len:=r.len
 dom:=λa ha=>by
  by_cases z:ZK σ δ a
  ·exact⟨_,(k.2 a z).choose_spec⟩
  ·obtain⟨xs,e⟩:=r.dom a ha;exact⟨xs,k.1 _ _ z e⟩
 dom0:=r.dom0
 pt0:=λp hp=>⟨(r.pt0 p hp).1,r.pt_pot k hp⟩
 kx:=λb o n e=>by
  by_cases z:ZK σ δ b
  ·obtain⟨i,h1,h2⟩:=z;obtain⟨p,m,e1,h,q⟩:=r.sl i _ _ h1 h2;cases e1;rcases q with q | q
   ·exact absurd q n
   ·rw[q] at e;cases e
  ·exact k.1 _ _ z (r.kx b o n e)
 sl:=λi o x h1 h2=>by
  have h:=r.sl i o x h1 h2;cases x with
  |no=>trivial
  |v d=>obtain⟨v,e,q⟩:=h;exact⟨v,e,k.da q⟩
  |own ds=>obtain⟨l,xs,rfl,e,q,f⟩:=h;exact⟨l,xs,rfl,k.1 _ _ (r.own_pot h2 h1) e,k.das q,f⟩
  |pk ds=>
   obtain⟨l,xs,rfl,e,q,ys,f,f2⟩:=h;refine⟨l,xs,rfl,k.1 _ _ ?_ e,k.das q,ys,f,f2⟩;rintro⟨j,j1,j2⟩;obtain⟨p,m,e1,_,w⟩:=r.sl j _ _ j1 j2;cases e1;rcases w with w | w
   ·exact f2 w
   ·rw[w] at f;cases f
  |pot=>
   obtain⟨p,n,rfl,e,q⟩:=h;obtain⟨m,e'⟩:=k.2 p ⟨i,h1,h2⟩;exact⟨p,m,rfl,e',q⟩
  |scr=>exact h
 inj:=r.inj
theorem Rel.same{K:PySem.W.Frag}{F:Fm}{σ:L2.St}{H H':Hp}{δ:Sts}(r:Rel K F σ H δ)(s:Same H H'):Rel K F σ H' δ:=r.kp (Kp.same r s)
theorem Stp.refl{F:Fm}{σ:L2.St}{H:Hp}{δ:Sts}:Stp F σ H δ σ H δ:=⟨λ_ _ _ e=>e,λ_ z=>.inl z⟩
theorem Stp.trans{F:Fm}{σ σ1 σ2:L2.St}{H H1 H2:Hp}{δ δ1 δ2:Sts}(a:Stp F σ H δ σ1 H1 δ1)(b:Stp F σ1 H1 δ1 σ2 H2 δ2):Stp F σ H δ σ2 H2 δ2:=by
 refine⟨λc o n e=>?_,λc z=>?_⟩
 ·refine b.1 c o (λz=>?_) (a.1 c o n e);rcases a.2 c z with q | q
  ·exact n q
  ·rw[q] at e;cases e
 ·rcases b.2 c z with q | q
  ·exact a.2 c q
  ·by_cases y:Av F σ δ c
   ·exact .inl y
   ·right
    cases e:H c with
    |none=>rfl
    |some o=>rw[a.1 c o y e] at q;cases q
theorem Stp.kp{F:Fm}{σ:L2.St}{H H':Hp}{δ:Sts}(k:Kp σ δ H H'):Stp F σ H δ σ H' δ:=⟨λb o n e=>k.1 b o (λz=>n (Yq z)) e,λ_ z=>.inl z⟩
theorem Stp.da{F:Fm}{σ σ':L2.St}{H H':Hp}{δ δ':Sts}{v:V}{d:Qa}(k:Stp F σ H δ σ' H' δ')(h:DA (Av F σ δ) H v d):DA (Av F σ' δ') H' v d:=h.mv k.1 k.2
abbrev XP:=Addr->Prop
abbrev DE:=Sts->(Qa->Prop)->XP->Prop
abbrev DT:=Sts->(Bool->Prop)->XP->Prop
abbrev DAr:=Sts->(List Qa->Prop)->XP->Prop
abbrev DSl:=Sts->(List Sl->Prop)->XP->Prop
inductive Md where | D | P | F
def FrV(H H':Hp)(v:V):Prop:=∀l,v=.ref l->(∃xs,H' l=some (.lst xs))->H l=none
def Vok(m:Md)(F:Fm)(σ:L2.St)(δ:Sts)(H H':Hp)(v:V)(d:Qa):Prop:=
 match m with
 |.D=>DA (Av F σ δ) H' v d
 |.P=>DP (Av F σ δ) (ZK σ δ) H' v d
 |.F=>DA (Av F σ δ) H' v d/\FrV H H' v
def Out(F:Fm)(E:XK)(EX:XP):Prop:=∀C,EX C->∀H',Ke F H'->E (.ref C) none H'
def tX(m:Md)(K:PySem.W.Frag)(E:XK)(w:DE):TE:=λσ H Q=>∃(F:Fm)(δ:Sts)(R:Qa->Prop)(EX:XP),Rel K F σ H δ/\w δ R EX/\(∀d,R d->∀v H',Rel K F σ H' δ->Kp σ δ H H'->Vok m F σ δ H H' v d->Q v H')/\Out F E EX
def tT(K:PySem.W.Frag)(E:XK)(w:DT):TT:=λσ H Q=>∃(F:Fm)(δ:Sts)(R:Bool->Prop)(EX:XP),Rel K F σ H δ/\w δ R EX/\(∀b,R b->∀H',Rel K F σ H' δ->Kp σ δ H H'->Q b H')/\Out F E EX
def VD(m:Md)(A P:Addr->Prop)(H:Hp)(v:V)(d:Qa):Prop:=
 match m with
 |.P=>DP A P H v d
 |_=>DA A H v d
def tAr(n:Nat)(m:Md)(K:PySem.W.Frag)(E:XK)(w:DAr):TA:=λσ H Q=>∃(F:Fm)(δ:Sts)(R:List Qa->Prop)(EX:XP),Rel K F σ H δ/\w δ R EX/\(∀ds,R ds->ds.length=n->∀vs H',Rel K F σ H' δ->Kp σ δ H H'->Z6 (VD m (Av F σ δ) (ZK σ δ) H') vs ds->Q vs H')/\Out F E EX
def QhA(A pt:Addr->Prop)(H:Hp)(v:V):Sl->Prop
 |.v d=>DA A H v d
 |.pot=>∃p,v=.ref p/\pt p
 |_=>False
def tAs(K:PySem.W.Frag)(E:XK)(w:DSl):TA:=λσ H Q=>∃(F:Fm)(δ:Sts)(R:List Sl->Prop)(EX:XP),Rel K F σ H δ/\w δ R EX/\(∀ds,R ds->∀vs H',Rel K F σ H' δ->Kp σ δ H H'->Z6 (QhA (Av F σ δ) (ZK σ δ) H') vs ds->Q vs H')/\Out F E EX
theorem Kp.vd{m:Md}{F:Fm}{σ:L2.St}{H H':Hp}{δ:Sts}{v:V}{d:Qa}(k:Kp σ δ H H')(h:VD m (Av F σ δ) (ZK σ δ) H v d):VD m (Av F σ δ) (ZK σ δ) H' v d:=by
 cases m
 ·exact k.da h
 ·exact k.dp h
 ·exact k.da h
theorem Kp.arg{F:Fm}{σ:L2.St}{H H':Hp}{δ:Sts}{v:V}{d:Sl}(k:Kp σ δ H H')(h:QhA (Av F σ δ) (ZK σ δ) H v d):QhA (Av F σ δ) (ZK σ δ) H' v d:=by
 cases d with
 |v d=>exact k.da h
 |pot=>exact h
 |_=>exact h.elim
def QcT(H:Hp):Prop:=∀a xs,H a=some (.lst xs)∨H a=some (.tup xs)->xs.length<=sizeLine
section
variable{X:Cx}{E:XK}
theorem Inv.lens{pins:List (Addr×Obj)}{σ:L2.St}{H:Hp}{s:Shared}(I:Inv X pins σ H s):QcT H:=λa xs h=>by
 rcases h with h | h
 ·exact(I.hok a _ h).1
 ·exact(I.hok a _ h).1
theorem PE.imp{e:QP}{t t':TE}(h:PE X e t)(i:∀σ H Q,t' σ H Q->t σ H Q):PE X e t':=λpins s σ H Q I q=>h pins s σ H Q I (i σ H Q q)
theorem PT.imp{e:QP}{t t':TT}(h:PT X e t)(i:∀σ H Q,t' σ H Q->t σ H Q):PT X e t':=λpins s σ H Q I q=>h pins s σ H Q I (i σ H Q q)
theorem PW.imp{e:QP}{t t':TT}(h:PW X e t)(i:∀σ H Q,t' σ H Q->t σ H Q):PW X e t':=λwh pins s σ H Q I q=>h wh pins s σ H Q I (i σ H Q q)
theorem PA.imp{e:List QP}{t t':TA}(h:PA X e t)(i:∀σ H Q,t' σ H Q->t σ H Q):PA X e t':=λpos pins s σ H Q I q=>h pos pins s σ H Q I (i σ H Q q)
theorem OpR.len{f:Value->Value->Sem Value}{r:R2}(h:OpR X f r):OpR X f (λx y H Q=>QcT H->r x y H Q):=λpins s σ H x y v u Q I rx ry q=>h pins s σ H x y v u Q I rx ry (q (Inv.lens I))
theorem CallR.len{f:Value}{r:List V->Hp->VK->Prop}(h:CallR X f r):CallR X f (λxs H Q=>QcT H->r xs H Q):=λpins s σ H xs us Q I rx q=>h pins s σ H xs us Q I rx (q (Inv.lens I))
theorem IxR.len{r:R2}(h:IxR X r):IxR X (λx y H Q=>QcT H->r x y H Q):=λa b pins s σ H x y v u Q I rx ry q hs=>h a b pins s σ H x y v u Q I rx ry (q (Inv.lens I)) hs
theorem OpR.or2{f:Value->Value->Sem Value}{r r':R2}(h:OpR X f r)(h':OpR X f r'):OpR X f (λx y H Q=>r x y H Q∨r' x y H Q):=OpR.or h h'
theorem IxR.or2{r r':R2}(h:IxR X r)(h':IxR X r'):IxR X (λx y H Q=>r x y H Q∨r' x y H Q):=λa b pins s σ H x y v u Q I rx ry q hs=>q.elim (λq=>h a b pins s σ H x y v u Q I rx ry q hs) λq=>h' a b pins s σ H x y v u Q I rx ry q hs
theorem SlR.or2{r r':V->Option Int->Option Int->Hp->VK->Prop}(h:SlR X r)(h':SlR X r'):SlR X (λx a b H Q=>r x a b H Q∨r' x a b H Q):=λpins s σ H x v vl vu lo hi sl Q I rx hs pl pu q=>q.elim (h pins s σ H x v vl vu lo hi sl Q I rx hs pl pu) (h' pins s σ H x v vl vu lo hi sl Q I rx hs pl pu)
theorem toD{e:QP}{w:DE}(h:PE X e (tX .F X.K E w)):PE X e (tX .D X.K E w):=PE.imp h λσ H Q ⟨F,δ,R,EX,r,hw,k,o⟩=>⟨F,δ,R,EX,r,hw,λd hd v H' r' kp vk=>k d hd v H' r' kp vk.1,o⟩
theorem toP{e:QP}{w:DE}(h:PE X e (tX .D X.K E w)):PE X e (tX .P X.K E w):=PE.imp h λσ H Q ⟨F,δ,R,EX,r,hw,k,o⟩=>⟨F,δ,R,EX,r,hw,λd hd v H' r' kp vk=>k d hd v H' r' kp (.inl vk),o⟩
theorem QAe{e:QP}{w:DE}(h:PE X e (tX .F X.K E w)):PE X e (tX .P X.K E w):=toP (toD h)
def Qzg(i:Nat):DE:=λδ Q _=>match δ[i]? with
 |some (.v d)=>Q d
 |_=>False
def dPk(i:Nat):DE:=λδ Q _=>match δ[i]? with
 |some (.v d)=>Q d
 |some (.own ds)=>Q (.list ds)
 |some (.pk ds)=>Q (.list ds)
 |_=>False
def dC(d:Qa):DE:=λ_ Q _=>Q d
theorem Rel.lt{K:PySem.W.Frag}{F:Fm}{σ:L2.St}{H:Hp}{δ:Sts}(r:Rel K F σ H δ){i:Nat}{x:Sl}(h:δ[i]? = some x):∃o,σ[i]? = some o:=by
 have:=(QY.mp h).1;exact⟨σ[i]'(by rw[r.len];exact this),Ql _⟩
theorem QvH{e:QP}{i:Nat}(h:PE X e (QgF i)):PE X e (tX .D X.K E (Qzg i)):=PE.imp h λσ H Q ⟨F,δ,R,EX,r,hw,k,o⟩=>by
 unfold Qzg at hw;split at hw
 ·rename_i d hd
  obtain⟨x,hx⟩:=r.lt hd;obtain⟨v,rfl,q⟩:=r.sl i _ _ hx hd;exact⟨v,hx,k d hw v H r (Kp.refl r) q⟩
 ·exact hw.elim
theorem QyI{e:QP}{i:Nat}(h:PE X e (QgF i)):PE X e (tX .P X.K E (dPk i)):=PE.imp h λσ H Q ⟨F,δ,R,EX,r,hw,k,o⟩=>by
 unfold dPk at hw;split at hw
 ·rename_i d hd
  obtain⟨x,hx⟩:=r.lt hd;obtain⟨v,rfl,q⟩:=r.sl i _ _ hx hd;exact⟨v,hx,k d hw v H r (Kp.refl r) (.inl q)⟩
 ·rename_i d hd
  obtain⟨x,hx⟩:=r.lt hd;obtain⟨l,xs,rfl,e,q,_⟩:=r.sl i _ _ hx hd;exact⟨_,hx,k _ hw _ H r (Kp.refl r) (.inr ⟨l,xs,d,rfl,rfl,r.own_pot hd hx,e,q⟩)⟩
 ·rename_i d hd
  obtain⟨x,hx⟩:=r.lt hd;obtain⟨l,xs,rfl,e,q,ys,f,f2⟩:=r.sl i _ _ hx hd;refine⟨_,hx,k _ hw _ H r (Kp.refl r) (.inr ⟨l,xs,d,rfl,rfl,?_,e,q⟩)⟩;rintro⟨j,j1,j2⟩;obtain⟨p,m,e1,_,w⟩:=r.sl j _ _ j1 j2;cases e1;rcases w with w | w
  ·exact f2 w
  ·rw[w] at f;cases f
 ·exact hw.elim
theorem QvT{e:QP}{v:V}{d:Qa}(h:PE X e (tC v))(q:∀(A:Addr->Prop)(H:Hp),DA A H v d):PE X e (tX .D X.K E (dC d)):=PE.imp h λσ H Q ⟨F,δ,R,EX,r,hw,k,o⟩=>k d hw v H r (Kp.refl r) (q _ _)
theorem QvP{i:Int}{j pos}:PE X (.Constant (.int i) j pos) (tX .D X.K E (dC (.int i))):=QvT Yy λ_ _=>.int i
theorem QyL{b:Bool}{j pos}:PE X (.Constant (.bool b) j pos) (tX .D X.K E (dC (.bool b))):=QvT QoD λ_ _=>.bl b
theorem QvM{j pos}:PE X (.Constant .none j pos) (tX .D X.K E (dC .none)):=QvT Qrw λ_ _=>.non
theorem QvJ{x:Str}{j pos}(h:YH (.str x)=true:=by decide +kernel):PE X (.Constant (.str x) j pos) (tX .D X.K E (dC (.str x))):=QvT QlU λ_ _=>.str x h
def OpD(r:R2)(rD:Qa->Qa->(Qa->Prop)->Prop):Prop:=∀(A P:Addr->Prop)(H:Hp)(x y:V)(d1 d2:Qa)(R:Qa->Prop)(Q:VK),QcT H->(∀a,A a->∃xs,H a=some (.lst xs))->DP A P H x d1->DP A P H y d2->rD d1 d2 R ->
 (∀d,R d->∀v H',Same H H'->DA A H' v d->FrV H H' v->Q v H')->r x y H Q
def QrX(r:R2)(rD:Qa->Qa->(Qa->Prop)->Prop):Prop:=∀(A P:Addr->Prop)(H:Hp)(x y:V)(d1 d2:Qa)(R:Qa->Prop)(Q:VK),QcT H->(∀a,A a->∃xs,H a=some (.lst xs))->DP A P H x d1->DP A P H y d2->rD d1 d2 R ->
 (∀d,R d->∀v H',Same H H'->DA A H' v d->Q v H')->r x y H Q
def dOp(rD:Qa->Qa->(Qa->Prop)->Prop)(wa wb:DE):DE:=λδ Q EX=>wa δ (λd1=>wb δ (λd2=>rD d1 d2 Q) EX) EX
theorem Qh9{K:PySem.W.Frag}{r:R2}{rD:Qa->Qa->(Qa->Prop)->Prop}{wa wb:DE}(hd:OpD r rD)(σ:L2.St)(H:Hp)(Q:VK)(h:tX .F K E (dOp rD wa wb) σ H Q) :
  tOp (λx y H Q=>QcT H->r x y H Q) (tX .P K E wa) (tX .P K E wb) σ H Q:=by
 obtain⟨F,δ,R,EX,rel,hw,k,o⟩:=h;refine⟨F,δ,_,EX,rel,hw,λd1 h1 x H1 rel1 kp1 x1=>⟨F,δ,_,EX,rel1,h1,λd2 h2 y H2 rel2 kp2 y2=>λln=>?_,o⟩,o⟩;refine hd (Av F σ δ) (ZK σ δ) H2 x y d1 d2 R Q ln (λa ha=>rel2.isl ha) (kp2.dp x1) y2 h2 λd hR v H' s q f=>?_
 refine k d hR v H' (rel2.same s) ((kp1.trans kp2).trans (Kp.same rel2 s)) ⟨q,λl e1 e2=>?_⟩;have f2:=f l e1 e2;cases e:H l with
 |none=>rfl
 |some ob=>
  by_cases z:ZK σ δ l
  ·obtain⟨n,en⟩:=kp2.2 l z;rw[en] at f2;cases f2
  ·rw[(kp1.trans kp2).1 _ _ z e] at f2;cases f2
theorem Qo2{K:PySem.W.Frag}{r:R2}{rD:Qa->Qa->(Qa->Prop)->Prop}{wa wb:DE}(hd:QrX r rD)(σ:L2.St)(H:Hp)(Q:VK)(h:tX .D K E (dOp rD wa wb) σ H Q) :
  tOp (λx y H Q=>QcT H->r x y H Q) (tX .P K E wa) (tX .P K E wb) σ H Q:=by
 obtain⟨F,δ,R,EX,rel,hw,k,o⟩:=h;refine⟨F,δ,_,EX,rel,hw,λd1 h1 x H1 rel1 kp1 x1=>⟨F,δ,_,EX,rel1,h1,λd2 h2 y H2 rel2 kp2 y2=>λln=>?_,o⟩,o⟩;refine hd (Av F σ δ) (ZK σ δ) H2 x y d1 d2 R Q ln (λa ha=>rel2.isl ha) (kp2.dp x1) y2 h2 λd hR v H' s q=>?_
 exact k d hR v H' (rel2.same s) ((kp1.trans kp2).trans (Kp.same rel2 s)) q
variable{a b:QP}{wa wb:DE}{pos:Pos}{r:R2}{rD:Qa->Qa->(Qa->Prop)->Prop}
theorem QvU{op:Qfy}(ho:OpR X (binaryOp op) r)(hd:OpD r rD)(ha:PE X a (tX .P X.K E wa))(hb:PE X b (tX .P X.K E wb)):PE X (.BinOp a op b pos) (tX .F X.K E (dOp rD wa wb)):=PE.imp (Qas (OpR.len ho) ha hb) (Qh9 hd)
theorem QvS{op:Qj2}(ho:OpR X (compareOp op) r)(hd:OpD r rD)(ha:PE X a (tX .P X.K E wa))(hb:PE X b (tX .P X.K E wb))(hm:behindInMarks op b=false):PE X (.Compare a [op] [b] pos) (tX .F X.K E (dOp rD wa wb)):=PE.imp (Qeh (OpR.len ho) ha hb hm) (Qh9 hd)
theorem QyJ{r:R2}{rD:Qa->Qa->(Qa->Prop)->Prop}(ho:IxR X r)(hd:QrX r rD)(ha:PE X a (tX .P X.K E wa))(hb:PE X b (tX .P X.K E wb))(hs:QiF b):PE X (.Subscript a b pos) (tX .D X.K E (dOp rD wa wb)):=PE.imp (QlW (IxR.len ho) ha hb hs) (Qo2 hd)
def dTst(w:DE):DT:=λδ Q EX=>w δ (λd=>match d with
 |.bool k=>Q k
 |_=>False) EX
theorem Qs7{op:Qj2}(ho:OpR X (compareOp op) r)(hd:OpD r rD)(ha:PE X a (tX .P X.K E wa))(hb:PE X b (tX .P X.K E wb))(hm:behindInMarks op b=false):PT X (.Compare a [op] [b] pos) (tT X.K E (dTst (dOp rD wa wb))):=by
 refine PT.imp (Qcn (OpR.len ho) ha hb hm) λσ H Q ⟨F,δ,R,EX,rel,hw,k,o⟩=>?_
 refine Qh9 hd σ H (λx H'=>∃k,x=.bl k/\Q k H') ⟨F,δ,_,EX,rel,hw,λd hd2 v H' rel' kp vk=>?_,o⟩;split at hd2
 ·rename_i b
  have:v=.bl b:=by cases vk.1;rfl
  exact⟨b,this,k b hd2 H' rel' kp⟩
 ·exact hd2.elim
def tru:Qa->Bool
 |.none=>false
 |.bool b=>b
 |.int i=>i != 0
 |.str y=>(y.length:Int) != 0
 |.list ds => !ds.isEmpty
 |.tuple ds => !ds.isEmpty
 |.dict ds => !ds.isEmpty
def strOk:Qa->Prop
 |.str y=>y.length<=sizeLine
 |_=>True
def dTru(w:DE):DT:=λδ Q EX=>w δ (λd=>strOk d/\Q (tru d)) EX
theorem QuW{K:PySem.W.Frag}{A P:Addr->Prop}{H:Hp}{v:V}{d:Qa}(h:DP A P H v d)(hs:strOk d):Qzp K v H (tru d):=by
 have sq:∀{xs:List V}{ds:List Qa},DAs A H xs ds->(!ds.isEmpty) = !xs.isEmpty:=λq=>by cases q<;>rfl
 rcases h with h | ⟨l,xs,ds,rfl,rfl,_,e,q⟩
 ·cases h with
  |non=>rfl
  |bl b=>rfl
  |int i=>rfl
  |str x c=>exact⟨hs,rfl⟩
  |@tup a xs ds n e q=>exact .inr (.inl ⟨xs,SqT.of e,sq q⟩)
  |@lst a xs ds n e q=>exact .inl ⟨xs,SqL.of e,sq q⟩
  |@dct a kvs ds n e q=>subst q;exact .inr (.inr ⟨dkV kvs,e,by cases kvs<;>rfl⟩)
 ·exact .inl ⟨xs,SqL.of e,sq q⟩
theorem Qs5{e:QP}{w:DE}(h:PE X e (tX .P X.K E w))(he:∀whole,isTrue e X.env whole=(do let v <- whole;standAt e.pos;holding [v] (truthy v))):PT X e (tT X.K E (dTru w)):=by
 refine PT.imp (Qos h he) λσ H Q ⟨F,δ,R,EX,rel,hw,k,o⟩=>?_
 exact⟨F,δ,_,EX,rel,hw,λd ⟨hs,hq⟩ v H' rel' kp vk=>⟨tru d,QuW vk hs,k _ hq H' rel' kp⟩,o⟩
theorem Qs4{e:QP}{w:DE}(h:PE X e (tX .P X.K E w))(he:∀whole,isTrue e X.env whole=(do let v <- whole;standAt e.pos;holding [v] (truthy v)):=by intro _;rfl):PT X e (tT X.K E (dTst w)):=by
 refine PT.imp (QgX h he) λσ H Q ⟨F,δ,R,EX,rel,hw,k,o⟩=>?_
 refine⟨F,δ,_,EX,rel,hw,λd hd v H' rel' kp vk=>?_,o⟩;split at hd
 ·exact⟨_,DP.bool vk,k _ hd H' rel' kp⟩
 ·exact hd.elim
def Qz5(wa wb:DT):DT:=λδ Q EX=>wa δ (λc=>if c=true then wb δ Q EX else Q false) EX
def dOr(wa wb:DT):DT:=λδ Q EX=>wa δ (λc=>if c=true then Q true else wb δ Q EX) EX
def QzX(wa:DT):DT:=λδ Q EX=>wa δ (λc=>Q (!c)) EX
theorem Qci{c:Prop}[Decidable c]{p q p' q':Prop}(h:if c then p else q)(h1:p->p')(h2:q->q'):if c then p' else q':=by
 split at h
 ·rw[if_pos (by assumption)];exact h1 h
 ·rw[if_neg (by assumption)];exact h2 h
variable{rest:List QP}{ta tb:DT}
theorem QoE(ha:PT X a (tT X.K E ta)):PW X (.BoolOp .And [a] pos) (tT X.K E ta):=QsP ha
theorem Qs2(ha:PT X a (tT X.K E ta)):PW X (.BoolOp .Or [a] pos) (tT X.K E ta):=Qi7 ha
theorem Qs3(ha:PT X a (tT X.K E ta))(hb:PW X (.BoolOp .And (b::rest) pos) (tT X.K E tb)):PW X (.BoolOp .And (a::b::rest) pos) (tT X.K E (Qz5 ta tb)):=by
 refine PW.imp (Qvy ha hb) λσ H Q ⟨F,δ,R,EX,rel,hw,k,o⟩=>?_
 refine⟨F,δ,_,EX,rel,hw,λc hc H' rel' kp=>?_,o⟩;exact Qci hc (λz=>⟨F,δ,R,EX,rel',z,λc hc H2 rel2 kp2=>k c hc H2 rel2 (kp.trans kp2),o⟩) λz=>k _ z H' rel' kp
theorem QvF(ha:PT X a (tT X.K E ta))(hb:PW X (.BoolOp .Or (b::rest) pos) (tT X.K E tb)):PW X (.BoolOp .Or (a::b::rest) pos) (tT X.K E (dOr ta tb)):=by
 refine PW.imp (QlK ha hb) λσ H Q ⟨F,δ,R,EX,rel,hw,k,o⟩=>?_
 refine⟨F,δ,_,EX,rel,hw,λc hc H' rel' kp=>?_,o⟩;exact Qci hc (λz=>k _ z H' rel' kp) (λz=>⟨F,δ,R,EX,rel',z,λc hc H2 rel2 kp2=>k c hc H2 rel2 (kp.trans kp2),o⟩)
theorem Qs6(ha:PT X a (tT X.K E ta)):PT X (.UnaryOp .Not a pos) (tT X.K E (QzX ta)):=by
 refine PT.imp (Qrn ha) λσ H Q ⟨F,δ,R,EX,rel,hw,k,o⟩=>?_
 exact⟨F,δ,_,EX,rel,hw,λc hc H' rel' kp=>k _ hc H' rel' kp,o⟩
def Qw5(wa wb:DE):DE:=λδ Q EX=>wa δ (λd=>match d with
 |.bool c=>if c=true then wb δ Q EX else Q (.bool false)
 |_=>False) EX
def Qw1(wa:DE):DE:=λδ Q EX=>wa δ (λd=>match d with
 |.bool c=>Q (.bool (!c))
 |_=>False) EX
theorem QvK{op}{w:DE}(h:PE X a (tX .D X.K E w)):PE X (.BoolOp op [a] pos) (tX .D X.K E w):=Qg0 h
theorem QvV(ha:PE X a (tX .P X.K E wa))(hb:PE X (.BoolOp .And (b::rest) pos) (tX .D X.K E wb)):PE X (.BoolOp .And (a::b::rest) pos) (tX .D X.K E (Qw5 wa wb)):=by
 refine PE.imp (Qg1 ha hb) λσ H Q ⟨F,δ,R,EX,rel,hw,k,o⟩=>?_
 refine⟨F,δ,_,EX,rel,hw,λd hd v H' rel' kp vk=>?_,o⟩;split at hd
 ·exact⟨_,DP.bool vk,Qci hd (λz=>⟨F,δ,R,EX,rel',z,λd hd v H2 rel2 kp2=>k d hd v H2 rel2 (kp.trans kp2),o⟩) λz=>k _ z _ H' rel' kp (.bl _)⟩
 ·exact hd.elim
theorem QvL(ha:PE X a (tX .P X.K E wa)):PE X (.UnaryOp .Not a pos) (tX .D X.K E (Qw1 wa)):=by
 refine PE.imp (Qrv ha) λσ H Q ⟨F,δ,R,EX,rel,hw,k,o⟩=>?_
 refine⟨F,δ,_,EX,rel,hw,λd hd v H' rel' kp vk=>?_,o⟩;split at hd
 ·exact⟨_,DP.bool vk,k _ hd _ H' rel' kp (.bl _)⟩
 ·exact hd.elim
def Qz2(t:DT)(wa wb:DE):DE:=λδ Q EX=>t δ (λc=>if c=true then wa δ Q EX else wb δ Q EX) EX
theorem QvQ{c:QP}(hc:PT X c (tT X.K E ta))(ha:PE X a (tX .D X.K E wa))(hb:PE X b (tX .D X.K E wb)):PE X (.IfExp c a b pos) (tX .D X.K E (Qz2 ta wa wb)):=by
 refine PE.imp (Qoz hc ha hb) λσ H Q ⟨F,δ,R,EX,rel,hw,k,o⟩=>?_
 refine⟨F,δ,_,EX,rel,hw,λd hd H' rel' kp=>?_,o⟩;exact Qci hd (λz=>⟨F,δ,R,EX,rel',z,λd hd v H2 rel2 kp2=>k d hd v H2 rel2 (kp.trans kp2),o⟩) (λz=>⟨F,δ,R,EX,rel',z,λd hd v H2 rel2 kp2=>k d hd v H2 rel2 (kp.trans kp2),o⟩)
end
theorem Qfh{A:Addr->Prop}{H H':Hp}{l:Addr}{xs:List V}{ds:List Qa}(dm:∀a,A a->∃xs,H a=some (.lst xs))(s:Same H H')(n:H l=none)(e:H' l=some (.lst xs))(q:DAs A H xs ds):DA A H' (.ref l) (.list ds):=
 .lst (λz=>by obtain⟨ys,e'⟩:=dm l z;rw[n] at e';cases e') e (q.same s)
theorem QeV{A:Addr->Prop}{H H':Hp}{l:Addr}{xs:List V}{ds:List Qa}(dm:∀a,A a->∃xs,H a=some (.lst xs))(s:Same H H')(e:H' l=some (.tup xs))(q:DAs A H xs ds):DA A H' (.ref l) (.tuple ds):=
 .tup (λz=>by obtain⟨ys,e'⟩:=dm l z;rw[s _ _ e'] at e;cases e) e (q.same s)
theorem QbR{H H':Hp}{l:Addr}(n:H l=none):FrV H H' (.ref l):=λl' e _=>by cases e;exact n
theorem Qdr{H H':Hp}{l:Addr}{xs:List V}(e:H' l=some (.tup xs)):FrV H H' (.ref l):=λl' e1 ⟨ys,e2⟩=>by cases e1;rw[e] at e2;cases e2
theorem Yt{H H':Hp}{i:Int}:FrV H H' (.int i):=λl' e _=>by cases e
theorem Qad{H H':Hp}{i:Bool}:FrV H H' (.bl i):=λl' e _=>by cases e
theorem Qt1{H H':Hp}:FrV H H' .non:=λl' e _=>by cases e
theorem DAs.rep{A:Addr->Prop}{H:Hp}{xs:List V}{ds:List Qa}(q:DAs A H xs ds):∀k:Nat,DAs A H (Jc k xs).flatten (Jc k ds).flatten
 |0=>.nil
 |k+1=>by rw[Zk,Zk,ZQ,ZQ];exact q.app (DAs.rep q k)
def Qzo:Qa->Qa->(Qa->Prop)->Prop
 |.int i,.int j,Q=>Q (.int (i+j))
 |.tuple a,.tuple b,Q=>a.length+b.length<=1000000/\Q (.tuple (a++b))
 |.list a,.list b,Q=>a.length+b.length<=1000000/\Q (.list (a++b))
 |_,_,_=>False
def iiD(C:Int->Int->Prop)(f:Int->Int->Qa):Qa->Qa->(Qa->Prop)->Prop
 |.int i,.int j,Q=>C i j/\Q (f i j)
 |_,_,_=>False
def ii0(f:Int->Int->Qa):Qa->Qa->(Qa->Prop)->Prop
 |.int i,.int j,Q=>Q (f i j)
 |_,_,_=>False
def QzP:Qa->Qa->(Qa->Prop)->Prop
 |.int i,.int j,Q=>(CMul i j∨CMulB i j)/\Q (.int (i*j))
 |.list a,.int k,Q=>(k<1000000 /\ -1000000<k/\a.length*k.toNat<=1000000)/\Q (.list (Jc k.toNat a).flatten)
 |_,_,_=>False
theorem Qf6:1000000<=sizeLine:=by show 1000000<=2^24;decide
section
variable{X:Cx}{E:XK}
theorem Qel{C:Int->Int->Prop}{g:Int->Int->Int}:OpD (rI C λi j=>.int (g i j)) (iiD C λi j=>.int (g i j)):=λA P H x y d1 d2 R Q ln dm hx hy h k=>by
 cases d1<;>cases d2<;>first | exact h.elim | skip
 rw[hx.int,hy.int];exact⟨_,_,rfl,rfl,h.1,k _ h.2 _ H (Same.refl H) (.int _) Yt⟩
theorem QbO{g:Int->Int->Int}:OpD (rI0 λi j=>.int (g i j)) (ii0 λi j=>.int (g i j)):=λA P H x y d1 d2 R Q ln dm hx hy h k=>by
 cases d1<;>cases d2<;>first | exact h.elim | skip
 rw[hx.int,hy.int];exact⟨_,_,rfl,rfl,k _ h _ H (Same.refl H) (.int _) Yt⟩
theorem QrB{g:Int->Int->Bool}:OpD (rI0 λi j=>.bl (g i j)) (ii0 λi j=>.bool (g i j)):=λA P H x y d1 d2 R Q ln dm hx hy h k=>by
 cases d1<;>cases d2<;>first | exact h.elim | skip
 rw[hx.int,hy.int];exact⟨_,_,rfl,rfl,k _ h _ H (Same.refl H) (.bl _) Qad⟩
def rAdd:R2:=λx y H Q=>(rI0 (λi j=>.int (i+j)) x y H Q∨Qvn x y H Q)∨QzM x y H Q
theorem Y7:OpR X (binaryOp .Add) rAdd:=OpR.or2 (OpR.or2 Qff Qtu) Qry
theorem Qbc:OpD rAdd Qzo:=λA P H x y d1 d2 R Q ln dm hx hy h k=>by
 cases d1<;>cases d2<;>first | exact h.elim | skip
 ·rw[hx.int,hy.int];exact .inl (.inl ⟨_,_,rfl,rfl,k _ h _ H (Same.refl H) (.int _) Yt⟩)
 ·obtain⟨l1,xs,rfl,e1,q1⟩:=hx.list;obtain⟨l2,ys,rfl,e2,q2⟩:=hy.list;refine .inr ⟨l1,l2,xs,ys,rfl,rfl,e1,e2,Q2 (by rw[q1.length,q2.length];exact h.1) Qf6,λp hp=>?_⟩;exact k _ h.2 _ _ (Ji hp) (Qfh dm (Ji hp) hp Jl (q1.app q2)) (QbR hp)
 ·obtain⟨l1,xs,rfl,e1,q1⟩:=hx.tuple;obtain⟨l2,ys,rfl,e2,q2⟩:=hy.tuple;refine .inl (.inr ⟨l1,l2,xs,ys,rfl,rfl,e1,e2,Q2 (by rw[q1.length,q2.length];exact h.1) Qf6,λp H' s e=>?_⟩);exact k _ h.2 _ _ s (QeV dm s e (q1.app q2)) (Qdr e)
def Qvl:R2:=λx y H Q=>(rI CMul (λi j=>.int (i*j)) x y H Q∨rI CMulB (λi j=>.int (i*j)) x y H Q)∨QzB x y H Q
theorem Qia:OpR X (binaryOp .Mult) Qvl:=OpR.or2 (OpR.or2 Qfe Qtq) QvY
theorem Qmo:OpD Qvl QzP:=λA P H x y d1 d2 R Q ln dm hx hy h k=>by
 cases d1<;>cases d2<;>first | exact h.elim | skip
 ·rw[hx.int,hy.int];rcases h.1 with c | c
  ·exact .inl (.inl ⟨_,_,rfl,rfl,c,k _ h.2 _ H (Same.refl H) (.int _) Yt⟩)
  ·exact .inl (.inr ⟨_,_,rfl,rfl,c,k _ h.2 _ H (Same.refl H) (.int _) Yt⟩)
 ·obtain⟨l1,xs,rfl,e1,q1⟩:=hx.list;rw[hy.int];obtain⟨⟨h1,h2,h3⟩,h4⟩:=h;refine .inr ⟨l1,_,xs,rfl,rfl,e1,by omega,by omega,Q2 (by rw[q1.length];exact h3) Qf6,λp hp=>?_⟩;exact k _ h4 _ _ (Ji hp) (Qfh dm (Ji hp) hp Jl (q1.rep _)) (QbR hp)
def eqD:Qa->Qa->(Qa->Prop)->Prop
 |.int i,.int j,Q=>Q (.bool (decide (i=j)))
 |.bool i,.bool j,Q=>Q (.bool (decide (i=j)))
 |.str i,.str j,Q=>Q (.bool (decide (i=j)))
 |a,b,Q=>(nd a=true/\nd b=true/\(a.depth<=50∨b.depth<=50))/\Q (.bool (Jq a b))
def neD:Qa->Qa->(Qa->Prop)->Prop
 |.int i,.int j,Q=>Q (.bool (!decide (i=j)))
 |.bool i,.bool j,Q=>Q (.bool (!decide (i=j)))
 |.str i,.str j,Q=>Q (.bool (!decide (i=j)))
 |a,b,Q=>(nd a=true/\nd b=true/\(a.depth<=50∨b.depth<=50))/\Q (.bool (!Jq a b))
theorem Qwo{a b:Qa}(h:a.depth<=50∨b.depth<=50):min a.depth b.depth<=50:=by rcases h with h | h<;>omega
def QzL(u:Nat):R2:=λx y H Q=>rEq x y H Q∨QzK u x y H Q
def QzD(u:Nat):R2:=λx y H Q=>rNe x y H Q∨QzC u x y H Q
theorem Qao:OpR X (compareOp .Eq) (QzL X.A.units):=OpR.or2 Qts Qv9
theorem Qji:OpR X (compareOp .NotEq) (QzD X.A.units):=OpR.or2 Qo3 QvZ
theorem QwR{i j:Int}:decide (V.int i=V.int j)=decide (i=j):=by
 by_cases h:i=j
 ·subst h;simp
 ·rw[decide_eq_false h,decide_eq_false (λz=>h (V.int.inj z))]
theorem QwS{i j:Bool}:decide (V.bl i=V.bl j)=decide (i=j):=by
 by_cases h:i=j
 ·subst h;simp
 ·rw[decide_eq_false h,decide_eq_false (λz=>h (V.bl.inj z))]
theorem QwQ{i j:Str}:decide (V.str i=V.str j)=decide (i=j):=by
 by_cases h:i=j
 ·subst h;simp
 ·rw[decide_eq_false h,decide_eq_false (λz=>h (V.str.inj z))]
theorem Qcc{u:Nat}(hu:u+60<cLine):OpD (QzL u) eqD:=λA P H x y d1 d2 R Q ln dm hx hy h k=>by
 unfold eqD at h;split at h
 ·rw[hx.int,hy.int];exact .inl ⟨rfl,k (.bool (decide (V.int _=V.int _))) (by rw[QwR];exact h) _ H (Same.refl H) (.bl _) Qad⟩
 ·rw[hx.bool,hy.bool];exact .inl ⟨rfl,k (.bool (decide (V.bl _=V.bl _))) (by rw[QwS];exact h) _ H (Same.refl H) (.bl _) Qad⟩
 ·rw[hx.str.1,hy.str.1];exact .inl ⟨rfl,k (.bool (decide (V.str _=V.str _))) (by rw[QwQ];exact h) _ H (Same.refl H) (.bl _) Qad⟩
 ·obtain⟨⟨n1,n2,dp⟩,hR⟩:=h;have:=Qwo dp;exact .inr ⟨_,_,hx.dat n1,hy.dat n2,by omega,k _ hR _ H (Same.refl H) (.bl _) Qad⟩
theorem Qpd{u:Nat}(hu:u+60<cLine):OpD (QzD u) neD:=λA P H x y d1 d2 R Q ln dm hx hy h k=>by
 unfold neD at h;split at h
 ·rw[hx.int,hy.int];exact .inl ⟨rfl,k (.bool (!decide (V.int _=V.int _))) (by rw[QwR];exact h) _ H (Same.refl H) (.bl _) Qad⟩
 ·rw[hx.bool,hy.bool];exact .inl ⟨rfl,k (.bool (!decide (V.bl _=V.bl _))) (by rw[QwS];exact h) _ H (Same.refl H) (.bl _) Qad⟩
 ·rw[hx.str.1,hy.str.1];exact .inl ⟨rfl,k (.bool (!decide (V.str _=V.str _))) (by rw[QwQ];exact h) _ H (Same.refl H) (.bl _) Qad⟩
 ·obtain⟨⟨n1,n2,dp⟩,hR⟩:=h;have:=Qwo dp;exact .inr ⟨_,_,hx.dat n1,hy.dat n2,by omega,k _ hR _ H (Same.refl H) (.bl _) Qad⟩
def QsC(u:Nat)(neg:Bool):R2:=λx y H Q=>∃c ps ds d,y=.ref c/\H c=some (.lst ps)/\Dats H ps ds/\Dat H x d/\u+d.depth<cLine/\Q (.bl (if neg then !(ds.any λe=>Jq e d) else ds.any λe=>Jq e d)) H
theorem Qtr:OpR X (compareOp .In) (QsC X.A.in1.units false):=by
 intro pins s σ H x y v u Q I rx ry h;obtain⟨c,ps,ds,d,rfl,hc,qs,qx,hu,q⟩:=h;cases ry;obtain⟨⟨as,ra⟩,ca⟩:=ZU I.hok d x v qx rx;obtain⟨its,rv,pl,hz⟩:=I.list (SqL.of hc);obtain⟨⟨bs,rb⟩,cb⟩:=YL I.hok ds ps its qs rv;refine SeqAt.in_listAt (eqH s.heap d) pl.isList (λw hw=>Qep ra ca rb cb hu w (YU.mp hw)) ⟨.bl _,H,I,rfl,?_⟩;rw[show its.toArray.any (eqH s.heap d)=its.any (eqH s.heap d) by simp,QeD rb cb];exact q
theorem Qkk:OpR X (compareOp .NotIn) (QsC X.A.in1.units true):=by
 intro pins s σ H x y v u Q I rx ry h;obtain⟨c,ps,ds,d,rfl,hc,qs,qx,hu,q⟩:=h;cases ry;obtain⟨⟨as,ra⟩,ca⟩:=ZU I.hok d x v qx rx;obtain⟨its,rv,pl,hz⟩:=I.list (SqL.of hc);obtain⟨⟨bs,rb⟩,cb⟩:=YL I.hok ds ps its qs rv;refine SeqAt.notIn_listAt (eqH s.heap d) pl.isList (λw hw=>Qep ra ca rb cb hu w (YU.mp hw)) ⟨.bl _,H,I,rfl,?_⟩;rw[show its.toArray.any (eqH s.heap d)=its.any (eqH s.heap d) by simp,QeD rb cb];exact q
def inD(neg:Bool)(d:Qa):Qa->(Qa->Prop)->Prop
 |.list ds,Q=>(nds ds=true/\nd d=true/\d.depth<=50)/\Q (.bool (if neg then !(ds.any λe=>Jq e d) else ds.any λe=>Jq e d))
 |.tuple ds,Q=>(nds ds=true/\nd d=true/\d.depth<=50)/\Q (.bool (if neg then !(ds.any λe=>Jq e d) else ds.any λe=>Jq e d))
 |_,_=>False
def Qyx(u:Nat)(neg:Bool):R2:=λx y H Q=>Qyw u neg x y H Q∨QsC u neg x y H Q
theorem Qv7:OpR X (compareOp .In) (Qyx X.A.in1.units false):=OpR.or2 Qv4 Qtr
theorem Qmc:OpR X (compareOp .NotIn) (Qyx X.A.in1.units true):=OpR.or2 Qma Qkk
theorem Qwj{u:Nat}{neg:Bool}(hu:u+60<cLine):OpD (Qyx u neg) (inD neg):=λA P H x y d1 d2 R Q ln dm hx hy h k=>by
 cases d2<;>first | exact h.elim | skip
 ·obtain⟨l,xs,rfl,e,q⟩:=hy.list;obtain⟨⟨n1,n2,n3⟩,hR⟩:=h;exact .inr ⟨l,xs,_,d1,rfl,e,Qbm _ _ n1 q,hx.dat n2,by omega,k _ hR _ H (Same.refl H) (.bl _) Qad⟩
 ·obtain⟨l,xs,rfl,e,q⟩:=hy.tuple;obtain⟨⟨n1,n2,n3⟩,hR⟩:=h;exact .inl ⟨l,xs,_,d1,rfl,e,Qbm _ _ n1 q,hx.dat n2,by omega,k _ hR _ H (Same.refl H) (.bl _) Qad⟩
def ixD:Qa->Qa->(Qa->Prop)->Prop
 |.list ds,.int i,Q=>∃d,atI ds i=some d/\Q d
 |.tuple ds,.int i,Q=>∃d,atI ds i=some d/\Q d
 |_,_,_=>False
theorem QrW{A:Addr->Prop}{H:Hp}{xs:List V}{ds:List Qa}{i:Int}{d:Qa}(q:DAs A H xs ds)(h:atI ds i=some d):∃v,atI xs i=some v/\DA A H v d:=by
 unfold atI at h ⊢;rw[q.length];cases e:ixN ds.length i with
 |none=>rw[e] at h;cases h
 |some j=>
  rw[e] at h;exact q.get j d h
def QzH(K:PySem.W.Frag):R2:=λx y H Q=>QxA K x y H Q∨QzF K x y H Q
theorem Yb:IxR X (QzH X.K):=IxR.or2 Qer Qwy
theorem QaI{K:PySem.W.Frag}:QrX (QzH K) ixD:=λA P H x y d1 d2 R Q ln dm hx hy h k=>by
 cases d1<;>cases d2<;>first | exact h.elim | skip
 ·obtain⟨l,xs,rfl,e,q⟩:=hx.list;obtain⟨d,hd,hR⟩:=h;obtain⟨v,hv,dv⟩:=QrW q hd;rw[hy.int];exact .inl ⟨l,xs,_,v,rfl,rfl,SqL.of e,hv,k d hR v H (Same.refl H) dv⟩
 ·obtain⟨l,xs,rfl,e,q⟩:=hx.tuple;obtain⟨d,hd,hR⟩:=h;obtain⟨v,hv,dv⟩:=QrW q hd;rw[hy.int];exact .inr ⟨l,xs,_,v,rfl,rfl,SqT.of e,hv,k d hR v H (Same.refl H) dv⟩
def dUn(rD:Qa->(Qa->Prop)->Prop)(wa:DE):DE:=λδ Q EX=>wa δ (λd=>rD d Q) EX
def QzO:Qa->(Qa->Prop)->Prop
 |.int i,Q=>Q (.int (-i))
 |_,_=>False
variable{a b c:QP}{wa wb wc:DE}{pos:Pos}
theorem QvN(ha:PE X a (tX .P X.K E wa)):PE X (.UnaryOp .USub a pos) (tX .F X.K E (dUn QzO wa)):=by
 refine PE.imp (QyG QuQ ha) λσ H Q ⟨F,δ,R,EX,rel,hw,k,o⟩=>?_
 refine⟨F,δ,_,EX,rel,hw,λd hd v H' rel' kp vk=>?_,o⟩;cases d<;>first | exact(show False from hd).elim | skip
 exact⟨_,DP.int vk,k _ hd _ H' rel' kp ⟨.int _,Yt⟩⟩
def dCh(p q:Int->Int->Bool)(wa wb wc:DE):DE:=λδ Q EX=>wa δ (λx=>wb δ (λy=>match x,y with
 |.int i,.int j=>if p i j=true then wc δ (λz=>match z with
  |.int k=>Q (.bool (q j k))
  |_=>False) EX else Q (.bool false)
 |_,_=>False) EX) EX
theorem Qui{K:PySem.W.Frag}{p q:Int->Int->Bool}(σ:L2.St)(H:Hp)(Q:VK)(h:tX .F K E (dCh p q wa wb wc) σ H Q) :
  Qrb (rI0 λi j=>.bl (p i j)) (rI0 λi j=>.bl (q i j)) (tX .P K E wa) (tX .P K E wb) (tX .P K E wc) σ H Q:=by
 obtain⟨F,δ,R,EX,rel,hw,k,o⟩:=h;refine⟨F,δ,_,EX,rel,hw,λd1 h1 x H1 rel1 kp1 x1=>⟨F,δ,_,EX,rel1,h1,λd2 h2 y H2 rel2 kp2 y2=>?_,o⟩,o⟩;cases d1<;>cases d2<;>first | exact(show False from h2).elim | skip
 rw[DP.int x1,DP.int y2];refine⟨_,_,rfl,rfl,_,rfl,Qci h2 (λz=>⟨F,δ,_,EX,rel2,z,λd3 h3 v H3 rel3 kp3 v3=>?_,o⟩) λz=>k _ z _ H2 rel2 (kp1.trans kp2) ⟨.bl _,Qad⟩⟩;cases d3<;>first | exact(show False from h3).elim | skip
 rw[DP.int v3];exact⟨_,_,rfl,rfl,k _ h3 _ H3 rel3 ((kp1.trans kp2).trans kp3) ⟨.bl _,Qad⟩⟩
theorem QyK{op op':Qj2}{p q:Int->Int->Bool}(ho:OpR X (compareOp op) (rI0 λi j=>.bl (p i j)))(ho':OpR X (compareOp op') (rI0 λi j=>.bl (q i j)))(ha:PE X a (tX .P X.K E wa))(hb:PE X b (tX .P X.K E wb))(hc:PE X c (tX .P X.K E wc))(hm:lastMarks [op,op'] [b,c]=false:=by with_unfolding_all rfl) :
  PE X (.Compare a [op,op'] [b,c] pos) (tX .F X.K E (dCh p q wa wb wc)):=PE.imp (QoB ho ho' ha hb hc (hm:=hm)) Qui
def QzY:DAr:=λ_ Q _=>Q []
def Qnc(we:DE)(wr:DAr):DAr:=λδ Q EX=>we δ (λd=>wr δ (λds=>Q (d::ds)) EX) EX
theorem Qtk{m:Md}:PA X [] (tAr 0 m X.K E QzY):=PA.imp JQ λσ H Q ⟨F,δ,R,EX,rel,hw,k,o⟩=>k [] hw rfl [] H rel (Kp.refl rel) .nil
theorem Qnx{n:Nat}{m:Md}{K:PySem.W.Frag}{we:DE}{wr:DAr}(hm:∀{F:Fm}{σ:L2.St}{δ:Sts}{H H':Hp}{v:V}{d:Qa},Vok m F σ δ H H' v d->VD m (Av F σ δ) (ZK σ δ) H' v d)(σ:L2.St)(H:Hp)(Q:List V->Hp->Prop)(h:tAr (n+1) m K E (Qnc we wr) σ H Q):QdM (tX m K E we) (tAr n m K E wr) σ H Q:=by
 obtain⟨F,δ,R,EX,rel,hw,k,o⟩:=h;refine⟨F,δ,_,EX,rel,hw,λd hd v H' rel' kp vk=>⟨F,δ,_,EX,rel',hd,λds hds hl vs H2 rel2 kp2 vks=>?_,o⟩,o⟩;exact k _ hds (by rw[QJ,hl]) (v::vs) H2 rel2 (kp.trans kp2) (.cons (kp2.vd (hm vk)) vks)
theorem Ql3{n:Nat}{e:QP}{es:List QP}{we:DE}{wr:DAr}(he:PE X e (tX .D X.K E we))(hr:PA X es (tAr n .D X.K E wr))(hs:notStar e=true:=by rfl):PA X (e::es) (tAr (n+1) .D X.K E (Qnc we wr)):=PA.imp (Qcg he hr hs) (Qnx λh=>h)
theorem Ql2{n:Nat}{e:QP}{es:List QP}{we:DE}{wr:DAr}(he:PE X e (tX .P X.K E we))(hr:PA X es (tAr n .P X.K E wr))(hs:notStar e=true:=by rfl):PA X (e::es) (tAr (n+1) .P X.K E (Qnc we wr)):=PA.imp (Qcg he hr hs) (Qnx λh=>h)
theorem Qdj{A P:Addr->Prop}{H:Hp}:∀{vs:List V}{ds:List Qa},Z6 (VD .D A P H) vs ds->DAs A H vs ds
 |_,_,.nil=>.nil
 |_,_,.cons a b=>.cons a (Qdj b)
def QzU(w:DAr):DE:=λδ Q EX=>w δ (λds=>Q (.tuple ds)) EX
def QzZ(w:DAr):DE:=λδ Q EX=>w δ (λds=>Q (.list ds)) EX
theorem QvI{n:Nat}{es:List QP}{w:DAr}{x1}(h:PA X es (tAr n .D X.K E w))(hn:n<=1000:=by decide):PE X (.Tuple es x1 pos) (tX .F X.K E (QzU w)):=by
 refine PE.imp (QlT h) λσ H Q ⟨F,δ,R,EX,rel,hw,k,o⟩=>?_
 refine⟨F,δ,_,EX,rel,hw,λds hds hl vs H' rel' kp q=>?_,o⟩;have q':=Qdj q;refine⟨by rw[q'.length,hl];exact hn,λa H2 s n e=>k _ hds _ H2 (rel'.same s) (kp.trans (Kp.same rel' s)) ⟨QeV (λa ha=>rel'.isl ha) s e q',Qdr e⟩⟩
theorem Qbl{σ:L2.St}{δ:Sts}{H H':Hp}{l:Addr}(k:Kp σ δ H H')(n:H' l=none):H l=none:=by
 cases e:H l with
 |none=>rfl
 |some ob=>
  by_cases z:ZK σ δ l
  ·obtain⟨m,em⟩:=k.2 l z;rw[em] at n;cases n
  ·rw[k.1 _ _ z e] at n;cases n
theorem QvO{n:Nat}{es:List QP}{w:DAr}(h:PA X es (tAr n .D X.K E w))(hn:n<=1000:=by decide):PE X (.List es pos) (tX .F X.K E (QzZ w)):=by
 refine PE.imp (QbN h) λσ H Q ⟨F,δ,R,EX,rel,hw,k,o⟩=>?_
 refine⟨F,δ,_,EX,rel,hw,λds hds hl vs H' rel' kp q=>?_,o⟩;have q':=Qdj q;refine⟨by rw[q'.length,hl];exact hn,λa H2 s n e=>k _ hds _ H2 (rel'.same s) (kp.trans (Kp.same rel' s)) ⟨Qfh (λa ha=>rel'.isl ha) s n e q',QbR (Qbl kp n)⟩⟩
theorem QvR{pos:Pos}:PE X (.Dict [] [] pos) (tX .D X.K E (dC (.dict []))):=by
 refine PE.imp Qs1 λσ H Q ⟨F,δ,R,EX,rel,hw,k,o⟩=>λp hp=>?_
 refine k _ hw _ _ (rel.same (Ji hp)) (Kp.same rel (Ji hp)) (.dct (kvs:=[]) (λz=>?_) Jl rfl);obtain⟨xs,e⟩:=rel.isl z;rw[hp] at e;cases e
def QcU(r:List V->Hp->VK->Prop)(rD:List Qa->(Qa->Prop)->Prop):Prop:=∀(A P:Addr->Prop)(H:Hp)(vs:List V)(ds:List Qa)(R:Qa->Prop)(Q:VK),QcT H->(∀a,A a->∃xs,H a=some (.lst xs))->Z6 (DP A P H) vs ds->rD ds R ->
 (∀d,R d->∀v H',Same H H'->DA A H' v d->FrV H H' v->Q v H')->r vs H Q
def dCB(rD:List Qa->(Qa->Prop)->Prop)(wa:DAr):DE:=λδ Q EX=>wa δ (λds=>rD ds Q) EX
theorem Qnl{n:Nat}{K:PySem.W.Frag}{r:List V->Hp->VK->Prop}{rD:List Qa->(Qa->Prop)->Prop}{wa:DAr}(hd:QcU r rD)(σ:L2.St)(H:Hp)(Q:VK)(h:tX .F K E (dCB rD wa) σ H Q) :
  tCB (λxs H Q=>QcT H->r xs H Q) (tAr n .P K E wa) σ H Q:=by
 obtain⟨F,δ,R,EX,rel,hw,k,o⟩:=h;refine⟨F,δ,_,EX,rel,hw,λds hds hl vs H' rel' kp q ln=>?_,o⟩;refine hd (Av F σ δ) (ZK σ δ) H' vs ds R Q ln (λa ha=>rel'.isl ha) q hds λd hR v H2 s dv fr=>?_
 exact k d hR v H2 (rel'.same s) (kp.trans (Kp.same rel' s)) ⟨dv,λl e1 e2=>Qbl kp (fr l e1 e2)⟩
variable{x:Str}{bid T:String}{p:Pos}{e:QP}{es:List QP}{n:Nat}{wr:DAr}{r:List V->Hp->VK->Prop}{rD:List Qa->(Qa->Prop)->Prop}
theorem QoZ(hc:CallR X (.builtin bid) r)(hd:QcU r rD)(hg:Gl X x)(hm:X.mg x=none)(hv:bootBuiltins x=some (.builtin bid))(ha:PA X (e::es) (tAr n .P X.K E wr))(hn:x ≠ "__name__" := by decide)(hdb:(x == ("__debug__" : Str))=false:=by decide)
  (he:starEach (e::es) X.env=(false,eval e X.env)::starEach es X.env:=by rfl)(hpl:(backTo pos (starEach es X.env)).any (·.1)=false:=by rfl):PE X (.Call (.Name x p) (e::es) [] pos) (tX .F X.K E (dCB rD wr)):=
 PE.imp (Zh (CallR.len hc) hg hm hv ha hn hdb he hpl) (Qnl hd)
theorem Ql6(hc:CallR X (.type T) r)(hd:QcU r rD)(hg:Gl X x)(hm:X.mg x=none)(hv:bootBuiltins x=some (.type T))(ha:PA X (e::es) (tAr n .P X.K E wr))(hn:x ≠ "__name__" := by decide)(hdb:(x == ("__debug__" : Str))=false:=by decide)
  (he:starEach (e::es) X.env=(false,eval e X.env)::starEach es X.env:=by rfl)(hpl:(backTo pos (starEach es X.env)).any (·.1)=false:=by rfl):PE X (.Call (.Name x p) (e::es) [] pos) (tX .F X.K E (dCB rD wr)):=
 PE.imp (Qei (CallR.len hc) hg hm hv ha hn hdb he hpl) (Qnl hd)
theorem pd1{A P:Addr->Prop}{H:Hp}{vs:List V}{d:Qa}(q:Z6 (DP A P H) vs [d]):∃v,vs=[v]/\DP A P H v d:=by
 cases q with
 |cons a b=>cases b;exact⟨_,rfl,a⟩
theorem pd2{A P:Addr->Prop}{H:Hp}{vs:List V}{d d':Qa}(q:Z6 (DP A P H) vs [d,d']):∃v v',vs=[v,v']/\DP A P H v d/\DP A P H v' d':=by
 cases q with
 |cons a b=>cases b with | cons b c=>cases c;exact⟨_,_,rfl,a,b⟩
def QzQ:List Qa->(Qa->Prop)->Prop
 |[.list ds],Q=>Q (.int ds.length)
 |[.tuple ds],Q=>Q (.int ds.length)
 |_,_=>False
theorem QcS{K:PySem.W.Frag}:QcU (Qvm K) QzQ:=λA P H vs ds R Q ln dm q h k=>by
 unfold QzQ at h;split at h
 ·obtain⟨v,rfl,hv⟩:=pd1 q;obtain⟨l,xs,rfl,e,qq⟩:=hv.list;exact⟨l,xs,rfl,.inl (SqL.of e),by rw[qq.length];exact k _ h _ H (Same.refl H) (.int _) Yt⟩
 ·obtain⟨v,rfl,hv⟩:=pd1 q;obtain⟨l,xs,rfl,e,qq⟩:=hv.tuple;exact⟨l,xs,rfl,.inr (SqT.of e),by rw[qq.length];exact k _ h _ H (Same.refl H) (.int _) Yt⟩
 ·exact h.elim
theorem Y0:CallR X (.builtin "len") (Qvm X.K):=Qae
def QtM:List Qa->(Qa->Prop)->Prop
 |[.int i,.int j],Q=>Q (.int (if j<i then j else i))
 |_,_=>False
def Qwp:List Qa->(Qa->Prop)->Prop
 |[.int i,.int j],Q=>Q (.int (if j > i then j else i))
 |_,_=>False
theorem Qnj:QcU (λxs H Q=>∃i j,xs=[.int i,.int j]/\Q (.int (if j<i then j else i)) H) QtM:=λA P H vs ds R Q ln dm q h k=>by
 unfold QtM at h;split at h
 ·obtain⟨v,v',rfl,h1,h2⟩:=pd2 q;rw[h1.int,h2.int];exact⟨_,_,rfl,k _ h _ H (Same.refl H) (.int _) Yt⟩
 ·exact h.elim
theorem Quj:QcU (λxs H Q=>∃i j,xs=[.int i,.int j]/\Q (.int (if j > i then j else i)) H) Qwp:=λA P H vs ds R Q ln dm q h k=>by
 unfold Qwp at h;split at h
 ·obtain⟨v,v',rfl,h1,h2⟩:=pd2 q;rw[h1.int,h2.int];exact⟨_,_,rfl,k _ h _ H (Same.refl H) (.int _) Yt⟩
 ·exact h.elim
def QbY:List Qa->Option (List Bool)
 |[]=>some []
 |.bool b::ds=>(QbY ds).map (b::·)
 |_::_=>none
def QdG:List Qa->Option (List Int)
 |[]=>some []
 |.int b::ds=>(QdG ds).map (b::·)
 |_::_=>none
theorem Qnt(bs:List Bool):QbY (bs.map Ym)=some bs:=by
 induction bs with
 |nil=>rfl
 |cons b bs ih=>rw[JN,QbY,ih];rfl
theorem ints_map(bs:List Int):QdG (bs.map Qq)=some bs:=by
 induction bs with
 |nil=>rfl
 |cons b bs ih=>rw[JN,QdG,ih];rfl
theorem bools_eq:∀{ds:List Qa}{bs:List Bool},QbY ds=some bs->ds=bs.map Ym
 |[],bs,h=>by cases h;rfl
 |d::ds,bs,h=>by
  cases d<;>first | (unfold QbY at h;cases h;done) | skip
  rw[QbY] at h;obtain⟨cs,h1,rfl⟩:=JS.mp h;rw[bools_eq h1];rfl
theorem QmM:∀{ds:List Qa}{bs:List Int},QdG ds=some bs->ds=bs.map Qq
 |[],bs,h=>by cases h;rfl
 |d::ds,bs,h=>by
  cases d<;>first | (unfold QdG at h;cases h;done) | skip
  rw[QdG] at h;obtain⟨cs,h1,rfl⟩:=JS.mp h;rw[QmM h1];rfl
theorem Qhh{A:Addr->Prop}{H:Hp}:∀{bs:List Bool}{xs:List V},DAs A H xs (bs.map Ym)->xs=bs.map V.bl
 |[],_,.nil=>rfl
 |b::bs,_,.cons (.bl _) r=>by rw[Qhh r];rfl
theorem QjH{A:Addr->Prop}{H:Hp}:∀{bs:List Int}{xs:List V},DAs A H xs (bs.map Qq)->xs=bs.map V.int
 |[],_,.nil=>rfl
 |b::bs,_,.cons (.int _) r=>by rw[QjH r];rfl
@[irreducible] def QxF:List Qa->(Qa->Prop)->Prop
 |[.list ds],Q=>∃bs,QbY ds=some bs/\Q (.bool (bs.all id))
 |_,_=>False
theorem Qnk{K:PySem.W.Frag}{cm:Bool}(hc:cm=true):QcU (λxs H Q=>∃(p:Addr)(bs:List Bool),xs=[.ref p]/\SqL K H p (bs.map V.bl)/\cm=true/\Q (.bl (bs.all id)) H) QxF:=λA P H vs ds R Q ln dm q h k=>by
 unfold QxF at h;split at h
 ·obtain⟨v,rfl,hv⟩:=pd1 q;obtain⟨bs,hb,hR⟩:=h;rw[bools_eq hb] at hv;obtain⟨l,xs,rfl,e,qq⟩:=hv.list;rw[Qhh qq] at e;exact⟨l,bs,rfl,SqL.of e,hc,k _ hR _ H (Same.refl H) (.bl _) Qad⟩
 ·exact h.elim
def Qp7:List Qa->(Qa->Prop)->Prop
 |[.list ds],Q=>Q (.tuple ds)
 |[.tuple ds],Q=>Q (.tuple ds)
 |_,_=>False
def Qwr:List Qa->(Qa->Prop)->Prop
 |[.list ds],Q=>Q (.list ds)
 |[.tuple ds],Q=>Q (.list ds)
 |_,_=>False
theorem Qb5{K:PySem.W.Frag}:QcU (QlA K) Qp7:=λA P H vs ds R Q ln dm q h k=>by
 unfold Qp7 at h;split at h
 ·obtain⟨v,rfl,hv⟩:=pd1 q;obtain⟨l,xs,rfl,e,qq⟩:=hv.list;exact⟨l,xs,rfl,.inl ⟨SqL.of e,λl' H' s n e'=>k _ h _ H' s (QeV dm s e' qq) (Qdr e')⟩⟩
 ·obtain⟨v,rfl,hv⟩:=pd1 q;obtain⟨l,xs,rfl,e,qq⟩:=hv.tuple;exact⟨l,xs,rfl,.inr ⟨SqT.of e,k _ h _ H (Same.refl H) (QeV dm (Same.refl H) e qq) (Qdr e)⟩⟩
 ·exact h.elim
theorem Quk{K:PySem.W.Frag}:QcU (QlC K) Qwr:=λA P H vs ds R Q ln dm q h k=>by
 unfold Qwr at h;split at h
 ·obtain⟨v,rfl,hv⟩:=pd1 q;obtain⟨l,xs,rfl,e,qq⟩:=hv.list;exact⟨l,xs,rfl,.inl (SqL.of e),λl' H' s n e'=>k _ h _ H' s (Qfh dm s n e' qq) (QbR n)⟩
 ·obtain⟨v,rfl,hv⟩:=pd1 q;obtain⟨l,xs,rfl,e,qq⟩:=hv.tuple;exact⟨l,xs,rfl,.inr (SqT.of e),λl' H' s n e'=>k _ h _ H' s (Qfh dm s n e' qq) (QbR n)⟩
 ·exact h.elim
def intD:List Qa->(Qa->Prop)->Prop
 |[.int i],Q=>Q (.int i)
 |[.bool k],Q=>Q (.int (if k then 1 else 0))
 |_,_=>False
theorem QrS:QcU Qyv intD:=λA P H vs ds R Q ln dm q h k=>by
 unfold intD at h;split at h
 ·obtain⟨v,rfl,hv⟩:=pd1 q;rw[hv.int];exact .inl ⟨_,rfl,k _ h _ H (Same.refl H) (.int _) Yt⟩
 ·obtain⟨v,rfl,hv⟩:=pd1 q;rw[hv.bool];exact .inr ⟨_,rfl,k _ h _ H (Same.refl H) (.int _) Yt⟩
 ·exact h.elim
end
section
variable{X:Cx}{E:XK}
inductive Tn where | int | bool | str | tuple | list
def Tn.s:Tn->String
 |.int => "int"
 |.bool => "bool"
 |.str => "str"
 |.tuple => "tuple"
 |.list => "list"
def isT:Tn->Qa->Bool
 |.int,.int _=>true
 |.int,.bool _=>true
 |.bool,.bool _=>true
 |.str,.str _=>true
 |.tuple,.tuple _=>true
 |.list,.list _=>true
 |_,_=>false
theorem QtY{K:PySem.W.Frag}{A P:Addr->Prop}{H:Hp}{v:V}{d:Qa}(tn:Tn)(h:DP A P H v d):∃t,TyOf K H v t/\PySem.W.kitOne K t (.type tn.s)=some (isT tn d):=by
 rcases h with h | ⟨l,xs,ds,rfl,rfl,_,e,q⟩
 ·cases h with
  |non=>exact⟨_,.non,by cases tn<;>rfl⟩
  |bl b=>exact⟨_,.bl _,by cases tn<;>rfl⟩
  |int i=>exact⟨_,.int _,by cases tn<;>rfl⟩
  |str x c=>exact⟨_,.str _,by cases tn<;>rfl⟩
  |tup n e q=>exact⟨_,.tup e,by cases tn<;>rfl⟩
  |lst n e q=>exact⟨_,.lst e,by cases tn<;>rfl⟩
  |dct n e q=>exact⟨_,.dK e,by cases tn<;>rfl⟩
 ·exact⟨_,.lst e,by cases tn<;>rfl⟩
def Qw2(tn:Tn)(we:DE):DE:=λδ Q EX=>we δ (λd=>Q (.bool (isT tn d))) EX
theorem Qtm{e f:QP}{we:DE}{p pos:Pos}(tn:Tn)(hg:Gl X "isinstance")(hm:X.mg "isinstance" = none)(he:PE X e (tX .P X.K E we))(hf:PE X f (tC (.ty tn.s)))(h1:notStar e=true:=by rfl)(h2:notStar f=true:=by rfl) :
  PE X (.Call (.Name "isinstance" p) [e,f] [] pos) (tX .F X.K E (Qw2 tn we)):=by
 refine PE.imp (Zh Zx hg hm JR (Qcg he (Qcg hf JQ h2) h1) (he:=Zv h1) (hpl:=by rw[Zv h2];rfl)) λσ H Q ⟨F,δ,R,EX,rel,hw,k,o⟩=>?_
 refine⟨F,δ,_,EX,rel,hw,λd hd v H' rel' kp vk=>?_,o⟩;obtain⟨t,ty,et⟩:=QtY (K:=X.K) tn vk;exact⟨v,t,tn.s,_,rfl,ty,et,k _ hd _ H' rel' kp ⟨.bl _,Qad⟩⟩
theorem QyM{x:Str}{pos:Pos}(tn:Tn)(hg:Gl X x)(hm:X.mg x=none)(hv:bootBuiltins x=some (.type tn.s))(hn:x ≠ "__name__" := by decide)(hd:(x == ("__debug__" : Str))=false:=by decide):PE X (.Name x pos) (tC (.ty tn.s)):=YZ (v:=.ty tn.s) hg hm hv rfl hn hd
abbrev DO:=Sts->(Option Int->Prop)->XP->Prop
def tO(K:PySem.W.Frag)(E:XK)(w:DO):TO:=λσ H Q=>∃(F:Fm)(δ:Sts)(R:Option Int->Prop)(EX:XP),Rel K F σ H δ/\w δ R EX/\(∀d,R d->∀H',Rel K F σ H' δ->Kp σ δ H H'->Q d H')/\Out F E EX
def dNo:DO:=λ_ Q _=>Q none
def dSo(we:DE):DO:=λδ Q EX=>we δ (λd=>match d with
 |.int i=>Q (some i)
 |_=>False) EX
theorem PO.imp{e:Option QP}{t t':TO}(h:PO X e t)(i:∀σ H Q,t' σ H Q->t σ H Q):PO X e t':=λpins s σ H Q I q=>h pins s σ H Q I (i σ H Q q)
theorem QoP:PO X none (tO X.K E dNo):=PO.imp QsX λσ H Q ⟨F,δ,R,EX,rel,hw,k,o⟩=>k _ hw H rel (Kp.refl rel)
theorem QoO{e:QP}{we:DE}(he:PE X e (tX .P X.K E we)):PO X (some e) (tO X.K E (dSo we)):=by
 refine PO.imp (QsW he) λσ H Q ⟨F,δ,R,EX,rel,hw,k,o⟩=>?_
 refine⟨F,δ,_,EX,rel,hw,λd hd v H' rel' kp vk=>?_,o⟩;cases d<;>first | exact(show False from hd).elim | skip
 exact⟨_,DP.int vk,k _ hd H' rel' kp⟩
def cutD(xs:List Qa)(lo hi:Option Int):List Qa:=(xs.drop (HT.sIx xs.length 0 lo)).take (HT.sIx xs.length xs.length hi - HT.sIx xs.length 0 lo)
theorem Qne{A:Addr->Prop}{H:Hp}{xs:List V}{ds:List Qa}(q:DAs A H xs ds)(lo hi:Option Int):DAs A H (QjK xs lo hi) (cutD ds lo hi):=by
 unfold QjK cutD;rw[q.length];exact(q.drop _).take _
def slD(d:Qa)(lo hi:Option Int)(Q:Qa->Prop):Prop:=
 match d with
 |.list ds=>Q (.list (cutD ds lo hi))
 |.tuple ds=>Q (.tuple (cutD ds lo hi))
 |_=>False
def dSl(we:DE)(wl wh:DO):DE:=λδ Q EX=>we δ (λd=>wl δ (λlo=>wh δ (λhi=>slD d lo hi Q) EX) EX) EX
def Qvj(K:PySem.W.Frag):V->Option Int->Option Int->Hp->VK->Prop:=λx a b H Q=>QzA x a b H Q∨Qvi K x a b H Q
theorem QoW{e:QP}{lo hi:Option QP}{we:DE}{wl wh:DO}{p2 pos:Pos}(he:PE X e (tX .P X.K E we))(hl:PO X lo (tO X.K E wl))(hh:PO X hi (tO X.K E wh)):PE X (.Subscript e (.Slice lo hi none p2) pos) (tX .F X.K E (dSl we wl wh)):=by
 refine PE.imp (Qoy (r:=Qvj X.K) (SlR.or2 Qva Qn6) he hl hh) λσ H Q ⟨F,δ,R,EX,rel,hw,k,o⟩=>?_
 refine⟨F,δ,_,EX,rel,hw,λd hd v H1 rel1 kp1 vk=>⟨F,δ,_,EX,rel1,hd,λa ha H2 rel2 kp2=>⟨F,δ,_,EX,rel2,ha,λb hb H3 rel3 kp3=>?_,o⟩,o⟩,o⟩;have v3:=kp3.dp (kp2.dp vk);have K3:=(kp1.trans kp2).trans kp3;cases d<;>first | exact(show False from hb).elim | skip
 ·obtain⟨l,xs,rfl,e,q⟩:=DP.list v3;exact .inr ⟨l,xs,rfl,SqL.of e,λp H' s n e'=>k _ hb _ H' (rel3.same s) (K3.trans (Kp.same rel3 s)) ⟨Qfh (λa ha=>rel3.isl ha) s n e' (Qne q _ _),QbR (Qbl K3 n)⟩⟩
 ·obtain⟨l,xs,rfl,e,q⟩:=DP.tuple v3;exact .inl ⟨l,xs,rfl,e,λp H' s e'=>k _ hb _ H' (rel3.same s) (K3.trans (Kp.same rel3 s)) ⟨QeV (λa ha=>rel3.isl ha) s e' (Qne q _ _),Qdr e'⟩⟩
abbrev DF:=List Sl->(Qa->Prop)->XP->Prop
def Kq(pt:Addr->Prop)(H H':Hp):Prop:=(∀b o,¬pt b->H b=some o->H' b=some o)/\∀p,pt p->∃n,H' p=some (.lst [.int n])
def Zj(fr:Bool)(f:DF):Sp:=λvs H Q Ex=>∃(A pt:Addr->Prop)(args:List Sl)(R:Qa->Prop)(EX:XP),(∀a,A a->∃xs,H a=some (.lst xs))/\(∀p,pt p->A p/\∃n,H p=some (.lst [.int n]))/\Z6 (QhA A pt H) vs args/\f args R EX /\
 (∀d,R d->∀v H',Kq pt H H'->DA A H' v d->(fr=true->FrV H H' v)->Q v H')/\∀C,EX C->∀H',Kq pt H H'->Ex (.ref C) none H'
def Qzz:DSl:=λ_ Q _=>Q []
def sV(we:DE)(wr:DSl):DSl:=λδ Q EX=>we δ (λd=>wr δ (λds=>Q (.v d::ds)) EX) EX
def Qyr(i:Nat)(wr:DSl):DSl:=λδ Q EX=>match δ[i]? with
 |some .pot=>wr δ (λds=>Q (.pot::ds)) EX
 |_=>False
theorem Qtc:PA X [] (tAs X.K E Qzz):=PA.imp JQ λσ H Q ⟨F,δ,R,EX,rel,hw,k,o⟩=>k [] hw [] H rel (Kp.refl rel) .nil
theorem QyH{e:QP}{es:List QP}{we:DE}{wr:DSl}(he:PE X e (tX .D X.K E we))(hr:PA X es (tAs X.K E wr))(hs:notStar e=true:=by rfl):PA X (e::es) (tAs X.K E (sV we wr)):=by
 refine PA.imp (Qcg he hr hs) λσ H Q ⟨F,δ,R,EX,rel,hw,k,o⟩=>?_
 refine⟨F,δ,_,EX,rel,hw,λd hd v H' rel' kp vk=>⟨F,δ,_,EX,rel',hd,λds hds vs H2 rel2 kp2 vks=>?_,o⟩,o⟩;exact k _ hds (v::vs) H2 rel2 (kp.trans kp2) (.cons (kp2.da vk) vks)
theorem Qs9{e:QP}{es:List QP}{i:Nat}{wr:DSl}(he:PE X e (QgF i))(hr:PA X es (tAs X.K E wr))(hs:notStar e=true:=by rfl):PA X (e::es) (tAs X.K E (Qyr i wr)):=by
 refine PA.imp (Qcg he hr hs) λσ H Q ⟨F,δ,R,EX,rel,hw,k,o⟩=>?_
 unfold Qyr at hw;split at hw
 ·rename_i hd
  obtain⟨x,hx⟩:=rel.lt hd;obtain⟨p,n,rfl,e,q⟩:=rel.sl i _ _ hx hd;refine⟨.ref p,hx,F,δ,_,EX,rel,hw,λds hds vs H2 rel2 kp2 vks=>?_,o⟩;exact k _ hds (.ref p::vs) H2 rel2 kp2 (.cons ⟨p,rfl,i,hx,hd⟩ vks)
 ·exact hw.elim
def Qnd(f:DF)(wa:DSl):DE:=λδ Q EX=>wa δ (λargs=>f args Q EX) EX
theorem Kq.kp{K:PySem.W.Frag}{F:Fm}{σ:L2.St}{δ:Sts}{H H':Hp}(k:Kq (ZK σ δ) H H'):Kp σ δ H H':=k
theorem Qhm{m:Md}{fr:Bool}{K:PySem.W.Frag}{f:DF}{wa:DSl}(hm:∀{F:Fm}{σ:L2.St}{δ:Sts}{H H':Hp}{v:V}{d:Qa},DA (Av F σ δ) H' v d->(fr=true->FrV H H' v)->Vok m F σ δ H H' v d)(σ:L2.St)(H:Hp)(Q:VK)(h:tX m K E (Qnd f wa) σ H Q):Qn3 (Zj fr f) [] E (tAs K E wa) σ H Q:=by
 obtain⟨F,δ,R,EX,rel,hw,k,o⟩:=h;refine⟨F,δ,_,EX,rel,hw,λargs ha vs H1 rel1 kp1 q=>?_,o⟩;show Zj fr f (vs++[]) H1 Q E;rw[JB];refine⟨Av F σ δ,ZK σ δ,args,R,EX,λa ha=>rel1.isl ha,λp hp=>⟨Yq hp,(Kp.refl rel1).2 p hp⟩,q,ha,λd hd v H' kq dv fr=>?_,λC hC H' kq=>o C hC H' (rel1.kp kq).ke⟩;exact k d hd v H' (rel1.kp kq) (kp1.trans kq) (hm dv λz l e1 e2=>Qbl kp1 (fr z l e1 e2))
variable{CX:CXT}{k:Nat}{f:Addr}{fd:QN}{ps:List Str}{x:Str}{p pos:Pos}{e:QP}{es:List QP}{fD:DF}{wa:DSl}
theorem Qtp(G:FnOk X.prog X.w X.K X.mg X.base CX k f fd ps (Zj false fD))(hr:Room k X.A)(hg:Gl X x)(hm:X.mg x=some (.ref f))(hk:PySem.W.keepIn X.K (.ref f)=true)(hb:Binds X.K fd ps [])(hx:Qbu CX X E)
  (ha:PA X (e::es) (tAs X.K E wa))(hdb:(x == ("__debug__" : Str))=false:=by decide)(he:starEach (e::es) X.env=(false,eval e X.env)::starEach es X.env:=by rfl)(hpl:(backTo pos (starEach es X.env)).any (·.1)=false:=by rfl) :
  PE X (.Call (.Name x p) (e::es) [] pos) (tX .D X.K E (Qnd fD wa)):=PE.imp (Qdh G hr hg hm hk hb .nil hx ha hdb he hpl) (Qhm λh _=>h)
theorem QoY(G:FnOk X.prog X.w X.K X.mg X.base CX k f fd ps (Zj true fD))(hr:Room k X.A)(hg:Gl X x)(hm:X.mg x=some (.ref f))(hk:PySem.W.keepIn X.K (.ref f)=true)(hb:Binds X.K fd ps [])(hx:Qbu CX X E)
  (ha:PA X (e::es) (tAs X.K E wa))(hdb:(x == ("__debug__" : Str))=false:=by decide)(he:starEach (e::es) X.env=(false,eval e X.env)::starEach es X.env:=by rfl)(hpl:(backTo pos (starEach es X.env)).any (·.1)=false:=by rfl) :
  PE X (.Call (.Name x p) (e::es) [] pos) (tX .F X.K E (Qnd fD wa)):=PE.imp (Qdh G hr hg hm hk hb .nil hx ha hdb he hpl) (Qhm λh z=>⟨h,z rfl⟩)
def scal:Qa->Bool
 |.list _=>false
 |.tuple _=>false
 |.dict _=>false
 |_=>true
theorem Qsp{A A':Addr->Prop}{H:Hp}{v:V}{d:Qa}(h:DA A H v d)(s:scal d=true):DA A' H v d:=by
 cases h with
 |non=>exact .non
 |bl b=>exact .bl b
 |int i=>exact .int i
 |str x c=>exact .str x c
 |tup _ _ _=>cases s
 |lst _ _ _=>cases s
 |dct _ _ _=>cases s
def QAb(P:Addr->Prop)(H:Hp)(vs:List V)(a:Addr):Prop:=V.ref a∈vs/\¬P a
theorem Qhb{A P:Addr->Prop}{H:Hp}(ws:List V):∀{vs:List V}{ds:List Qa},(∀v∈vs,v∈ws)->Z6 (VD .P A P H) vs ds->Z6 (QhA (λa=>A a/\¬QAb P H ws a) (λ_=>False) H) vs (ds.map Sl.v)
 |_,_,_,.nil=>.nil
 |v::vs,d::ds,m,.cons a b=>by
  refine .cons ?_ (Qhb ws (λv hv=>m v (Jk _ hv)) b)
  rcases a with a | ⟨l,xs,ds,rfl,rfl,n,e,q⟩
  ·exact a.mv (λ_ _ _ e=>e) λa z=>.inl z.1
  ·exact .lst (λz=>z.2 ⟨m _ Ze,n⟩) e (q.mv (λ_ _ _ e=>e) λa z=>.inl z.1)
end
abbrev DG:=Qa->Sts->(Sts->Prop)->Prop
def tG(ix:List Nat)(K:PySem.W.Frag)(w:DG):TG:=λv σ H Q=>∃(F:Fm)(δ:Sts)(d:Qa)(R:Sts->Prop),Rel K F σ H δ/\DA (Av F σ δ) H v d/\w d δ R /\
 ∀δ',R δ'->∀σ',Rel K F σ' H δ'->Stp F σ H δ σ' H δ'->σ'.length=σ.length->(∀j,j∉ix->σ'[j]? = σ[j]?)->Q σ' H
theorem Qam{α:Type}{l:List α}{i j:Nat}{x:α}(h:j≠i):(l.set i x)[j]? = l[j]? := QaQ (QcZ h)
theorem set_eq{α:Type}{l:List α}{i:Nat}{x y:α}(h:(l.set i x)[i]? = some y):y=x:=by
 rw[QeF] at h;simp only[if_true] at h;split at h
 ·exact(Qv h).symm
 ·cases h
theorem QeC{F:Fm}{σ:L2.St}{δ:Sts}{i:Nat}{o:Option V}{d:Qa}{a:Addr}(h:Av F (σ.set i o) (δ.set i (.v d)) a):Av F σ δ a:=by
 rcases h with h | ⟨j,h1,h2⟩
 ·exact .inl h
 ·by_cases z:j=i
  ·subst z;rcases h2 with h2 | ⟨ds,h2⟩<;>cases set_eq h2
  ·rw[Qam z] at h1 h2;exact .inr ⟨j,h1,h2⟩
theorem Rel.setv{K:PySem.W.Frag}{F:Fm}{σ:L2.St}{H:Hp}{δ:Sts}(r:Rel K F σ H δ){i:Nat}{v:V}{d:Qa}(q:DA (Av F σ δ) H v d):Rel K F (σ.set i (some v)) H (δ.set i (.v d)) where
 len:=by rw[ZD,ZD];exact r.len
 dom:=r.dom
 dom0:=r.dom0
 pt0:=r.pt0
 kx:=r.kx
 sl:=λj o x h1 h2=>by
  have wk:∀{v:V}{d':Qa},DA (Av F σ δ) H v d'->DA (Av F (σ.set i (some v)) (δ.set i (.v d))) H v d':=λh=>h.mv (λ_ _ _ e=>e) λa z=>.inl (QeC z)
  by_cases z:j=i
  ·subst z;cases set_eq h1;cases set_eq h2;exact⟨v,rfl,q.mv (λ_ _ _ e=>e) λa z=>.inl (QeC z)⟩
  ·rw[Qam z] at h1 h2;have h:=r.sl j o x h1 h2;cases x with
   |no=>trivial
   |v d=>obtain⟨v',e,q'⟩:=h;exact⟨v',e,q'.mv (λ_ _ _ e=>e) λa z=>.inl (QeC z)⟩
   |own ds=>obtain⟨l,xs,e,e2,q',f⟩:=h;exact⟨l,xs,e,e2,q'.mv (λ_ _ _ e=>e) λa z=>.inl (QeC z),f⟩
   |pk ds=>obtain⟨l,xs,e,e2,q',f⟩:=h;exact⟨l,xs,e,e2,q'.mv (λ_ _ _ e=>e) λa z=>.inl (QeC z),f⟩
   |pot=>exact h
   |scr=>exact h
 inj:=λj k a ds h1 h2 ⟨h3,h4⟩=>by
  by_cases z:j=i
  ·subst z;cases set_eq h1
  ·rw[Qam z] at h1 h2;by_cases z2:k=i
   ·subst z2;rcases h4 with h4 | ⟨ds,h4⟩<;>cases set_eq h4
   ·rw[Qam z2] at h3 h4;exact r.inj j k a ds h1 h2 ⟨h3,h4⟩
theorem Stp.setv{F:Fm}{σ:L2.St}{H:Hp}{δ:Sts}{i:Nat}{o:Option V}{d:Qa}:Stp F σ H δ (σ.set i o) H (δ.set i (.v d)):=⟨λ_ _ _ e=>e,λa z=>.inl (QeC z)⟩
def gN(i:Nat):DG:=λd δ Q=>Q (δ.set i (.v d))
def QiY:Sts->List Nat->List Qa->Sts
 |δ,i::is,d::ds=>QiY (δ.set i (.v d)) is ds
 |δ,_,_=>δ
def gTN(is:List Nat):DG:=λd δ Q=>match d with
 |.tuple ds=>ds.length=is.length/\Q (QiY δ is ds)
 |_=>False
section
variable{X:Cx}{E:XK}
theorem PG.imp{e:QP}{t t':TG}(h:PG X e t)(i:∀v σ H Q,t' v σ H Q->t v σ H Q):PG X e t':=λpins s σ H v u Q I r q=>h pins s σ H v u Q I r (i v σ H Q q)
theorem QoV{e:QP}{i:Nat}(h:PG X e (Qeu i)):PG X e (tG [i] X.K (gN i)):=PG.imp h λv σ H Q ⟨F,δ,d,R,rel,dv,hw,k⟩=>
 k _ hw _ (rel.setv dv) Stp.setv (ZD ..) λj hj=>Qam λz=>hj (by rw[z];exact Jh.mpr rfl)
def gNs:List Nat->TGs
 |[]=>Qza
 |i::is=>Qpz (Qeu i) (gNs is)
theorem Qjw{K:PySem.W.Frag}{F:Fm}{H:Hp}{Q:L2.St->Hp->Prop}:∀(is:List Nat)(vs:List V)(ds:List Qa)(σ:L2.St)(δ:Sts),ds.length=is.length->Rel K F σ H δ->DAs (Av F σ δ) H vs ds ->
  (∀σ',Rel K F σ' H (QiY δ is ds)->Stp F σ H δ σ' H (QiY δ is ds)->σ'.length=σ.length->(∀j,j∉is->σ'[j]? = σ[j]?)->Q σ' H)->gNs is vs σ H Q
 |[],vs,ds,σ,δ,hl,rel,q,k=>by
  cases ds with
  |nil=>cases q;exact⟨rfl,k σ rel Stp.refl rfl λ_ _=>rfl⟩
  |cons d ds=>cases hl
 |i::is,vs,ds,σ,δ,hl,rel,q,k=>by
  cases ds with
  |nil=>cases hl
  |cons d ds=>
   cases q with
   |@cons v vs _ _ q qs=>
    refine⟨v,vs,rfl,?_⟩;refine Qjw is vs ds _ _ (by simpa using hl) (rel.setv q) (qs.mv (λ_ _ _ e=>e) λa z=>.inl (QeC z)) λσ' r' st hl' hj=>?_
    refine k σ' r' (Stp.setv.trans st) (by rw[hl',ZD]) λj hn=>?_
    rw[hj j (λz=>hn (Jk _ z)),Qam (λz=>hn (by rw[z];exact Ze))]
theorem Qtj{e:QP}{n:Nat}{is:List Nat}(h:PG X e (Qy9 X.K n (gNs is)))(hn:is.length=n:=by rfl):PG X e (tG is X.K (gTN is)):=PG.imp h λv σ H Q ⟨F,δ,d,R,rel,dv,hw,k⟩=>by
 unfold gTN at hw;split at hw
 ·obtain⟨hl,hR⟩:=hw;cases dv with
  |@tup a xs ds na e q=>
   exact⟨a,xs,rfl,SqT.of e,by rw[q.length,hl,hn],Qjw is xs _ σ δ hl rel q λσ' r' st hl' hj=>k _ hR σ' r' st hl' hj⟩
 ·exact hw.elim
def ItD(A S:Addr->Prop)(J:It)(items:List Qa)(H1:Hp):Prop:=items.length<=sizeLine/\∀(H2:Hp)(A':Addr->Prop),(∀b o,S b->H1 b=some o->H2 b=some o)->(∀b,A' b->A b∨H1 b=none)->(∀a,A' a->∃xs,H2 a=some (.lst xs)) ->
 (∀(i:Nat) d,items[i]? = some d->J.go i H2/\∀x H3,J.yld i H2 x H3->Same H2 H3/\DA A' H3 x d)/\J.stop items.length H2
def Sx(m:Md)(F:Fm)(σ:L2.St)(δ:Sts)(b:Addr):Prop:=
 match m with
 |.P=>¬ZK σ δ b
 |_=>¬Av F σ δ b
abbrev DI:=Sts->(List Qa->Prop)->XP->Prop
def tI(m:Md)(K:PySem.W.Frag)(E:XK)(w:DI):TI:=λσ H R=>∃(F:Fm)(δ:Sts)(R':List Qa->Prop)(EX:XP),Rel K F σ H δ/\w δ R' EX/\(∀items,R' items->∀J H',Rel K F σ H' δ->Kp σ δ H H'->ItD (Av F σ δ) (Sx m F σ δ) J items H'->R J H')/\Out F E EX
theorem PI.imp{tg e:QP}{t t':TI}(h:PI X tg e t)(i:∀σ H R,QcT H->t' σ H R->t σ H R):PI X tg e t':=λpins s σ H R I q=>h pins s σ H R I (i σ H R (Inv.lens I) q)
theorem PI.len{tg e:QP}{t:TI}(h:PI X tg e t):PI X tg e (λσ H R=>t σ H λJ H1=>QcT H1->R J H1):=λpins s σ H R I q=>by
 refine thn (h pins s σ H _ I q) λv s1 h1=>thn h1 λitv s2 h2=>?_
 obtain⟨it,fp,tn,J,H',e,I',T,t0,fo,hR⟩:=h2;exact⟨it,fp,tn,J,H',e,I',T,t0,fo,hR (Inv.lens I')⟩
def Qz1(w:DE):DI:=λδ Q EX=>w δ (λd=>match d with
 |.list ds=>Q ds
 |_=>False) EX
def Qz0(w:DE):DI:=λδ Q EX=>w δ (λd=>match d with
 |.tuple ds=>Q ds
 |_=>False) EX
theorem Qbh{A S:Addr->Prop}{H H2:Hp}{A':Addr->Prop}{xs:List V}{ds:List Qa}(sA:∀b,¬A b->S b)(k:∀b o,S b->H b=some o->H2 b=some o)(m:∀b,A' b->A b∨H b=none)(q:DAs A H xs ds):DAs A' H2 xs ds:=q.mv (λa o n e=>k a o (sA a n) e) m
theorem QyZ{K:PySem.W.Frag}{A S:Addr->Prop}{H:Hp}{l:Addr}{xs:List V}{ds:List Qa}(sA:∀b,¬A b->S b)(sl:S l)(e:H l=some (.lst xs))(q:DAs A H xs ds)(ln:xs.length<=sizeLine):ItD A S (Itl K l) ds H:=by
 refine⟨by rw[<- q.length];exact ln,λH2 A' k m dm=>⟨λi d hd=>?_,xs,SqL.of (k _ _ sl e),by rw[q.length];exact Qi _⟩⟩;obtain⟨x,hx,dx⟩:=(Qbh sA k m q).get i d hd;refine⟨⟨xs,x,SqL.of (k _ _ sl e),hx⟩,λy H3 ⟨e3,hy⟩=>?_⟩;subst e3;have:=hy xs (SqL.of (k _ _ sl e));rw[hx] at this;cases this;exact⟨Same.refl _,dx⟩
theorem QyY{K:PySem.W.Frag}{A S:Addr->Prop}{H:Hp}{l:Addr}{xs:List V}{ds:List Qa}(sA:∀b,¬A b->S b)(sl:S l)(e:H l=some (.tup xs))(q:DAs A H xs ds)(ln:xs.length<=sizeLine):ItD A S (Itt K l) ds H:=by
 refine⟨by rw[<- q.length];exact ln,λH2 A' k m dm=>⟨λi d hd=>?_,xs,SqT.of (k _ _ sl e),by rw[q.length];exact Qi _⟩⟩;obtain⟨x,hx,dx⟩:=(Qbh sA k m q).get i d hd;refine⟨⟨xs,x,SqT.of (k _ _ sl e),hx⟩,λy H3 ⟨e3,hy⟩=>?_⟩;subst e3;have:=hy xs (SqT.of (k _ _ sl e));rw[hx] at this;cases this;exact⟨Same.refl _,dx⟩
theorem QfJ{m:Md}{F:Fm}{σ:L2.St}{δ:Sts}{b:Addr}(h:¬Av F σ δ b):Sx m F σ δ b:=by
 cases m
 ·exact h
 ·exact λz=>h (Yq z)
 ·exact h
theorem stL{m:Md}{F:Fm}{σ:L2.St}{δ:Sts}{H H':Hp}{v:V}{ds:List Qa}(h:VD m (Av F σ δ) (ZK σ δ) H v (.list ds)):∃l xs,v=.ref l/\Sx m F σ δ l/\H l=some (.lst xs)/\DAs (Av F σ δ) H xs ds:=by
 cases m
 ·cases h with | @lst a xs _ n e q=>exact⟨a,xs,rfl,n,e,q⟩
 ·rcases h with h | ⟨l,xs,ds',rfl,e,n,e2,q⟩
  ·cases h with | @lst a xs _ n e q=>exact⟨a,xs,rfl,QfJ n,e,q⟩
  ·cases e;exact⟨l,xs,rfl,n,e2,q⟩
 ·cases h with | @lst a xs _ n e q=>exact⟨a,xs,rfl,n,e,q⟩
theorem stT{m:Md}{F:Fm}{σ:L2.St}{δ:Sts}{H H':Hp}{v:V}{ds:List Qa}(h:VD m (Av F σ δ) (ZK σ δ) H v (.tuple ds)):∃l xs,v=.ref l/\Sx m F σ δ l/\H l=some (.tup xs)/\DAs (Av F σ δ) H xs ds:=by
 cases m
 ·cases h with | @tup a xs _ n e q=>exact⟨a,xs,rfl,n,e,q⟩
 ·rcases h with h | ⟨l,xs,ds',rfl,e,n,e2,q⟩
  ·cases h with | @tup a xs _ n e q=>exact⟨a,xs,rfl,QfJ n,e,q⟩
  ·cases e
 ·cases h with | @tup a xs _ n e q=>exact⟨a,xs,rfl,n,e,q⟩
theorem Qee{m:Md}{F:Fm}{σ:L2.St}{δ:Sts}{H H':Hp}{v:V}{d:Qa}(h:Vok m F σ δ H H' v d):VD m (Av F σ δ) (ZK σ δ) H' v d:=by
 cases m
 ·exact h
 ·exact h
 ·exact h.1
variable{m:Md}{tg e e':QP}{w w':DE}{p pos tpos:Pos}
theorem QoU(h:PE X e (tX m X.K E w)):PI X tg e (tI m X.K E (Qz1 w)):=by
 refine PI.imp (PI.len (QsY h)) λσ H R _ ⟨F,δ,R',EX,rel,hw,k,o⟩=>?_
 refine⟨F,δ,_,EX,rel,hw,λd hd v H' rel' kp vk=>?_,o⟩;cases d<;>first | exact(show False from hd).elim | skip
 obtain⟨l,xs,rfl,sl,e,q⟩:=stL (H':=H') (Qee vk);exact⟨l,rfl,⟨xs,SqL.of e⟩,λln=>k _ hd _ H' rel' kp (QyZ (λb=>QfJ) sl e q (ln _ _ (.inl e)))⟩
theorem Qti(h:PE X e (tX m X.K E w)):PI X tg e (tI m X.K E (Qz0 w)):=by
 refine PI.imp (PI.len (QvD h)) λσ H R _ ⟨F,δ,R',EX,rel,hw,k,o⟩=>?_
 refine⟨F,δ,_,EX,rel,hw,λd hd v H' rel' kp vk=>?_,o⟩;cases d<;>first | exact(show False from hd).elim | skip
 obtain⟨l,xs,rfl,sl,e,q⟩:=stT (H':=H') (Qee vk);exact⟨l,rfl,⟨xs,SqT.of e⟩,λln=>k _ hd _ H' rel' kp (QyY (λb=>QfJ) sl e q (ln _ _ (.inr e)))⟩
def QhL(lo:Int)(n:Nat):List Qa:=(QQ n).map λ(i:Nat)=>.int (lo+i)
theorem QbH{lo:Int}{n i:Nat}{d:Qa}(h:(QhL lo n)[i]? = some d):i<n/\d=.int (lo+i):=by
 unfold QhL at h;rw[QR] at h;by_cases z:i<n
 ·rw[Zl z] at h;exact⟨z,(Qv h).symm⟩
 ·rw[JZ (by rw[Jd];omega)] at h;cases h
theorem Qh2{lo:Int}{n:Nat}:(QhL lo n).length=n:=by unfold QhL;rw[Qg,Jd]
theorem QwA{A S:Addr->Prop}{H:Hp}{lo:Int}{n:Nat}(hn:n<=1000000):ItD A S (Itr lo n) (QhL lo n) H:=by
 refine⟨by rw[Qh2];exact Q2 hn Qf6,λH2 A' k m dm=>⟨λi d hd=>?_,by rw[Qh2];exact Qi _⟩⟩;obtain⟨hi,rfl⟩:=QbH hd;exact⟨hi,λx H3 ⟨e1,e2⟩=>by subst e1 e2;exact⟨Same.refl _,.int _⟩⟩
def Qw0(w:DE):DI:=λδ Q EX=>w δ (λd=>match d with
 |.int j=>(-1000000<=j/\j<=1000000)/\Q (QhL 0 j.toNat)
 |_=>False) EX
def QwZ(w w':DE):DI:=λδ Q EX=>w δ (λd=>w' δ (λd'=>match d,d' with
 |.int i,.int j=>(-1000000<=i/\i<=1000000 /\ -1000000<=j/\j<=1000000/\j - i<=1000000)/\Q (QhL i (j - i).toNat)
 |_,_=>False) EX) EX
theorem QoT(hg:Gl X "range")(hm:X.mg "range" = none)(h:PE X e (tX .P X.K E w))(hs:notStar e=true:=by rfl):PI X tg (.Call (.Name "range" p) [e] [] pos) (tI m X.K E (Qw0 w)):=by
 refine PI.imp (QgY hg hm (Qcg h JQ hs) (by rw[Zv hs];rfl)) λσ H R _ ⟨F,δ,R',EX,rel,hw,k,o⟩=>?_
 refine⟨F,δ,_,EX,rel,hw,λd hd v H' rel' kp vk=>?_,o⟩;cases d<;>first | exact(show False from hd).elim | skip
 obtain⟨⟨h1,h2⟩,hR⟩:=hd;rw[DP.int vk];exact⟨_,rfl,by omega,by omega,k _ hR _ H' rel' kp (QwA (by omega))⟩
theorem QoS(hg:Gl X "range")(hm:X.mg "range" = none)(h:PE X e (tX .P X.K E w))(h':PE X e' (tX .P X.K E w'))(hs:notStar e=true:=by rfl)(hs':notStar e'=true:=by rfl):PI X tg (.Call (.Name "range" p) [e,e'] [] pos) (tI m X.K E (QwZ w w')):=by
 refine PI.imp (QlR hg hm (Qcg h (Qcg h' JQ hs') hs) (by rw[Zv hs,Zv hs'];rfl) (hs2:=by rw[Zv hs'];rfl)) λσ H R _ ⟨F,δ,R',EX,rel,hw,k,o⟩=>?_
 refine⟨F,δ,_,EX,rel,hw,λd hd v H1 rel1 kp1 vk=>⟨F,δ,_,EX,rel1,hd,λd2 hd2 v2 H2 rel2 kp2 vk2=>?_,o⟩,o⟩;cases d<;>cases d2<;>first | exact(show False from hd2).elim | skip
 obtain⟨⟨h1,h2,h3,h4,h5⟩,hR⟩:=hd2;rw[DP.int vk,DP.int vk2];exact⟨_,_,rfl,⟨by omega,by omega,by omega,by omega⟩,k _ hR _ H2 rel2 (kp1.trans kp2) (QwA (by omega))⟩
theorem Qh6{A':Addr->Prop}{H2:Hp}{r:Addr}{x y:V}{d d':Qa}(dm:∀a,A' a->∃xs,H2 a=some (.lst xs))(n:H2 r=none)(q:DA A' H2 x d)(q':DA A' H2 y d'):DA A' (upd H2 r (.tup [x,y])) (.ref r) (.tuple [d,d']):=
 .tup (λz=>by obtain⟨xs,e⟩:=dm r z;rw[n] at e;cases e) Jl (.cons (q.same (Ji n)) (.cons (q'.same (Ji n)) .nil))
def QkD(ds:List Qa):List Qa:=(QQ ds.length).map λ(i:Nat)=>.tuple [.int i,ds.getD i .none]
theorem QjA{ds:List Qa}{i:Nat}{d:Qa}(h:(QkD ds)[i]? = some d):∃e,ds[i]? = some e/\d=.tuple [.int i,e]:=by
 unfold QkD at h;rw[QR] at h;by_cases z:i<ds.length
 ·rw[Zl z] at h;refine⟨ds[i],Ql z,?_⟩;rw[<- Qv h];show YT [.int i,ds.getD i .none]=_;rw[YG,Ql z];rfl
 ·rw[JZ (by rw[Jd];omega)] at h;cases h
theorem Qf9{ds:List Qa}:(QkD ds).length=ds.length:=by unfold QkD;rw[Qg,Jd]
def Qz3(w:DE):DI:=λδ Q EX=>w δ (λd=>match d with
 |.list ds=>Q (QkD ds)
 |_=>False) EX
variable{elts:List QP}
theorem Ql1{x1}(hg:Gl X "enumerate")(hm:X.mg "enumerate" = none)(h:PE X e (tX m X.K E w))(hs:notStar e=true:=by rfl):PI X (.Tuple elts x1 tpos) (.Call (.Name "enumerate" p) [e] [] pos) (tI m X.K E (Qz3 w)):=by
 refine PI.imp (PI.len (QsZ hg hm (Qcg h JQ hs) (by rw[Zv hs];rfl))) λσ H R _ ⟨F,δ,R',EX,rel,hw,k,o⟩=>?_
 refine⟨F,δ,_,EX,rel,hw,λd hd v H' rel' kp vk=>?_,o⟩;cases d<;>first | exact(show False from hd).elim | skip
 obtain⟨l,xs,rfl,sl,e,q⟩:=stL (H':=H') (Qee vk);refine⟨l,xs,rfl,e,λln=>k _ hd _ H' rel' kp ⟨by rw[Qf9,<- q.length];exact ln _ _ (.inl e),λH2 A' kk mm dm=>⟨λi d hd'=>?_,xs,kk _ _ sl e,by rw[Qf9,q.length];exact Qi _⟩⟩⟩;obtain⟨d',hd2,rfl⟩:=QjA hd';obtain⟨x,hx,dx⟩:=(Qbh (S:=Sx m F σ δ) (λb=>QfJ) kk mm q).get i d' hd2;refine⟨⟨xs,x,kk _ _ sl e,hx⟩,λy H3 ⟨r,x',nr,hx',e1,e2⟩=>?_⟩;subst e1 e2;have:=hx' xs (kk _ _ sl e);rw[hx] at this;cases this;exact⟨Ji nr,Qh6 dm nr (.int _) dx⟩
def Qj4(ds es:List Qa):List Qa:=Qx2 (λd e=>.tuple [d,e]) ds es
theorem zip_get{ds es:List Qa}{i:Nat}{d:Qa}(h:(Qj4 ds es)[i]? = some d):∃a b,ds[i]? = some a/\es[i]? = some b/\d=.tuple [a,b]:=by
 unfold Qj4 at h;rw[List.getElem?_zipWith] at h;cases h1:ds[i]? with
 |none=>rw[h1] at h;cases h
 |some a=>
  cases h2:es[i]? with
  |none=>rw[h1,h2] at h;cases h
  |some b=>rw[h1,h2] at h;exact⟨a,b,rfl,rfl,(Qv h).symm⟩
theorem QfD{ds es:List Qa}:(Qj4 ds es).length=min ds.length es.length:=by unfold Qj4;rw[QnM]
def QzT(w w':DE):DI:=λδ Q EX=>w δ (λd=>w' δ (λd'=>match d,d' with
 |.list ds,.list es=>Q (Qj4 ds es)
 |_,_=>False) EX) EX
def QzS(w w':DE):DI:=λδ Q EX=>w δ (λd=>w' δ (λd'=>match d,d' with
 |.tuple ds,.tuple es=>Q (Qj4 ds es)
 |_,_=>False) EX) EX
theorem QoR{x1}(hg:Gl X "zip")(hm:X.mg "zip" = none)(h:PE X e (tX m X.K E w))(h':PE X e' (tX m X.K E w'))(hs:notStar e=true:=by rfl)(hs':notStar e'=true:=by rfl):PI X (.Tuple elts x1 tpos) (.Call (.Name "zip" p) [e,e'] [] pos) (tI m X.K E (QzT w w')):=by
 refine PI.imp (PI.len (QlQ hg hm (Qcg h (Qcg h' JQ hs') hs) (by rw[Zv hs,Zv hs'];rfl) (hs2:=by rw[Zv hs'];rfl))) λσ H R _ ⟨F,δ,R',EX,rel,hw,k,o⟩=>?_
 refine⟨F,δ,_,EX,rel,hw,λd hd v H1 rel1 kp1 vk=>⟨F,δ,_,EX,rel1,hd,λd2 hd2 v2 H2 rel2 kp2 vk2=>?_,o⟩,o⟩;cases d<;>cases d2<;>first | exact(show False from hd2).elim | skip
 obtain⟨l,xs,rfl,sl,e,q⟩:=stL (H':=H2) (kp2.vd (Qee vk));obtain⟨l2,ys,rfl,sl2,e2,q2⟩:=stL (H':=H2) (Qee vk2);refine⟨l,l2,xs,ys,rfl,e,e2,λln=>k _ hd2 _ H2 rel2 (kp1.trans kp2) ⟨?_,λH3 A' kk mm dm=>⟨λi d hd'=>?_,xs,ys,kk _ _ sl e,kk _ _ sl2 e2,by rw[QfD,q.length,q2.length];omega⟩⟩⟩
 ·rw[QfD,<- q.length];exact Q2 (QuK _ _) (ln _ _ (.inl e))
 obtain⟨a,b,ha,hb,rfl⟩:=zip_get hd';obtain⟨x,hx,dx⟩:=(Qbh (S:=Sx m F σ δ) (λb=>QfJ) kk mm q).get i a ha;obtain⟨y,hy,dy⟩:=(Qbh (S:=Sx m F σ δ) (λb=>QfJ) kk mm q2).get i b hb;refine⟨⟨xs,ys,x,y,kk _ _ sl e,kk _ _ sl2 e2,hx,hy⟩,λz H4 ⟨r,x',y',nr,hx',hy',e1,e3⟩=>?_⟩;subst e1 e3;have h1:=hx' xs (kk _ _ sl e);have h2:=hy' ys (kk _ _ sl2 e2);rw[hx] at h1;rw[hy] at h2;cases h1;cases h2;exact⟨Ji nr,Qh6 dm nr dx dy⟩
theorem QoQ{x1}(hg:Gl X "zip")(hm:X.mg "zip" = none)(h:PE X e (tX m X.K E w))(h':PE X e' (tX m X.K E w'))(hs:notStar e=true:=by rfl)(hs':notStar e'=true:=by rfl):PI X (.Tuple elts x1 tpos) (.Call (.Name "zip" p) [e,e'] [] pos) (tI m X.K E (QzS w w')):=by
 refine PI.imp (PI.len (Qrs hg hm (Qcg h (Qcg h' JQ hs') hs) (by rw[Zv hs,Zv hs'];rfl) (hs2:=by rw[Zv hs'];rfl))) λσ H R _ ⟨F,δ,R',EX,rel,hw,k,o⟩=>?_
 refine⟨F,δ,_,EX,rel,hw,λd hd v H1 rel1 kp1 vk=>⟨F,δ,_,EX,rel1,hd,λd2 hd2 v2 H2 rel2 kp2 vk2=>?_,o⟩,o⟩;cases d<;>cases d2<;>first | exact(show False from hd2).elim | skip
 obtain⟨l,xs,rfl,sl,e,q⟩:=stT (H':=H2) (kp2.vd (Qee vk));obtain⟨l2,ys,rfl,sl2,e2,q2⟩:=stT (H':=H2) (Qee vk2);refine⟨l,l2,xs,ys,rfl,e,e2,λln=>k _ hd2 _ H2 rel2 (kp1.trans kp2) ⟨?_,λH3 A' kk mm dm=>⟨λi d hd'=>?_,xs,ys,kk _ _ sl e,kk _ _ sl2 e2,by rw[QfD,q.length,q2.length];omega⟩⟩⟩
 ·rw[QfD,<- q.length];exact Q2 (QuK _ _) (ln _ _ (.inr e))
 obtain⟨a,b,ha,hb,rfl⟩:=zip_get hd';obtain⟨x,hx,dx⟩:=(Qbh (S:=Sx m F σ δ) (λb=>QfJ) kk mm q).get i a ha;obtain⟨y,hy,dy⟩:=(Qbh (S:=Sx m F σ δ) (λb=>QfJ) kk mm q2).get i b hb;refine⟨⟨xs,ys,x,y,kk _ _ sl e,kk _ _ sl2 e2,hx,hy⟩,λz H4 ⟨r,x',y',nr,hx',hy',e1,e3⟩=>?_⟩;subst e1 e3;have h1:=hx' xs (kk _ _ sl e);have h2:=hy' ys (kk _ _ sl2 e2);rw[hx] at h1;rw[hy] at h2;cases h1;cases h2;exact⟨Ji nr,Qh6 dm nr dx dy⟩
end
def Qum:Option Sl->Sl
 |some (.v d)=>.v d
 |some (.own ds)=>.pk ds
 |some (.pk ds)=>.pk ds
 |some .pot=>.pot
 |_=>.no
def QdO(cap:List (Option Nat))(δ:Sts):Sts:=cap.map λo=>match o with
 |none=>.no
 |some j=>Qum δ[j]?
theorem Qd4{cap:List (Option Nat)}{σ:L2.St}{i:Nat}{o:Option V}(h:(Qc0 cap σ)[i]? = some o):(cap[i]? = some none/\o=none)∨∃j,cap[i]? = some (some j)/\o=(σ[j]?).getD none:=by
 unfold Qc0 at h;rw[QR] at h;obtain⟨c,hc,rfl⟩:=JS.mp h;cases c with
 |none=>exact .inl ⟨hc,rfl⟩
 |some j=>exact .inr ⟨j,hc,rfl⟩
theorem Qge{cap:List (Option Nat)}{δ:Sts}{i:Nat}{x:Sl}(h:(QdO cap δ)[i]? = some x):(cap[i]? = some none/\x=.no)∨∃j,cap[i]? = some (some j)/\x=Qum δ[j]? := by
 unfold QdO at h;rw[QR] at h;obtain⟨c,hc,rfl⟩:=JS.mp h;cases c with
 |none=>exact .inl ⟨hc,rfl⟩
 |some j=>exact .inr ⟨j,hc,rfl⟩
theorem QaX{cap:List (Option Nat)}{σ:L2.St}{δ:Sts}{i:Nat}{o:Option V}{x:Sl}(h1:(Qc0 cap σ)[i]? = some o)(h2:(QdO cap δ)[i]? = some x)(hx:x≠.no):∃(j:Nat)(y:Sl),δ[j]? = some y/\x=Qum (some y)/\o=(σ[j]?).getD none:=by
 rcases Qge h2 with⟨_,e⟩ | ⟨j,hj,e⟩
 ·exact absurd e hx
 ·rcases Qd4 h1 with⟨z,_⟩ | ⟨j',hj',e'⟩
  ·rw[hj] at z;cases z
  ·rw[hj] at hj';cases hj';cases e2:δ[j]? with
   |none=>rw[e2] at e;exact absurd e hx
   |some y=>exact⟨j,y,e2,by rw[e,e2],e'⟩
theorem QbW{cap:List (Option Nat)}{σ:L2.St}{δ:Sts}{a:Addr}(h:ZK (Qc0 cap σ) (QdO cap δ) a):ZK σ δ a:=by
 obtain⟨i,h1,h2⟩:=h;obtain⟨j,y,hy,e,eo⟩:=QaX h1 h2 (λz=>by cases z);cases y<;>first | (cases e;done) | skip
 refine⟨j,?_,hy⟩;cases e2:σ[j]? with
 |none=>rw[e2] at eo;cases eo
 |some o'=>rw[e2] at eo;exact congrArg some eo.symm
def inF(A1:Addr->Prop)(cap:List (Option Nat))(σ:L2.St)(δ:Sts)(H:Hp):Fm:=⟨H,A1,ZK (Qc0 cap σ) (QdO cap δ)⟩
theorem Qju{A1:Addr->Prop}{cap:List (Option Nat)}{σ:L2.St}{δ:Sts}{H:Hp}(h:∀a,ZK σ δ a->A1 a){a:Addr}:Av (inF A1 cap σ δ H) (Qc0 cap σ) (QdO cap δ) a↔A1 a:=by
 constructor
 ·rintro(z | ⟨i,h1,h2⟩)
  ·exact z
  ·rcases h2 with h2 | ⟨ds,h2⟩
   ·exact h a (QbW ⟨i,h1,h2⟩)
   ·obtain⟨j,y,hy,e,eo⟩:=QaX h1 h2 (λz=>by cases z);cases y<;>cases e
 ·exact .inl
theorem Qjt{K:PySem.W.Frag}{F:Fm}{σ:L2.St}{δ:Sts}{H1 H3:Hp}{A1:Addr->Prop}{cap:List (Option Nat)}(rel:Rel K F σ H1 δ)(hA:∀a,Av F σ δ a->A1 a)(hN:∀a,A1 a->Av F σ δ a∨H1 a=none)
  (dm:∀a,A1 a->∃xs,H3 a=some (.lst xs))(kp:Kp σ δ H1 H3):Rel K (inF A1 cap σ δ H3) (Qc0 cap σ) H3 (QdO cap δ) where
 len:=by unfold Qc0 QdO;rw[Qg,Qg]
 dom:=dm
 dom0:=dm
 pt0:=λp hp=>⟨hA p (Yq (QbW hp)),kp.2 p (QbW hp)⟩
 kx:=λb o _ e=>e
 sl:=λi o x h1 h2=>by
  have iv:∀{a:Addr},Av (inF A1 cap σ δ H3) (Qc0 cap σ) (QdO cap δ) a->A1 a:=λ{a}=>(Qju λa z=>hA a (Yq z)).mp
  have mv:∀{v:V}{d:Qa},DA (Av F σ δ) H1 v d->DA (Av (inF A1 cap σ δ H3) (Qc0 cap σ) (QdO cap δ)) H3 v d:=λq=>q.mv (λa o n e=>kp.1 a o (λz=>n (Yq z)) e) λa z=>hN a (iv z)
  have mvs:∀{v:List V}{d:List Qa},DAs (Av F σ δ) H1 v d->DAs (Av (inF A1 cap σ δ H3) (Qc0 cap σ) (QdO cap δ)) H3 v d:=λq=>q.mv (λa o n e=>kp.1 a o (λz=>n (Yq z)) e) λa z=>hN a (iv z)
  cases x with
  |no=>trivial
  |own ds=>
   obtain⟨j,y,hy,e,eo⟩:=QaX h1 h2 (λz=>by cases z);cases y<;>cases e
  |scr=>
   obtain⟨j,y,hy,e,eo⟩:=QaX h1 h2 (λz=>by cases z);cases y<;>cases e
  |v d=>
   obtain⟨j,y,hy,e,eo⟩:=QaX h1 h2 (λz=>by cases z);cases y<;>first | (cases e;done) | skip
   cases e;obtain⟨x,hx⟩:=rel.lt hy;obtain⟨v,rfl,q⟩:=rel.sl j _ _ hx hy;rw[hx] at eo;exact⟨v,eo,mv q⟩
  |pk ds=>
   obtain⟨j,y,hy,e,eo⟩:=QaX h1 h2 (λz=>by cases z);cases y<;>first | (cases e;done) | skip
   ·cases e;obtain⟨x,hx⟩:=rel.lt hy;obtain⟨l,xs,rfl,e,q,f⟩:=rel.sl j _ _ hx hy;rw[hx] at eo;have np:=rel.own_pot hy hx;exact⟨l,xs,eo,kp.1 _ _ np e,mvs q,xs,kp.1 _ _ np e,λz=>np (QbW z)⟩
   ·cases e;obtain⟨x,hx⟩:=rel.lt hy;obtain⟨l,xs,rfl,e,q,ys,f,f2⟩:=rel.sl j _ _ hx hy;rw[hx] at eo;have np:¬ZK σ δ l:=by
     rintro⟨j,j1,j2⟩;obtain⟨p,m,e1,_,w⟩:=rel.sl j _ _ j1 j2;cases e1;rcases w with w | w
     ·exact f2 w
     ·rw[w] at f;cases f
    exact⟨l,xs,eo,kp.1 _ _ np e,mvs q,xs,kp.1 _ _ np e,λz=>np (QbW z)⟩
  |pot=>
   obtain⟨j,y,hy,e,eo⟩:=QaX h1 h2 (λz=>by cases z);cases y<;>first | (cases e;done) | skip
   obtain⟨x,hx⟩:=rel.lt hy;obtain⟨p,n,rfl,e,q⟩:=rel.sl j _ _ hx hy;rw[hx] at eo;obtain⟨m,em⟩:=kp.2 p ⟨j,hx,hy⟩;have eo':o=some (.ref p):=eo;subst eo';exact⟨p,m,rfl,em,.inl ⟨i,h1,h2⟩⟩
 inj:=λi j a ds h1 h2 _=>by
  obtain⟨j,y,hy,e,eo⟩:=QaX h2 h1 (λz=>by cases z);cases y<;>cases e
theorem Qla:∀{σ σ':L2.St},σ'.length=σ.length->(∀(i:Nat) v,σ[i]? = some (some v)->σ'[i]? = some (some v))->Wk σ σ'
 |[],[],_,_=>trivial
 |[],_::_,h,_=>by cases h
 |_::_,[],h,_=>by cases h
 |none::a,x::b,h,g=>Qla (σ:=a) (σ':=b) (by simpa using h) λi v e=>by simpa using g (i+1) v (by simpa using e)
 |some u::a,x::b,h,g=>by
  have h0:=g 0 u rfl;simp only[QiH,Option.some.injEq] at h0;subst h0;exact⟨rfl,Qla (σ:=a) (σ':=b) (by simpa using h) λi v e=>by simpa using g (i+1) v (by simpa using e)⟩
def QaR(cap:List (Option Nat))(ix:List Nat):Bool:=ix.all λi=>match cap[i]? with
 |some none=>true
 |_=>false
theorem QrT{cap:List (Option Nat)}{ix:List Nat}(hf:QaR cap ix=true){σ σ4:L2.St}(hl:σ4.length=(Qc0 cap σ).length)(hj:∀j,j∉ix->σ4[j]? = (Qc0 cap σ)[j]?):Wk (Qc0 cap σ) σ4:=by
 refine Qla hl λi v e=>?_
 by_cases z:i∈ix
 ·have:=Jz.mp hf i z;rcases Qd4 e with⟨_,e2⟩ | ⟨j,hj2,_⟩
  ·cases e2
  ·rw[hj2] at this;cases this
 ·rw[hj i z];exact e
def XF:XP:=λ_=>False
@[irreducible] def QiG(items:List Qa)(wg:DG)(wt:DT)(we:DE)(δ:Sts)(Q:Qa->Prop):Prop:=∃Iv:Nat->List Qa->Prop,Iv 0 [] /\
 (∀(i:Nat) acc d,items[i]? = some d->Iv i acc->wg d δ λδ4=>wt δ4 (λb=>if b=true then we δ4 (λe=>Iv (i+1) (acc++[e])) XF else Iv (i+1) acc) XF)/\∀acc,Iv items.length acc->Q (.list acc)
def dComp(cap:List (Option Nat))(wi:DI)(wg:DG)(wt:DT)(we:DE):DE:=λδ Q EX=>wi δ (λitems=>QiG items wg wt we (QdO cap δ) Q) EX
def QrP:DT:=λ_ Q _=>Q true
section
variable{X:Cx}{E:XK}
theorem Qjf{F:Fm}{E:XK}:Out F E XF:=λ_ z=>z.elim
theorem PTs.imp{es:List QP}{t t':TT}(h:PTs X es t)(i:∀σ H Q,t' σ H Q->t σ H Q):PTs X es t':=λpins s σ H Q I q=>h pins s σ H Q I (i σ H Q q)
theorem QoG:PTs X [] (tT X.K E QrP):=PTs.imp QlL λσ H Q ⟨F,δ,R,EX,rel,hw,k,o⟩=>k _ hw H rel (Kp.refl rel)
theorem QoF{c:QP}{t:DT}(h:PT X c (tT X.K E t)):PTs X [c] (tT X.K E t):=QsQ h
theorem Qf8{K:PySem.W.Frag}{A1:Addr->Prop}{cap:List (Option Nat)}{σ σ4:L2.St}{δ δ4:Sts}{H3 H4:Hp}(r:Rel K (inF A1 cap σ δ H3) σ4 H4 δ4)(hk:∀b o,¬ZK σ δ b->H4 b=some o->H3 b=none->False){b:Addr}(h:ZK σ4 δ4 b):ZK σ δ b:=by
 obtain⟨i,h1,h2⟩:=h;obtain⟨p,n,e,hp,w⟩:=r.sl i _ _ h1 h2;cases e;rcases w with w | w
 ·exact QbW w
 ·by_cases z:ZK σ δ b
  ·exact z
  ·exact(hk b _ z hp w).elim
theorem QhV{K:PySem.W.Frag}{F:Fm}{σ:L2.St}{δ:Sts}{H1 H3:Hp}{cap:List (Option Nat)}{ix:List Nat}{wg:DG}{wt:DT}{A1:Addr->Prop}{x:V}{d:Qa}{inner:L2.St->Hp->(Hp->Prop)->Prop}{kk:Hp->Prop}{T:Sts->Prop}{N:Prop}
  (hf:QaR cap ix=true)(rel:Rel K F σ H1 δ)(hA:∀a,Av F σ δ a->A1 a)(hN:∀a,A1 a->Av F σ δ a∨H1 a=none)(dm:∀a,A1 a->∃xs,H3 a=some (.lst xs))(kp:Kp σ δ H1 H3)(dx:DA A1 H3 x d)
  (h:wg d (QdO cap δ) λδ4=>wt δ4 (λb=>if b=true then T δ4 else N) XF)
  (hT:∀σ4 δ4 H5,T δ4->Rel K (inF A1 cap σ δ H3) σ4 H5 δ4->Kp σ δ H3 H5->(∀b,ZK σ4 δ4 b->ZK σ δ b)->inner σ4 H5 kk)(hF:N->∀H5,Kp σ δ H3 H5->kk H5) :
  bOf (Qc0 cap σ) (tG ix K wg) (tT K E0 wt) inner x H3 kk:=by
 have ri:=Qjt (cap:=cap) rel hA hN dm kp;have iv:∀{a:Addr},Av (inF A1 cap σ δ H3) (Qc0 cap σ) (QdO cap δ) a->A1 a:=λ{a}=>(Qju λa z=>hA a (Yq z)).mp
 refine⟨inF A1 cap σ δ H3,QdO cap δ,d,_,ri,dx.mv (λ_ _ _ e=>e) λa z=>.inl (iv z),h,λδ4 h4 σ4 r4 st4 l4 j4=>⟨QrT hf l4 j4,inF A1 cap σ δ H3,δ4,_,XF,r4,h4,λb hb H5 r5 kp5=>?_,Qjf⟩⟩;have pots:∀{b:Addr},ZK σ4 δ4 b->ZK σ δ b:=λz=>Qf8 r4 (λb o _ e1 e2=>by rw[e2] at e1;cases e1) z
 have K5:Kp σ δ H3 H5:=by
  refine⟨λb o n e=>kp5.1 b o (λz=>n (pots z)) e,λb hb=>?_⟩;by_cases z:ZK σ4 δ4 b
  ·exact kp5.2 b z
  ·obtain⟨n,e⟩:=kp.2 b hb;exact⟨n,kp5.1 _ _ z e⟩
 exact Qci hb (λz=>hT σ4 δ4 H5 z r5 K5 λb=>pots) λz=>hF z H5 K5
structure Lp (σ:L2.St) (δ:Sts) (A1:Addr->Prop) (p:Addr) (H1 H2:Hp) (acc:List Qa):Prop where
 kp:Kp σ δ H1 H2
 at_:∃ys,H2 p=some (.lst ys)/\DAs A1 H2 ys acc
theorem Lp.step{σ:L2.St}{δ:Sts}{A1:Addr->Prop}{p:Addr}{H1 H2 H3:Hp}{acc:List Qa}(hpA:∀a,ZK σ δ a->A1 a)(hpn:¬ZK σ δ p)(h:Lp σ δ A1 p H1 H2 acc)(k:Kp σ δ H2 H3):Lp σ δ A1 p H1 H3 acc:=by
 obtain⟨ys,e,q⟩:=h.at_;exact⟨h.kp.trans k,ys,k.1 _ _ hpn e,q.mv (λa o n e=>k.1 a o (λz=>n (hpA a z)) e) λa z=>.inl z⟩
theorem QrM{K:PySem.W.Frag}{σ σ4:L2.St}{δ δ4:Sts}{H1 H3 H5:Hp}{cap:List (Option Nat)}{we:DE}{A1:Addr->Prop}{p:Addr}{acc:List Qa}{kk:Hp->Prop}{G:Qa->Prop}
  (hpA:A1 p)(hP:∀a,ZK σ δ a->A1 a)(hp1:H1 p=none)(hpn:¬ZK σ δ p)(lp:Lp σ δ A1 p H1 H5 acc)(hl:acc.length<sizeLine)(r5:Rel K (inF A1 cap σ δ H3) σ4 H5 δ4)(pots:∀b,ZK σ4 δ4 b->ZK σ δ b)
  (h:we δ4 G XF)(hk:∀e,G e->∀H',Lp σ δ A1 p H1 H' (acc++[e])->kk H'):QuD p (tX .D K E0 we) σ4 H5 kk:=by
 refine⟨inF A1 cap σ δ H3,δ4,G,XF,r5,h,λe he v H6 r6 kp6 dv=>?_,Qjf⟩;have k56:Kp σ δ H5 H6:=by
  refine⟨λb o n e=>kp6.1 b o (λz=>n (pots b z)) e,λb hb=>?_⟩;by_cases z:ZK σ4 δ4 b
  ·exact kp6.2 b z
  ·obtain⟨n,e⟩:=lp.kp.2 b hb;exact⟨n,kp6.1 _ _ z e⟩
 obtain⟨k6,ys,e6,q6⟩:=lp.step hP hpn k56;have up:∀{b:Addr}{o:HO},¬A1 b->H6 b=some o->upd H6 p (.lst (ys++[v])) b=some o:=λ{b o} n e=>by rw[JO (λz=>n (by rw[z];exact hpA))];exact e
 refine⟨ys,e6,by rw[q6.length];exact hl,hk e he _ ⟨⟨λb o n e=>?_,λb hb=>?_⟩,ys++[v],Jl,DAs.app (q6.mv (λ_ _=>up) λa z=>.inl z) (.cons (DA.mv dv (λa o n e=>up (λz=>n (.inl z)) e) λa z=>.inl (.inl z)) .nil)⟩⟩
 ·rw[JO (λz=>by rw[z,hp1] at e;cases e)];exact k6.1 b o n e
 ·rw[JO (λz=>hpn (by rw[<- z];exact hb))];exact k6.2 b hb
theorem Qtn{M:List Str}{cap:List (Option Nat)}{elt tg iter:QP}{ifs:List QP}{scope:Z5}{pos:Pos}{ix:List Nat}{wi:DI}{wg:DG}{wt:DT}{we:DE}(hc:X.calm=true)(ok:Qcr X.N X.env.scope M scope cap=true)(hf:QaR cap ix=true)
  (hi:PI X tg iter (tI .P X.K E wi))(hb:∀cl ex s3 H3 C,PG (blk X M scope cl ex s3 H3 C) tg (tG ix X.K wg)/\PTs (blk X M scope cl ex s3 H3 C) ifs (tT X.K E0 wt)/\PE (blk X M scope cl ex s3 H3 C) elt (tX .D X.K E0 we))
  (hs:∀x,foldedSetIterable iter X.env x=pure x:=by intro _;rfl):PE X (.ListComp elt [⟨tg,iter,ifs,0⟩] scope pos) (tX .F X.K E (dComp cap wi wg wt we)):=by
 refine PE.imp (Qje hc ok hi hb hs) λσ H Q ⟨F,δ,R,EX,rel,hw,k,o⟩=>?_
 refine⟨F,δ,_,EX,rel,hw,λitems hC J H1 rel1 kp1 ⟨ln,it⟩ p hp=>?_,o⟩;unfold QiG at hC;obtain⟨Iv,i0,step,fin⟩:=hC;have hpn:¬ZK σ δ p:=λz=>by obtain⟨xs,e⟩:=rel1.isl (Yq (F:=F) z);rw[hp] at e;cases e
 let A1:Addr->Prop:=λa=>Av F σ δ a∨a=p
 have hP:∀a,ZK σ δ a->A1 a:=λa z=>.inl (Yq z)
 have hN:∀a,A1 a->Av F σ δ a∨H1 a=none:=λa z=>z.elim .inl λz=>.inr (by rw[z];exact hp)
 have dmK:∀{H2:Hp},Kp σ δ H1 H2->(∃ys,H2 p=some (.lst ys))->∀a,A1 a->∃xs,H2 a=some (.lst xs):=λ{H2} k2 e2 a z=>by
  rcases z with z | z
  ·exact(rel1.kp k2).isl z
  ·rw[z];exact e2
 refine QbP items.length (λi H2=>i<=items.length/\∃acc,Iv i acc/\acc.length<=i/\Lp σ δ A1 p H1 H2 acc) ⟨Qw _,[],i0,Qi _,Kp.same rel1 (Ji hp),[],Jl,.nil⟩ (λi H2 hi ⟨_,acc,iv,hl,lp⟩=>?_) λH2 ⟨_,acc,iv,hl,lp⟩=>?_
 ·obtain⟨k2,ys,e2,q2⟩:=lp;obtain⟨go,_⟩:=it H2 A1 (λb o n e=>k2.1 b o n e) hN (dmK k2 ⟨ys,e2⟩);have hd:items[i]? = some items[i]:=Ql hi;obtain⟨g1,g2⟩:=go i _ hd;refine⟨g1,λx H3 y kk hk=>?_⟩;obtain⟨s3,dx⟩:=g2 x H3 y;have k23:=Kp.same (rel1.kp k2) s3;have lp3:Lp σ δ A1 p H1 H3 acc:=Lp.step hP hpn ⟨k2,ys,e2,q2⟩ k23;refine QhV hf rel1 (λa z=>.inl z) hN (dmK lp3.kp ⟨ys,s3 _ _ e2⟩) lp3.kp dx (step i acc _ hd iv) (λσ4 δ4 H5 h5 r5 k5 pots=>?_) λh5 H5 k5=>hk _ ⟨hi,acc,h5,by omega,lp3.step hP hpn k5⟩
  exact QrM (.inr rfl) hP hp hpn (lp3.step hP hpn k5) (by omega) r5 pots h5 λe he H' lp'=>hk _ ⟨hi,acc++[e],he,by rw[Qu];show _+1<=_;omega,lp'⟩
 ·obtain⟨k2,ys,e2,q2⟩:=lp;obtain⟨_,st⟩:=it H2 A1 (λb o n e=>k2.1 b o n e) hN (dmK k2 ⟨ys,e2⟩);refine⟨st,k _ (fin acc iv) (.ref p) H2 (rel1.kp k2) (kp1.trans k2) ⟨.lst (λz=>?_) e2 (q2.mv (λ_ _ _ e=>e) λa z=>.inl (.inl z)),λl e1 _=>?_⟩⟩
  ·obtain⟨xs,e⟩:=rel1.isl z;rw[hp] at e;cases e
  ·cases e1;exact Qbl kp1 hp
theorem QpN{items:List Qa}{wg:DG}{wt:DT}{we:DE}{δ:Sts}{Q:Qa->Prop}(G:Qa->Option Qa)
  (h:∀d∈items,∀(k1:Prop)(k2:Qa->Prop),(G d=none->k1)->(∀e,G d=some e->k2 e)->wg d δ λδ4=>wt δ4 (λb=>if b=true then we δ4 k2 XF else k1) XF)(q:Q (.list (items.filterMap G))) :
  QiG items wg wt we δ Q:=by
 unfold QiG;refine⟨λi acc=>acc=(items.take i).filterMap G,by simp,λi acc d hd e=>?_,λacc e=>by rw[e,ZJ];exact q⟩;have hs:(items.take (i+1)).filterMap G=(items.take i).filterMap G++(G d).toList:=by
  rw[YC,hd,QkU];cases e2:G d<;>simp[e2]
 have e:acc=(items.take i).filterMap G:=e;refine h d (Q9 hd) _ _ (λe2=>?_) λe' e2=>?_
 ·show acc=(items.take (i+1)).filterMap G;rw[hs,e2,e];simp
 ·show acc++[e']=(items.take (i+1)).filterMap G;rw[hs,e2,e];rfl
theorem Qbt{items:List Qa}{wg:DG}{we:DE}{δ:Sts}{Q:Qa->Prop}(G:Qa->Qa)
  (h:∀d∈items,∀(k2:Qa->Prop),k2 (G d)->wg d δ λδ4=>we δ4 k2 XF)(q:Q (.list (items.map G))) :
  QiG items wg QrP we δ Q:=by
 unfold QiG;refine⟨λi acc=>acc=(items.take i).map G,by simp,λi acc d hd e=>?_,λacc e=>by rw[e,ZJ];exact q⟩;have hs:(items.take (i+1)).map G=(items.take i).map G++[G d]:=by
  rw[YC,hd,Jp];simp
 have e:acc=(items.take i).map G:=e;have hh:=h d (Q9 hd) (λe=>acc++[e]=(items.take (i+1)).map G) (by show acc++[G d]=_;rw[hs,e]);simp only[QrP,if_true];exact hh
end
theorem Qm4:∀{a b:List (Int×Int)},dkV a=dkV b->a=b
 |[],[],_=>rfl
 |[],_::_,h=>by cases h
 |_::_,[],h=>by cases h
 |p::a,q::b,h=>by
  have h:=QnX (show(Qby p.1,V.int p.2)::dkV a=(Qby q.1,V.int q.2)::dkV b from h);have h1:=QuJ h.1;rw[Qm4 h.2,Qxq (QjV h1.1) (V.int.inj h1.2)]
mutual
theorem Qm9{A B:Addr->Prop}{H:Hp}:∀(d d':Qa)(x:V),DA A H x d->DA B H x d'->d=d'
 |.none,d',_,.non,h=>by cases h;rfl
 |.bool _,d',_,.bl _,h=>by cases h;rfl
 |.int _,d',_,.int _,h=>by cases h;rfl
 |.str _,d',_,.str _ _,h=>by cases h;rfl
 |.tuple ds,d',_,.tup (xs:=xs) n e q,h=>by
  cases h with
  |@tup a ys es n' e' q'=>
   rw[e] at e';cases e';rw[Qga ds es xs q q']
  |@lst a ys es n' e' q'=>rw[e] at e';cases e'
  |@dct a kvs' ds' n' e' q'=>rw[e] at e';cases e'
 |.list ds,d',_,.lst (xs:=xs) n e q,h=>by
  cases h with
  |@tup a ys es n' e' q'=>rw[e] at e';cases e'
  |@lst a ys es n' e' q'=>
   rw[e] at e';cases e';rw[Qga ds es xs q q']
  |@dct a kvs' ds' n' e' q'=>rw[e] at e';cases e'
 |.dict _,d',_,.dct (kvs:=kvs) n e q,h=>by
  cases h with
  |@tup a ys es n' e' q'=>rw[e] at e';cases e'
  |@lst a ys es n' e' q'=>rw[e] at e';cases e'
  |@dct a kvs' ds' n' e' q'=>
   rw[e] at e';rw[q,q',Qm4 (HO.dK.inj (Qv e'))]
theorem Qga{A B:Addr->Prop}{H:Hp}:∀(ds es:List Qa)(xs:List V),DAs A H xs ds->DAs B H xs es->ds=es
 |[],es,_,.nil,h=>by cases h;rfl
 |d::ds,es,_,.cons q qs,h=>by
  cases h with
  |@cons x xs e es q' qs'=>rw[Qm9 d e _ q q',Qga ds es _ qs qs']
end
mutual
theorem QwU{A:Addr->Prop}{H:Hp}{l:Addr}{rs:List Qa}(root:DA A H (.ref l) (.list rs)):∀(d:Qa)(x:V),sizeOf d<sizeOf (Qag rs)->DA A H x d->DA (λa=>A a∨a=l) H x d
 |.none,_,_,.non=>.non
 |.bool _,_,_,.bl _=>.bl _
 |.int _,_,_,.int _=>.int _
 |.str _,_,_,.str _ c=>.str _ c
 |.tuple ds,_,hs,.tup (a:=a) (xs:=xs) n e q=>.tup (λz=>z.elim n λz=>by subst z;cases root with | @lst _ ys _ n' e' q'=>(rw[e] at e';cases e')) e (Qgb root ds xs (by simp at hs ⊢;omega) q)
 |.list ds,_,hs,.lst (a:=a) (xs:=xs) n e q=>.lst (λz=>z.elim n λz=>by
   subst z;have:=Qm9 _ _ _ root (.lst n e q);rw[this] at hs;omega) e (Qgb root ds xs (by simp at hs ⊢;omega) q)
 |.dict _,_,hs,.dct (a:=a) n e q=>.dct (λz=>z.elim n λz=>by subst z;cases root with | @lst _ ys _ n' e' q'=>(rw[e] at e';cases e')) e q
theorem Qgb{A:Addr->Prop}{H:Hp}{l:Addr}{rs:List Qa}(root:DA A H (.ref l) (.list rs)):∀(ds:List Qa)(xs:List V),sizeOf ds<sizeOf (Qag rs)->DAs A H xs ds->DAs (λa=>A a∨a=l) H xs ds
 |[],_,_,.nil=>.nil
 |d::ds,_,hs,.cons q qs=>.cons (QwU root d _ (by simp at hs ⊢;omega) q) (Qgb root ds _ (by simp at hs ⊢;omega) qs)
end
theorem DA.items{A:Addr->Prop}{H:Hp}{l:Addr}{ds:List Qa}(root:DA A H (.ref l) (.list ds)):∃xs,H l=some (.lst xs)/\DAs (λa=>A a∨a=l) H xs ds:=by
 have root':=root;cases root with
 |@lst _ xs _ n e q=>exact⟨xs,e,Qgb root' ds xs (by simp) q⟩
structure QeE where
 nx:Sts->Prop
 rt:Qa->Prop
 rtF:Qa->Prop
 bk:Sts->Prop
 ct:Sts->Prop
 ex:XP
abbrev DS:=QeE->Sts->Prop
structure Nx (K:PySem.W.Frag) (F:Fm) (σ:L2.St) (H:Hp) (δ:Sts) (R:Sts->Prop) (T:L2.St->Hp->Prop):Prop where
 go:∀δ',R δ'->∀σ' H',Rel K F σ' H' δ'->Stp F σ H δ σ' H' δ'->T σ' H'
structure Ends1 (K:PySem.W.Frag) (E:XK) (F:Fm) (σ:L2.St) (H:Hp) (δ:Sts) (DD:QeE) (D:Ends):Prop where
 nx:Nx K F σ H δ DD.nx D.nx
 rt:∀d,DD.rt d->∀v H',Ke F H'->DA F.A0 H' v d->D.rt v H'
 rtF:∀d,DD.rtF d->∀v H',Ke F H'->DA F.A0 H' v d->FrV F.H0 H' v->D.rt v H'
 bk:Nx K F σ H δ DD.bk D.bk
 ct:Nx K F σ H δ DD.ct D.ct
 ex:Out F E DD.ex
def tS(K:PySem.W.Frag)(E:XK)(w:DS):TS:=λD σ H=>∃(F:Fm)(δ:Sts)(DD:QeE),Rel K F σ H δ/\w DD δ/\Ends1 K E F σ H δ DD D
theorem Nx.step{K:PySem.W.Frag}{F:Fm}{σ σ1:L2.St}{H H1:Hp}{δ δ1:Sts}{R:Sts->Prop}{T:L2.St->Hp->Prop}(h:Nx K F σ H δ R T)(s:Stp F σ H δ σ1 H1 δ1):Nx K F σ1 H1 δ1 R T:=⟨λδ' hR σ' H' r st=>h.go δ' hR σ' H' r (s.trans st)⟩
theorem Ends1.step{K:PySem.W.Frag}{E:XK}{F:Fm}{σ σ1:L2.St}{H H1:Hp}{δ δ1:Sts}{DD:QeE}{D:Ends}(h:Ends1 K E F σ H δ DD D)(s:Stp F σ H δ σ1 H1 δ1):Ends1 K E F σ1 H1 δ1 DD D:=⟨h.nx.step s,h.rt,h.rtF,h.bk.step s,h.ct.step s,h.ex⟩
section
variable{X:Cx}{E:XK}
theorem PS.imp{e:ZZ}{t t':TS}(h:PS X e t)(i:∀D σ H,t' D σ H->t D σ H):PS X e t':=λpins s σ H D I q=>h pins s σ H D I (i D σ H q)
theorem PSs.imp{e:List ZZ}{t t':TS}(h:PSs X e t)(i:∀D σ H,t' D σ H->t D σ H):PSs X e t':=λpins s σ H D I q=>h pins s σ H D I (i D σ H q)
def QzV(a b:DS):DS:=λD δ=>a { D with nx:=b D } δ
def QwX:DS:=λD δ=>D.nx δ
theorem QoH:PSs X [] (tS X.K E QwX):=PSs.imp Qco λD σ H ⟨F,δ,DD,rel,hw,en⟩=>en.nx.go δ hw σ H rel Stp.refl
theorem Qta{st:ZZ}{w:DS}(h:PS X st (tS X.K E w)):PSs X [st] (tS X.K E w):=YY h
theorem QoM{st:ZZ}{rest:List ZZ}{w w':DS}(h:PS X st (tS X.K E w))(h':PSs X rest (tS X.K E w')):PSs X (st::rest) (tS X.K E (QzV w w')):=by
 refine PSs.imp (Zq h h') λD σ H ⟨F,δ,DD,rel,hw,en⟩=>?_
 exact⟨F,δ,_,rel,hw,⟨λδ' h' σ' H' r st=>⟨F,δ',DD,r,h',en.step st⟩⟩,en.rt,en.rtF,en.bk,en.ct,en.ex⟩
def Qzh(i:Nat)(we:DE):DS:=λD δ=>we δ (λd=>D.nx (δ.set i (.v d))) D.ex
def QpL(i:Nat)(we:DE):DS:=λD δ=>we δ (λd=>match d with
 |.list ds=>D.nx (δ.set i (.own ds))
 |_=>False) D.ex
def QwY(i:Nat)(we:DE):DS:=λD δ=>we δ (λd=>match d with
 |.list [.int _]=>D.nx (δ.set i .pot)
 |_=>False) D.ex
variable{i:Nat}{e:QP}{st:ZZ}{we wi:DE}
theorem QlZ(h:PS X st (Qrc (tX .D X.K E we) (Qeu i))):PS X st (tS X.K E (Qzh i we)):=by
 refine PS.imp h λD σ H ⟨F,δ,DD,rel,hw,en⟩=>?_
 refine⟨F,δ,_,DD.ex,rel,hw,λd hd v H' rel' kp vk=>?_,en.ex⟩;exact en.nx.go _ hd _ H' (rel'.setv vk) ((Stp.kp kp).trans Stp.setv)
theorem QrV{F:Fm}{σ:L2.St}{δ:Sts}{i:Nat}{l:Addr}{x:Sl}{a:Addr}(h:Av F (σ.set i (some (.ref l))) (δ.set i x) a):Av F σ δ a∨a=l:=by
 rcases h with h | ⟨j,h1,h2⟩
 ·exact .inl (.inl h)
 ·by_cases z:j=i
  ·subst z;cases set_eq h1;exact .inr rfl
  ·rw[Qam z] at h1 h2;exact .inl (.inr ⟨j,h1,h2⟩)
theorem Rel.seto{K:PySem.W.Frag}{F:Fm}{σ:L2.St}{H H':Hp}{δ:Sts}{l:Addr}{x:Sl}(r:Rel K F σ H δ)(r':Rel K F σ H' δ)(kp:Kp σ δ H H')(n:H l=none)(hx:∀A:Addr->Prop,(∀a,A a->Av F σ δ a∨H a=none)->(∀a,A a->Av F σ δ a∨a=l)->Qz8 K F H' A (some (.ref l)) x) :
  Rel K F (σ.set i (some (.ref l))) H' (δ.set i x)/\Stp F σ H δ (σ.set i (some (.ref l))) H' (δ.set i x):=by
 have nA:∀a,Av F (σ.set i (some (.ref l))) (δ.set i x) a->Av F σ δ a∨H a=none:=λa z=>(QrV z).elim .inl λz=>.inr (by rw[z];exact n)
 have kk:∀a o,¬Av F σ δ a->H a=some o->H' a=some o:=λa o m e=>kp.1 a o (λz=>m (Yq z)) e
 refine⟨?_,⟨kk,nA⟩⟩;exact{
  len:=by rw[ZD,ZD];exact r.len
  dom:=r'.dom
  dom0:=r'.dom0
  pt0:=r'.pt0
  kx:=r'.kx
  sl:=λj o y h1 h2=>by
   by_cases z:j=i
   ·subst z;cases set_eq h1;cases set_eq h2;exact hx _ nA λa z=>QrV z
   ·rw[Qam z] at h1 h2;have h:=r.sl j o y h1 h2;have h':=r'.sl j o y h1 h2;cases y with
    |no=>trivial
    |v d=>obtain⟨v',e,q'⟩:=h;exact⟨v',e,q'.mv kk nA⟩
    |own ds=>obtain⟨l',xs,rfl,e2,q',f⟩:=h;exact⟨l',xs,rfl,kp.1 _ _ (r.own_pot h2 h1) e2,q'.mv kk nA,f⟩
    |pk ds=>
     obtain⟨l',xs,rfl,e2,q',ys,f,f2⟩:=h;refine⟨l',xs,rfl,kp.1 _ _ ?_ e2,q'.mv kk nA,ys,f,f2⟩;rintro⟨j,j1,j2⟩;obtain⟨p,m,e1,_,w⟩:=r.sl j _ _ j1 j2;cases e1;rcases w with w | w
     ·exact f2 w
     ·rw[w] at f;cases f
    |pot=>exact h'
    |scr=>exact h'
  inj:=λj k a ds h1 h2 ⟨h3,h4⟩=>by
   have ne:∀(k:Nat),k≠i->σ[k]? = some (some (.ref l))->(δ[k]? = some .pot∨∃ds,δ[k]? = some (.own ds))->False:=λk _ h3 h4=>by
    obtain⟨xs,e⟩:=r.isl (a:=l) (.inr ⟨k,h3,h4⟩);rw[n] at e;cases e
   by_cases z:j=i
   ·subst z;cases set_eq h2;by_cases z2:k=j
    ·exact z2.symm
    ·rw[Qam z2] at h3 h4;exact(ne k z2 h3 h4).elim
   ·rw[Qam z] at h1 h2;by_cases z2:k=i
    ·subst z2;cases set_eq h3;exact(ne j z h2 (.inr ⟨ds,h1⟩)).elim
    ·rw[Qam z2] at h3 h4;exact r.inj j k a ds h1 h2 ⟨h3,h4⟩ }
theorem Qjx{K:PySem.W.Frag}{F:Fm}{σ:L2.St}{H:Hp}{δ:Sts}(r:Rel K F σ H δ){l:Addr}(n:H l=none):F.H0 l=none:=by
 cases e:F.H0 l with
 |none=>rfl
 |some o=>
  by_cases z:F.pt l
  ·obtain⟨_,m,e'⟩:=r.pt0 l z;rw[n] at e';cases e'
  ·rw[r.kx l o z e] at n;cases n
theorem QfY(h:PS X st (Qrc (tX .F X.K E we) (Qeu i))):PS X st (tS X.K E (QpL i we)):=by
 refine PS.imp h λD σ H ⟨F,δ,DD,rel,hw,en⟩=>?_
 refine⟨F,δ,_,DD.ex,rel,hw,λd hd v H' rel' kp ⟨vk,fr⟩=>?_,en.ex⟩;obtain⟨ds,rfl⟩:∃ds,d=.list ds:=by cases d<;>first | exact⟨_,rfl⟩ | exact(show False from hd).elim
 obtain⟨l,rfl⟩:∃l,v=.ref l:=by cases vk;exact⟨_,rfl⟩
 obtain⟨xs,e,q⟩:=DA.items vk;have n:=fr l rfl ⟨xs,e⟩;obtain⟨r2,st⟩:=rel.seto (i:=i) (x:=.own ds) rel' kp n λA hA hB=>⟨l,xs,rfl,e,q.mv (λ_ _ _ e=>e) λa z=>.inl (hB a z),Qjx rel n⟩
 exact en.nx.go _ hd _ H' r2 st
theorem QoI(h:PS X st (Qrc (tX .F X.K E we) (Qeu i))):PS X st (tS X.K E (QwY i we)):=by
 refine PS.imp h λD σ H ⟨F,δ,DD,rel,hw,en⟩=>?_
 refine⟨F,δ,_,DD.ex,rel,hw,λd hd v H' rel' kp ⟨vk,fr⟩=>?_,en.ex⟩;split at hd
 ·cases vk with
  |@lst l xs ds na e q=>
   have n:=fr l rfl ⟨xs,e⟩;cases q with
   |cons q1 q2=>
    cases q1;cases q2;obtain⟨r2,st⟩:=rel.seto (i:=i) (x:=.pot) rel' kp n λA hA hB=>⟨l,_,rfl,e,.inr (Qjx rel n)⟩
    exact en.nx.go _ hd _ H' r2 st
 ·exact hd.elim
def Qz4(we:DE)(wg:DG):DS:=λD δ=>we δ (λd=>wg d δ D.nx) D.ex
theorem Qtg{ix:List Nat}{wg:DG}(h:PS X st (Qrc (tX .D X.K E we) (tG ix X.K wg))):PS X st (tS X.K E (Qz4 we wg)):=by
 refine PS.imp h λD σ H ⟨F,δ,DD,rel,hw,en⟩=>?_
 refine⟨F,δ,_,DD.ex,rel,hw,λd hd v H' rel' kp vk=>?_,en.ex⟩;exact⟨F,δ,d,_,rel',vk,hd,λδ' h' σ' r' st' _ _=>en.nx.go _ h' _ H' r' ((Stp.kp kp).trans st')⟩
def QzW(we:DE):DS:=λD δ=>we δ D.rt D.ex
def Qua(we:DE):DS:=λD δ=>we δ D.rtF D.ex
theorem QpK{F:Fm}{σ:L2.St}{δ:Sts}{H:Hp}{v:V}{d:Qa}(h:DA (Av F σ δ) H v d):DA F.A0 H v d:=h.mv (λ_ _ _ e=>e) λa z=>.inl (.inl z)
theorem Qs8{e:QP}{pos:Pos}(h:PE X e (tX .D X.K E we)):PS X (.Return (some e) pos) (tS X.K E (QzW we)):=by
 refine PS.imp (QaG h) λD σ H ⟨F,δ,DD,rel,hw,en⟩=>?_
 exact⟨F,δ,_,DD.ex,rel,hw,λd hd v H' rel' kp vk=>en.rt d hd v H' rel'.ke (QpK vk),en.ex⟩
theorem QoK{e:QP}{pos:Pos}(h:PE X e (tX .F X.K E we)):PS X (.Return (some e) pos) (tS X.K E (Qua we)):=by
 refine PS.imp (QaG h) λD σ H ⟨F,δ,DD,rel,hw,en⟩=>?_
 exact⟨F,δ,_,DD.ex,rel,hw,λd hd v H' rel' kp vk=>en.rtF d hd v H' rel'.ke (QpK vk.1) λl e1 e2=>Qjx rel (vk.2 l e1 e2),en.ex⟩
def Qt9(i:Nat):DS:=λD δ=>match δ[i]? with
 |some (.own ds)=>D.rtF (.list ds)
 |some (.v d)=>D.rt d
 |_=>False
theorem QoJ{e:QP}{pos:Pos}(h:PE X e (QgF i)):PS X (.Return (some e) pos) (tS X.K E (Qt9 i)):=by
 refine PS.imp (QaG h) λD σ H ⟨F,δ,DD,rel,hw,en⟩=>?_
 unfold Qt9 at hw;split at hw
 ·rename_i ds hd
  obtain⟨x,hx⟩:=rel.lt hd;obtain⟨l,xs,rfl,e,q,f⟩:=rel.sl i _ _ hx hd;refine⟨_,hx,en.rtF _ hw _ H rel.ke (.lst (λz=>?_) e (q.mv (λ_ _ _ e=>e) λa z=>.inl (.inl z))) λl' e1 _=>by cases e1;exact f⟩;obtain⟨ys,e'⟩:=rel.dom0 l z;rw[f] at e';cases e'
 ·rename_i d hd
  obtain⟨x,hx⟩:=rel.lt hd;obtain⟨v,rfl,q⟩:=rel.sl i _ _ hx hd;exact⟨v,hx,en.rt _ hw _ H rel.ke (QpK q)⟩
 ·exact hw.elim
def dIf(t:DT)(a b:DS):DS:=λD δ=>t δ (λc=>if c=true then a D δ else b D δ) D.ex
theorem QvG{c:QP}{a b:List ZZ}{pos:Pos}{t:DT}{w w':DS}(hc:PT X c (tT X.K E t))(ha:PSs X a (tS X.K E w))(hb:PSs X b (tS X.K E w')):PS X (.If c a b pos) (tS X.K E (dIf t w w')):=by
 refine PS.imp (Qh5 hc ha hb) λD σ H ⟨F,δ,DD,rel,hw,en⟩=>?_
 exact⟨F,δ,_,DD.ex,rel,hw,λb hb H' rel' kp=>Qci hb (λz=>⟨F,δ,DD,rel',z,en.step (Stp.kp kp)⟩) λz=>⟨F,δ,DD,rel',z,en.step (Stp.kp kp)⟩,en.ex⟩
theorem QtF{g:Int->Int->Int}:QrX (ipI g) (ii0 λi j=>.int (g i j)):=λA P H x y d1 d2 R Q ln dm hx hy h k=>by
 cases d1<;>cases d2<;>first | exact h.elim | skip
 rw[hx.int,hy.int];exact⟨_,_,rfl,rfl,k _ h _ H (Same.refl H) (.int _)⟩
theorem PIp.len{op:Qfy}{t:TIp}(h:PIp X op t):PIp X op (λx y H Q=>QcT H->t x y H Q):=λpins s σ H x y v u Q I rx ry q=>h pins s σ H x y v u Q I rx ry (q (Inv.lens I))
theorem Rel.mut{K:PySem.W.Frag}{F:Fm}{σ:L2.St}{H:Hp}{δ:Sts}(r:Rel K F σ H δ){l:Addr}{ds ds':List Qa}{ys:List V}(h:δ[i]? = some (.own ds))(hx:σ[i]? = some (some (.ref l)))(q:DAs (Av F σ δ) H ys ds') :
  Rel K F σ (upd H l (.lst ys)) (δ.set i (.own ds'))/\Stp F σ H δ σ (upd H l (.lst ys)) (δ.set i (.own ds')):=by
 have hl:Av F σ δ l:=.inr ⟨i,hx,.inr ⟨ds,h⟩⟩;obtain⟨l',xs0,e0,el,_,f⟩:=r.sl i _ _ hx h;cases e0;have lt:i < δ.length:=(QY.mp h).1;have ge:(δ.set i (.own ds'))[i]? = some (.own ds'):=by rw[Qai lt]
 have kk:∀a o,¬Av F σ δ a->H a=some o->upd H l (.lst ys) a=some o:=λa o n e=>by rw[JO (λz=>n (by rw[z];exact hl))];exact e
 have av:∀a,Av F σ (δ.set i (.own ds')) a->Av F σ δ a:=λa z=>by
  rcases z with z | ⟨j,h1,h2⟩
  ·exact .inl z
  ·by_cases z:j=i
   ·subst z;exact .inr ⟨j,h1,.inr ⟨ds,h⟩⟩
   ·rw[Qam z] at h2;exact .inr ⟨j,h1,h2⟩
 have up:∀{b:Addr}{o:HO},b≠l->H b=some o->upd H l (.lst ys) b=some o:=λn e=>by rw[JO n];exact e
 refine⟨?_,⟨kk,λa z=>.inl (av a z)⟩⟩;exact{
  len:=by rw[ZD];exact r.len
  dom:=λa ha=>by
   by_cases z:a=l
   ·rw[z];exact⟨_,Jl⟩
   ·obtain⟨xs,e⟩:=r.dom a ha;exact⟨xs,up z e⟩
  dom0:=r.dom0
  pt0:=λp hp=>by
   obtain⟨h1,n,e⟩:=r.pt0 p hp;refine⟨h1,n,up (λz=>?_) e⟩;obtain⟨xs,e'⟩:=r.dom0 p h1;rw[z,f] at e';cases e'
  kx:=λb o n e=>up (λz=>by rw[z,f] at e;cases e) (r.kx b o n e)
  sl:=λj o y h1 h2=>by
   by_cases z:j=i
   ·subst z;rw[ge] at h2;cases h2;rw[hx] at h1;cases h1;exact⟨l,ys,rfl,Jl,q.mv kk λa z=>.inl (av a z),f⟩
   ·rw[Qam z] at h2;have hh:=r.sl j o y h1 h2;cases y with
    |no=>trivial
    |v d=>obtain⟨v',e,q'⟩:=hh;exact⟨v',e,q'.mv kk λa z=>.inl (av a z)⟩
    |own es=>
     obtain⟨l',xs,rfl,e2,q',f'⟩:=hh;exact⟨l',xs,rfl,up (λz2=>z (r.inj j i l' es h2 h1 ⟨by rw[z2];exact hx,.inr ⟨ds,h⟩⟩)) e2,q'.mv kk λa z=>.inl (av a z),f'⟩
    |pk es=>
     obtain⟨l',xs,rfl,e2,q',ys',f',f2⟩:=hh;exact⟨l',xs,rfl,up (λz2=>by rw[z2,f] at f';cases f') e2,q'.mv kk λa z=>.inl (av a z),ys',f',f2⟩
    |pot=>
     obtain⟨p,n,rfl,e2,w⟩:=hh;refine⟨p,n,rfl,up (λz2=>?_) e2,w⟩;subst z2;exact r.own_pot h hx ⟨j,h1,h2⟩
    |scr=>exact hh
  inj:=λj k a es h1 h2 ⟨h3,h4⟩=>by
   have h4':δ[k]? = some .pot∨∃ds,δ[k]? = some (.own ds):=by
    by_cases z:k=i
    ·subst z;exact .inr ⟨ds,h⟩
    ·rw[Qam z] at h4;exact h4
   by_cases z:j=i
   ·subst z;exact r.inj j k a ds h h2 ⟨h3,h4'⟩
   ·rw[Qam z] at h1;exact r.inj j k a es h1 h2 ⟨h3,h4'⟩ }
def Qzl(i:Nat)(we:DE):DS:=λD δ=>match δ[i]? with
 |some (.own ds)=>we δ (λd=>ds.length<1000000/\D.nx (δ.set i (.own (ds++[d])))) D.ex
 |_=>False
theorem Qth(h:PS X st (Qlh (tBM X.K "list" QlE (QgF i) (QdM (tX .D X.K E we) Qra)))):PS X st (tS X.K E (Qzl i we)):=by
 refine PS.imp h λD σ H ⟨F,δ,DD,rel,hw,en⟩=>?_
 unfold Qzl at hw;split at hw
 ·rename_i ds hd
  obtain⟨x,hx⟩:=rel.lt hd;obtain⟨l,xs,rfl,e,q,f⟩:=rel.sl i _ _ hx hd;have np:=rel.own_pot hd hx;refine⟨.ref l,hx,.inl ⟨rfl,_,SqL.of e⟩,F,δ,_,DD.ex,rel,hw,λd ⟨hl,hn⟩ v H' rel' kp vk=>?_,en.ex⟩;have q':=kp.das q;refine⟨l,xs,v,rfl,rfl,kp.1 _ _ np e,QL (by rw[q.length];exact hl) Qf6,?_⟩;obtain⟨r2,st⟩:=rel'.mut hd hx (q'.app (.cons vk .nil));exact en.nx.go _ hn _ _ r2 ((Stp.kp kp).trans st)
 ·exact hw.elim
def Qzj(i:Nat)(we:DE):DS:=λD δ=>match δ[i]? with
 |some (.own ds)=>we δ (λd=>match d with
  |.list es=>ds.length+es.length<=1000000/\D.nx (δ.set i (.own (ds++es)))
  |_=>False) D.ex
 |_=>False
theorem Qtf(h:PS X st (Qlh (tBM X.K "list" QlD (QgF i) (QdM (tX .P X.K E we) Qra)))):PS X st (tS X.K E (Qzj i we)):=by
 refine PS.imp h λD σ H ⟨F,δ,DD,rel,hw,en⟩=>?_
 unfold Qzj at hw;split at hw
 ·rename_i ds hd
  obtain⟨x,hx⟩:=rel.lt hd;obtain⟨l,xs,rfl,e,q,f⟩:=rel.sl i _ _ hx hd;have np:=rel.own_pot hd hx;refine⟨.ref l,hx,.inl ⟨rfl,_,SqL.of e⟩,F,δ,_,DD.ex,rel,hw,λd hd2 v H' rel' kp vk=>?_,en.ex⟩;cases d<;>first | exact(show False from hd2).elim | skip
  obtain⟨hl,hn⟩:=hd2;obtain⟨l2,ys,rfl,e2,q2⟩:=DP.list vk;have q':=kp.das q;refine⟨l,l2,xs,ys,rfl,rfl,kp.1 _ _ np e,e2,Q2 (by rw[q.length,q2.length];exact hl) Qf6,?_⟩;obtain⟨r2,st⟩:=rel'.mut hd hx (q'.app q2);exact en.nx.go _ hn _ _ r2 ((Stp.kp kp).trans st)
 ·exact hw.elim
def dPut(i:Nat)(wi we:DE):DS:=λD δ=>we δ (λd=>match δ[i]? with
 |some (.own ds)=>wi δ (λz=>match z with
  |.int k=>∃j,ixN ds.length k=some j/\D.nx (δ.set i (.own (ds.set j d)))
  |_=>False) D.ex
 |_=>False) D.ex
def Qud(i:Nat)(rD:Qa->Qa->(Qa->Prop)->Prop)(wi we:DE):DS:=λD δ=>match δ[i]? with
 |some (.own ds)=>wi δ (λz=>match z with
  |.int k=>∃j a,ixN ds.length k=some j/\ds[j]? = some a/\we δ (λe=>rD a e λb=>D.nx (δ.set i (.own (ds.set j b)))) D.ex
  |_=>False) D.ex
 |_=>False
theorem QoN{r:TIp}{rD:Qa->Qa->(Qa->Prop)->Prop}(hd:QrX r rD)(h:PS X st (Qu2 (QgF i) (tX .P X.K E wi) (tX .P X.K E we) (QxA X.K) (λx y H Q=>QcT H->r x y H Q) Qvk)):PS X st (tS X.K E (Qud i rD wi we)):=by
 refine PS.imp h λD σ H ⟨F,δ,DD,rel,hw,en⟩=>?_
 unfold Qud at hw;split at hw
 ·rename_i ds hds
  obtain⟨x,hx⟩:=rel.lt hds;obtain⟨l,xs,rfl,e,q,f⟩:=rel.sl i _ _ hx hds;have np:=rel.own_pot hds hx;refine⟨.ref l,hx,F,δ,_,DD.ex,rel,hw,λz hz y H1 rel1 kp1 yk=>?_,en.ex⟩;cases z<;>first | exact(show False from hz).elim | skip
  obtain⟨j,a,hj,ha,hn⟩:=hz;have q1:=kp1.das q;obtain⟨va,hva,da⟩:=q1.get j a ha;rw[DP.int yk];refine⟨l,xs,_,va,rfl,rfl,SqL.of (kp1.1 _ _ np e),by unfold atI;rw[q.length,hj];exact hva,F,δ,_,DD.ex,rel1,hn,λb hb u H2 rel2 kp2 uk ln=>?_,en.ex⟩;refine hd (Av F σ δ) (ZK σ δ) H2 va u a b _ _ ln (λa ha=>rel2.isl ha) (.inl (kp2.da da)) uk hb λc hc w H3 s dw=>?_
  have r3:=rel2.same s;have k3:=kp2.trans (Kp.same rel2 s);refine⟨l,xs,_,j,rfl,rfl,k3.1 _ _ np (kp1.1 _ _ np e),by rw[q.length];exact hj,?_⟩;obtain⟨r4,st⟩:=r3.mut hds hx ((k3.das q1).set dw j);exact en.nx.go _ hc _ _ r4 (((Stp.kp kp1).trans (Stp.kp k3)).trans st)
 ·exact hw.elim
@[irreducible] def Qut(items:List Qa)(wg:DG)(wb:DS)(D:QeE)(δ:Sts):Prop:=∃Iv:Nat->Sts->Prop,Iv 0 δ/\(∀(i:Nat) d δ,items[i]? = some d->Iv i δ->wg d δ λδ2=>wb { D with nx:=Iv (i+1),ct:=Iv (i+1),bk:=D.nx } δ2)/\∀δ,Iv items.length δ->D.nx δ
def dFor(wi:DI)(wg:DG)(wb:DS):DS:=λD δ=>wi δ (λitems=>Qut items wg wb D δ) D.ex
theorem Qte{tg iter:QP}{body:List ZZ}{pos:Pos}{ix:List Nat}{wi:DI}{wg:DG}{wb:DS}(hp:PassesOwn (model X.prog X.w) X.A X.env X.xe)(hc:X.calm=true)(hi:PI X tg iter (tI .D X.K E wi))(hg:PG X tg (tG ix X.K wg))(hb:PSs X body (tS X.K E wb))
  (hs:∀x,foldedSetIterable iter X.env x=pure x:=by intro _;rfl):PS X (.For tg iter body [] pos) (tS X.K E (dFor wi wg wb)):=by
 refine PS.imp (Qrp hp hc hi hg hb hs) λD σ H ⟨F,δ,DD,rel,hw,en⟩=>?_
 refine⟨F,δ,_,DD.ex,rel,hw,λitems hC J H1 rel1 kp1 ⟨ln,it⟩=>?_,en.ex⟩;unfold Qut at hC;obtain⟨Iv,i0,step,fin⟩:=hC;have en1:=en.step (Stp.kp (F:=F) kp1);refine⟨λi m σ' H'=>m=items.length - i/\i<=items.length/\∃δ',Iv i δ'/\Rel X.K F σ' H' δ'/\Stp F σ H1 δ σ' H' δ',⟨_,rfl,Qw _,δ,i0,rel1,Stp.refl⟩,?_⟩;rintro i m σ' H' ⟨rfl,hi',δ',iv,r',st'⟩;obtain⟨go,stop⟩:=it H' (Av F σ' δ') st'.1 st'.2 λa ha=>r'.isl ha
 by_cases hlt:i<items.length
 ·have hd:items[i]? = some items[i]:=Ql hlt;obtain⟨g1,g2⟩:=go i _ hd;refine .inr ⟨g1,λσ2 H2=>∃δ2,Iv (i+1) δ2/\Rel X.K F σ2 H2 δ2/\Stp F σ H1 δ σ2 H2 δ2,λσ2 H2 ⟨δ2,h2,r2,s2⟩=>⟨_,by omega,rfl,hlt,δ2,h2,r2,s2⟩,λx H3 y=>?_⟩;obtain⟨s3,dx⟩:=g2 x H3 y;have r3:=r'.same s3;have st3:Stp F σ H1 δ σ' H3 δ':=st'.trans (Stp.kp (Kp.same r' s3));refine⟨F,δ',_,_,r3,dx,step i _ δ' hd iv,λδ4 h4 σ4 r4 st4 _ _=>⟨F,δ4,_,r4,h4,?_⟩⟩;have st5:=st3.trans st4;exact⟨⟨λδ6 h6 σ6 H6 r6 s6=>⟨δ6,h6,r6,st5.trans s6⟩⟩,en.rt,en.rtF,(en1.step st5).nx,⟨λδ6 h6 σ6 H6 r6 s6=>⟨δ6,h6,r6,st5.trans s6⟩⟩,en.ex⟩
 ·have e:i=items.length:=by omega
  subst e;exact .inl ⟨stop,(en1.step st').nx.go δ' (fin δ' iv) σ' H' r' Stp.refl⟩
theorem Qev{lo:Int}{n:Nat}{wg:DG}{wb:DS}{D:QeE}{δ:Sts}(Iv:Nat->Sts->Prop)(h0:Iv 0 δ)
  (hs:∀(i:Nat) δ,i<n->Iv i δ->wg (.int (lo+i)) δ λδ2=>wb { D with nx:=Iv (i+1),ct:=Iv (i+1),bk:=D.nx } δ2)(hd:∀δ,Iv n δ->D.nx δ):Qut (QhL lo n) wg wb D δ:=by
 unfold Qut;exact⟨Iv,h0,λi d δ hd iv=>by obtain⟨hi,rfl⟩:=QbH hd;exact hs i δ hi iv,λδ iv=>hd δ (by rw[Qh2] at iv;exact iv)⟩
theorem QbS{items:List Qa}{wg:DG}{wb:DS}{D:QeE}{δ:Sts}(Iv:Nat->Sts->Prop)(h0:Iv 0 δ)
  (hs:∀(i:Nat) d δ,items[i]? = some d->Iv i δ->wg d δ λδ2=>wb { D with nx:=Iv (i+1),ct:=Iv (i+1),bk:=D.nx } δ2)(hd:∀δ,Iv items.length δ->D.nx δ):Qut items wg wb D δ:=by
 unfold Qut;exact⟨Iv,h0,hs,hd⟩
def QrO(C:Addr)(we:DE):DS:=λD δ=>we δ (λ_=>D.ex C) D.ex
theorem Ql0{C:Addr}(h:PS X st (Rx.Qp9 E C (tX .P X.K E we))):PS X st (tS X.K E (QrO C we)):=by
 refine PS.imp h λD σ H ⟨F,δ,DD,rel,hw,en⟩=>?_
 exact⟨F,δ,_,DD.ex,rel,hw,λd hd v H' rel' kp vk=>en.ex C hd H' rel'.ke,en.ex⟩
def Qw3(we:DE):DS:=λD δ=>we δ (λ_=>D.nx δ) D.ex
theorem QoL(h:PS X st (Qlh (tX .P X.K E we))):PS X st (tS X.K E (Qw3 we)):=by
 refine PS.imp h λD σ H ⟨F,δ,DD,rel,hw,en⟩=>?_
 exact⟨F,δ,_,DD.ex,rel,hw,λd hd v H' rel' kp vk=>en.nx.go δ hd σ H' rel' (Stp.kp kp),en.ex⟩
theorem Qtb{w:DS}(h:PS X.nox st (tS X.K E0 w)):PS X st (tS X.K E λD δ=>w { D with ex:=XF } δ):=by
 refine PS.imp (Qvz h) λD σ H ⟨F,δ,DD,rel,hw,en⟩=>?_
 exact⟨F,δ,_,rel,hw,en.nx,en.rt,en.rtF,en.bk,en.ct,Qjf⟩
end
def stD(N:List Str)(args:List Sl):Sts:=args++Jc (N.length - args.length) .no
theorem Qfb{α β:Type}{R:α->β->Prop}:∀{xs:List α}{ys:List β},Z6 R xs ys->∀(i:Nat) x y,xs[i]? = some x->ys[i]? = some y->R x y
 |_,_,.nil,i,x,y,h,_=>by simp at h
 |_,_,.cons a b,0,x,y,h,h'=>by simp at h h';subst h h';exact a
 |_,_,.cons a b,i+1,x,y,h,h'=>Qfb b i x y (by simpa using h) (by simpa using h')
theorem QgK{K:PySem.W.Frag}{N:List Str}{A pt:Addr->Prop}{H:Hp}{vs:List V}{args:List Sl}(dm:∀a,A a->∃xs,H a=some (.lst xs))(hp:∀p,pt p->A p/\∃n,H p=some (.lst [.int n]))(q:Z6 (QhA A pt H) vs args):Rel K ⟨H,A,pt⟩ (L2.start N vs) H (stD N args):=by
 have hl:vs.length=args.length:=q.length;have no:∀(i:Nat) x,(stD N args)[i]? = some x->(i<args.length/\args[i]? = some x)∨x=.no:=λi x h=>by
  unfold stD at h;by_cases z:i<args.length
  ·rw[ZM z] at h;exact .inl ⟨z,h⟩
  ·rw[J3 (by omega),Z2] at h;split at h
   ·exact .inr (Qv h).symm
   ·cases h
 have arg:∀(i:Nat) o x,(L2.start N vs)[i]? = some o->(stD N args)[i]? = some x->x≠.no->∃v,o=some v/\QhA A pt H v x:=λi o x h1 h2 hx=>by
  rcases no i x h2 with⟨z,e⟩ | e
  ·unfold L2.start at h1;rw[ZM (by rw[Qg];omega),QR] at h1;obtain⟨v,hv,rfl⟩:=JS.mp h1;exact⟨v,rfl,Qfb q i v x hv e⟩
  ·exact absurd e hx
 have av:∀a,Av ⟨H,A,pt⟩ (L2.start N vs) (stD N args) a->A a:=λa z=>by
  rcases z with z | ⟨i,h1,h2⟩
  ·exact z
  ·rcases h2 with h2 | ⟨ds,h2⟩
   ·obtain⟨v,e,p,rfl,hp'⟩:=arg i _ _ h1 h2 (λz=>by cases z);cases e;exact(hp _ hp').1
   ·obtain⟨v,e,hh⟩:=arg i _ _ h1 h2 (λz=>by cases z);exact hh.elim
 exact{
  len:=by unfold L2.start stD;rw[Qu,Qu,Qg,Qav,Qav,hl]
  dom:=dm
  dom0:=dm
  pt0:=hp
  kx:=λ_ _ _ e=>e
  sl:=λi o x h1 h2=>by
   cases x with
   |no=>trivial
   |v d=>
    obtain⟨v,e,hh⟩:=arg i _ _ h1 h2 (λz=>by cases z);exact⟨v,e,DA.mv hh (λ_ _ _ e=>e) λa z=>.inl (av a z)⟩
   |pot=>
    obtain⟨v,e,p,rfl,hp'⟩:=arg i _ _ h1 h2 (λz=>by cases z);obtain⟨_,n,en⟩:=hp p hp';exact⟨p,n,e,en,.inl hp'⟩
   |own ds=>obtain⟨v,e,hh⟩:=arg i _ _ h1 h2 (λz=>by cases z);exact hh.elim
   |pk ds=>obtain⟨v,e,hh⟩:=arg i _ _ h1 h2 (λz=>by cases z);exact hh.elim
   |scr=>obtain⟨v,e,hh⟩:=arg i _ _ h1 h2 (λz=>by cases z);exact hh.elim
  inj:=λi j a ds h1 h2 _=>by
   obtain⟨v,e,hh⟩:=arg i _ _ h2 h1 (λz=>by cases z);exact hh.elim }
def QAv:Qa->Bool
 |.list _=>false
 |_=>true
def rtD:Bool->(Qa->Prop)->Qa->Prop
 |true,R,d=>QAv d=true/\R d
 |false,R,d=>R d
def Qm0(fr:Bool)(R:Qa->Prop)(EX:XP):QeE:=⟨λ_=>R .none,rtD fr R,R,λ_=>False,λ_=>False,EX⟩
theorem QmZ{K:PySem.W.Frag}{E Ex:XK}{fr:Bool}{A pt:Addr->Prop}{H:Hp}{R:Qa->Prop}{EX EX':XP}{Q:VK}{σ:L2.St}{δ:Sts}(k:∀d,R d->∀v H',Kq pt H H'->DA A H' v d->(fr=true->FrV H H' v)->Q v H')(o:Out ⟨H,A,pt⟩ E EX') :
  Ends1 K E ⟨H,A,pt⟩ σ H δ (Qm0 fr R EX') { nx:=λ_ H'=>Q .non H',rt:=Q } where
 nx:=⟨λδ' hR σ' H' r st=>k _ hR _ H' r.ke .non λ_=>Qt1⟩
 rt:=λd h v H' ke dv=>by
  cases fr with
  |false=>exact k d h v H' ke dv λz=>by cases z
  |true=>
   obtain⟨h1,h2⟩:=h;refine k d h2 v H' ke dv λz l e1 ⟨xs,e2⟩=>?_
   subst e1;cases dv with
   |@tup a ys ds n e q=>rw[e] at e2;cases e2
   |@lst a ys ds n e q=>cases h1
   |@dct a kvs ds n e q=>rw[e] at e2;cases e2
 rtF:=λd h v H' ke dv fr'=>k d h v H' ke dv λ_=>fr'
 bk:=⟨λ_ h=>h.elim⟩
 ct:=⟨λ_ h=>h.elim⟩
 ex:=o
section
variable{P:Qy}{w:Jg}{K:PySem.W.Frag}{mg:Str->Option Value}{base:J5}
theorem okD{x qual:Str}{st:ZZ}{f:Addr}{fd:QN}{N ps:List Str}{k:Nat}{fD:DF}(fr:Bool)(F:Fun K x qual st f fd)(S:Jw N ps (Qt st))(len:∀args R EX,fD args R EX->args.length=ps.length)
  (hbody:∀(cdv:Value)(A:Q5)(outer:List Env)(s:Shared)(H:Hp)(E:XK),Room k (A.deeper (envOfC qual (Qt st) s.heap.objs.size f cdv)) ->
   ∃wd,PSs (cxOf CX0 P w K mg base N qual (Qt st) f cdv A outer s H E).nox (Ju st) (tS K E0 wd)/\∀args R EX,fD args R EX->wd (Qm0 fr R XF) (stD N args)):FnOk P w K mg base CX0 (k+1) f fd ps (Zj fr fD):=by
 refine F.ok S (λvs H Q E h=>?_) λcdv A outer s H vs Q E hr h=>?_
 ·obtain⟨A,pt,args,R,EX,_,_,q,h,_⟩:=h;rw[q.length];exact len _ _ _ h
 ·obtain⟨wd,hp,hw⟩:=hbody cdv A outer s H E hr;obtain⟨A',pt,args,R,EX,dm,hpt,q,h,k,_⟩:=h;exact⟨_,hp,⟨H,A',pt⟩,_,_,QgK dm hpt q,hw args R EX h,QmZ (Ex:=E) (EX:=EX) k Qjf⟩
theorem QAu{x qual:Str}{st:ZZ}{f:Addr}{fd:QN}{N ps:List Str}{k:Nat}{fD:DF}(fr:Bool)(F:Fun K x qual st f fd)(S:Jw N ps (Qt st))(len:∀args R EX,fD args R EX->args.length=ps.length)
  (hbody:∀(cdv:Value)(A:Q5)(outer:List Env)(s:Shared)(H:Hp)(E:XK),Room k (A.deeper (envOfC qual (Qt st) s.heap.objs.size f cdv)) ->
   ∃wd,PSs (cxOf (Rx.CXE P w) P w K mg base N qual (Qt st) f cdv A outer s H E) (Ju st) (tS K E wd)/\∀args R EX,fD args R EX->wd (Qm0 fr R EX) (stD N args)):FnOk P w K mg base (Rx.CXE P w) (k+1) f fd ps (Zj fr fD):=by
 refine Rx.okE F S (λvs H Q E h=>?_) λcdv A outer s H vs Q E hr h=>?_
 ·obtain⟨A,pt,args,R,EX,_,_,q,h,_⟩:=h;rw[q.length];exact len _ _ _ h
 ·obtain⟨wd,hp,hw⟩:=hbody cdv A outer s H E hr;obtain⟨A',pt,args,R,EX,dm,hpt,q,h,k,kx⟩:=h;exact⟨_,hp,⟨H,A',pt⟩,_,_,QgK dm hpt q,hw args R EX h,QmZ (Ex:=E) (EX:=EX) k λC hC H' ke=>kx C hC H' ke⟩
end
end Dl
namespace L2
def Qzw(i j:Int):Prop:=0<j/\j<=10^40
theorem Qo4{X:Cx}:OpR X (binaryOp .FloorDiv) (rI Qzw λi j=>.int (i / j)):=opI λi j _ _ _ _ _ hc q=>by
 have h1:(0:Int)<j:=hc.1;have h2:j<=10^40:=hc.2;refine floordiv_int (by omega) (by rw[QhJ i (by omega)];exact q) (.inl (PyProof.noPylong_of_log2 ?_));have h3:j.natAbs<2^200:=by
  have:(10:Int)^40<2^200:=by decide
  omega
 have:=(Nat.log2_lt (by omega:j.natAbs≠0)).mpr h3;omega
end L2
namespace Rk
open L2 _root_.Rd
def QiU:Sp:=λvs H Q _=>∃p n f,vs=[.ref p,.int f]/\H p=some (.lst [.int n])/\0<f/\f<=10^40/\∀r m,0<=r->r<f->Q (.int r) (upd H p (.lst [.int m]))
end Rk
namespace Dl
open L2 _root_.Rd Rk
theorem Yk{X:Cx}{E:XK}:Qbu CX0 X E:=λ_ _ _ _ _ _ _ h=>h.elim
theorem Room.u60{k:Nat}{A:Q5}(r:Room k A):A.units+60<cLine:=by have:=r.un;omega
theorem Room.i60{k:Nat}{A:Q5}(r:Room k A):A.in1.units+60<cLine:=by
 have:=r.un;show A.units+1+60<cLine;omega
section
variable{X:Cx}{E:XK}{CX:CXT}{k:Nat}{f:Addr}{fd:QN}{ps:List Str}{x:Str}{p pos:Pos}{e:QP}{es:List QP}{fD:DF}
def Qiu(f:DF)(wa:DAr):DE:=λδ Q EX=>wa δ (λds=>f (ds.map Sl.v) (λd=>scal d=true/\Q d) EX) EX
theorem QiB{n:Nat}{fr:Bool}{K:PySem.W.Frag}{f:DF}{wa:DAr}(σ:L2.St)(H:Hp)(Q:VK)(h:tX .F K E (Qiu f wa) σ H Q):Qn3 (Zj fr f) [] E (tAr n .P K E wa) σ H Q:=by
 obtain⟨F,δ,R,EX,rel,hw,k,o⟩:=h;refine⟨F,δ,_,EX,rel,hw,λargs ha _ vs H1 rel1 kp1 q=>?_,o⟩;show Zj fr f (vs++[]) H1 Q E;rw[JB];refine⟨λa=>Av F σ δ a/\¬QAb (ZK σ δ) H1 vs a,λ_=>False,args.map Sl.v,_,EX,λa ha=>rel1.isl ha.1,λp hp=>hp.elim,Qhb vs (λ_ h=>h) q,ha,λd hd v H' kq dv fr=>?_,λC hC H' kq=>o C hC H' (rel1.same λb o e=>kq.1 b o (λz=>z) e).ke⟩;have s:Same H1 H':=λb o e=>kq.1 b o (λz=>z) e
 refine k d hd.2 v H' (rel1.same s) (kp1.trans (Kp.same rel1 s)) ⟨Qsp dv hd.1,λl e1 e2=>?_⟩;subst e1;have hf:=hd.1;cases dv<;>cases hf
theorem Ql7{n:Nat}{fr:Bool}{wr:DAr}(G:FnOk X.prog X.w X.K X.mg X.base CX k f fd ps (Zj fr fD))(hr:Room k X.A)(hg:Gl X x)(hm:X.mg x=some (.ref f))(hk:PySem.W.keepIn X.K (.ref f)=true)(hb:Binds X.K fd ps [])(hx:Qbu CX X E)
  (ha:PA X (e::es) (tAr n .P X.K E wr))(hdb:(x == ("__debug__" : Str))=false:=by decide)(he:starEach (e::es) X.env=(false,eval e X.env)::starEach es X.env:=by rfl)(hpl:(backTo pos (starEach es X.env)).any (·.1)=false:=by rfl) :
  PE X (.Call (.Name x p) (e::es) [] pos) (tX .F X.K E (Qiu fD wr)):=PE.imp (Qdh G hr hg hm hk hb .nil hx ha hdb he hpl) QiB
def Qn2:DF:=λargs R _=>∃f,args=[.pot,.v (.int f)]/\0<f/\f<=10^40/\∀r,0<=r->r<f->R (.int r)
theorem QuZ{vs:List V}{H:Hp}{Q:VK}{Ex:XK}(h:Zj true Qn2 vs H Q Ex):QiU vs H Q Ex:=by
 obtain⟨A,pt,args,R,EX,dm,hp,q,⟨f,rfl,f0,f1,hR⟩,k,_⟩:=h;cases q with
 |cons q1 q2=>cases q2 with
  |cons q2 q3=>
   cases q3;obtain⟨p,rfl,pp⟩:=q1;cases q2;obtain⟨_,n,e⟩:=hp p pp;refine⟨p,n,f,rfl,e,f0,f1,λr m r0 r1=>k _ (hR r r0 r1) _ _ ⟨λb o nb eb=>?_,λz hz=>?_⟩ (.int _) λ_=>Yt⟩
   ·rw[JO (λz=>nb (by rw[z];exact pp))];exact eb
   ·by_cases y:z=p
    ·rw[y];exact⟨m,Jl⟩
    ·obtain⟨_,n',e'⟩:=hp z hz;exact⟨n',by rw[JO y];exact e'⟩
def QyD:DF:=λargs R _=>∃c,args=[.v (.int c)]/\∀n,R (.list [.int n])
theorem QyC{vs:List V}{H:Hp}{Q:VK}{Ex:XK}(h:Zj true QyD vs H Q Ex):Qu8 vs H Q Ex:=by
 obtain⟨A,pt,args,R,EX,dm,hp,q,⟨c,rfl,hR⟩,k,_⟩:=h;cases q with
 |cons q1 q2=>
  cases q2;cases q1;refine⟨c,rfl,λp n hn=>k _ (hR n) _ _ ⟨λb o _ eb=>Ji hn b o eb,λz hz=>?_⟩ (.lst (λz=>?_) Jl (.cons (.int _) .nil)) λ_=>QbR hn⟩
  ·obtain⟨_,n',e'⟩:=hp z hz;exact⟨n',Ji hn _ _ e'⟩
  ·obtain⟨xs,e⟩:=dm p z;rw[hn] at e;cases e
def isW:Qa->Bool
 |.int _=>true
 |_=>false
def QgC:DF:=λargs R _=>∃d,args=[.v d]/\R (.bool (isW d))
def Qst(n:Nat):DF:=λargs R _=>∃d,args=[.v d,.v d]/\nd d=true/\QcP n d=true/\R (.bool true)
theorem Qve{n:Nat}{vs:List V}{H:Hp}{Q:VK}{Ex:XK}(h:Zj false (Qst n) vs H Q Ex):Qh1 (n+1) vs H Q Ex:=by
 obtain⟨A,pt,args,R,EX,dm,hp,q,⟨d,rfl,hn,hf,hR⟩,k,_⟩:=h;cases q with
 |cons q1 q2=>cases q2 with
  |cons q2 q3=>
   cases q3;exact⟨_,_,d,rfl,Qhj d _ hn q1,Qhj d _ hn q2,hf,λH' s=>k _ hR _ H' ⟨λb o _ e=>s b o e,λp hp'=>let ⟨_,n,e⟩:=hp p hp';⟨n,s _ _ e⟩⟩ (.bl _) λz=>by cases z⟩
theorem Qlo{K:PySem.W.Frag}{F:Fm}{σ:L2.St}{H:Hp}{δ:Sts}(r:Rel K F σ H δ){a:Addr}{xs:List V}(h:SqL K F.H0 a xs)(n:¬F.pt a):SqL K H a xs:=by
 rcases h with h | h
 ·rcases h with h | ⟨o,h⟩
  ·exact .inl (.inl (r.kx _ _ n h))
  ·exact .inl (.inr ⟨o,r.kx _ _ n h⟩)
 ·exact .inr h
def Qub(i:Nat):DE:=λδ Q _=>match δ[i]? with
 |some .scr=>∀n:Nat,n<=63->Q (.int n)
 |_=>False
theorem Qtl{i:Nat}{a:QP}(hg:Gl X "len")(hm:X.mg "len" = none)(h:PE X a (QgF i))(hs:notStar a=true:=by rfl):PE X (.Call (.Name "len" p) [a] [] pos) (tX .F X.K E (Qub i)):=by
 refine PE.imp (Zh Qae hg hm QaY (Qcg h JQ hs) (he:=by rw[Zv hs])) λσ H Q ⟨F,δ,R,EX,rel,hw,k,o⟩=>?_
 unfold Qub at hw;split at hw
 ·rename_i hd
  obtain⟨x,hx⟩:=rel.lt hd;obtain⟨l,ns,rfl,sq,np,n63⟩:=rel.sl i _ _ hx hd;refine⟨_,hx,l,_,rfl,.inl (Qlo rel sq np),?_⟩;rw[Qg];exact k _ (hw _ n63) _ H rel (Kp.refl rel) ⟨.int _,Yt⟩
 ·exact hw.elim
def Quc(i:Nat)(wb:DE):DE:=λδ Q EX=>match δ[i]? with
 |some .scr=>wb δ (λd=>match d with
  |.int k=>0<=k/\∀c,Q (.int c)
  |_=>False) EX
 |_=>False
theorem Qto{i:Nat}{a b:QP}{wb:DE}(G:FnOk X.prog X.w X.K X.mg X.base CX0 k f fd ps (QcG X.K))(hr:Room k X.A)(hg:Gl X x)(hm:X.mg x=some (.ref f))(hk:PySem.W.keepIn X.K (.ref f)=true)(hb:Binds X.K fd ps [])
  (ha:PE X a (QgF i))(h:PE X b (tX .P X.K E wb))(h1:notStar a=true:=by rfl)(h2:notStar b=true:=by rfl)(hdb:(x == ("__debug__" : Str))=false:=by decide) :
  PE X (.Call (.Name x p) [a,b] [] pos) (tX .F X.K E (Quc i wb)):=by
 refine PE.imp (Qdh (E:=E) G hr hg hm hk hb .nil Yk (Qcg ha (Qcg h JQ h2) h1) hdb (Zv h1) (by rw[Zv h2];rfl)) λσ H Q ⟨F,δ,R,EX,rel,hw,k,o⟩=>?_
 unfold Quc at hw;split at hw
 ·rename_i hd
  obtain⟨x,hx⟩:=rel.lt hd;obtain⟨l,ns,rfl,sq,np,n63⟩:=rel.sl i _ _ hx hd;refine⟨_,hx,F,δ,_,EX,rel,hw,λd hd2 v H' rel' kp vk=>?_,o⟩;cases d<;>first | exact(show False from hd2).elim | skip
  rw[DP.int vk];exact⟨l,ns,_,rfl,Qlo rel' sq np,Yn n63 (by decide),hd2.1,λc=>k _ (hd2.2 c) _ H' rel' kp ⟨.int _,Yt⟩⟩
 ·exact hw.elim
end
section
variable{P:Qy}{w:Jg}{K:PySem.W.Frag}{mg:Str->Option Value}{base:J5}
def QeW(K:PySem.W.Frag):Sp:=λvs H Q _=>∃(a:Addr)(ns:List Int),vs=[.ref a]/\SqL K H a (ns.map V.int)/\ns.length<=63/\∀H',Q (.bl true) H'
def QwN:QeE:=⟨λ_=>False,λd=>d=.bool true,λd=>d=.bool true,λ_=>False,λ_=>False,XF⟩
theorem QyU{x qual:Str}{st:ZZ}{f:Addr}{fd:QN}{N:List Str}{p:Str}{k:Nat}(F:Fun K x qual st f fd)(S:Jw N [p] (Qt st))
  (hbody:∀(cdv:Value)(A:Q5)(outer:List Env)(s:Shared)(H:Hp)(E:XK),Room k (A.deeper (envOfC qual (Qt st) s.heap.objs.size f cdv)) ->
   ∃wd,PSs (cxOf CX0 P w K mg base N qual (Qt st) f cdv A outer s H E).nox (Ju st) (tS K E0 wd)/\wd QwN (stD N [.scr])):FnOk P w K mg base CX0 (k+1) f fd [p] (QeW K):=by
 refine F.ok S (λvs H Q E h=>?_) λcdv A outer s H vs Q E hr h=>?_
 ·obtain⟨a,ns,rfl,_⟩:=h;rfl
 ·obtain⟨wd,hp,hw⟩:=hbody cdv A outer s H E hr;obtain⟨a,ns,rfl,sq,n63,k⟩:=h;have get0:∀(i:Nat) o y,(L2.start N [V.ref a])[i]? = some o->(stD N [.scr])[i]? = some y->y≠.no->o=some (.ref a)/\y=.scr:=λi o y h1 h2 hy=>by
   cases i with
   |zero=>cases h1;cases h2;exact⟨rfl,rfl⟩
   |succ i=>
    unfold stD at h2;rw[J3 (by simp),Z2] at h2;split at h2
    ·exact absurd (Qv h2).symm hy
    ·cases h2
  have noav:∀b,¬Av (⟨H,λ_=>False,λ_=>False⟩:Fm) (L2.start N [V.ref a]) (stD N [.scr]) b:=λb z=>by
   rcases z with z | ⟨i,h1,h2⟩
   ·exact z
   ·rcases h2 with h2 | ⟨ds,h2⟩
    ·cases(get0 i _ _ h1 h2 (λz=>by cases z)).2
    ·cases(get0 i _ _ h1 h2 (λz=>by cases z)).2
  refine⟨_,hp,⟨H,λ_=>False,λ_=>False⟩,_,_,?_,hw,?_⟩
  ·exact{
    len:=by unfold L2.start stD;simp
    dom:=λ_ h=>h.elim
    dom0:=λ_ h=>h.elim
    pt0:=λ_ h=>h.elim
    kx:=λ_ _ _ e=>e
    sl:=λi o y h1 h2=>by
     cases y with
     |no=>trivial
     |scr=>
      obtain⟨rfl,_⟩:=get0 i _ _ h1 h2 (λz=>by cases z);exact⟨a,ns,rfl,sq,λz=>z,n63⟩
     |v d=>cases(get0 i _ _ h1 h2 (λz=>by cases z)).2
     |own d=>cases(get0 i _ _ h1 h2 (λz=>by cases z)).2
     |pk d=>cases(get0 i _ _ h1 h2 (λz=>by cases z)).2
     |pot=>cases(get0 i _ _ h1 h2 (λz=>by cases z)).2
    inj:=λi j b ds h1 h2 _=>by cases(get0 i _ _ h2 h1 (λz=>by cases z)).2 }
  ·exact{
    nx:=⟨λ_ h=>h.elim⟩
    rt:=λd h v H' ke dv=>by cases(show d=.bool true from h);cases dv;exact k H'
    rtF:=λd h v H' ke dv _=>by cases(show d=.bool true from h);cases dv;exact k H'
    bk:=⟨λ_ h=>h.elim⟩
    ct:=⟨λ_ h=>h.elim⟩
    ex:=Qjf }
end
theorem Qnz{α:Type}{p:α->Prop}:∀x∈([]:List α),p x:=λ_ h=>nomatch h
theorem Zy{α:Type}{p:α->Prop}{a:α}{l:List α}(h:p a)(t:∀x∈l,p x):∀x∈a::l,p x:=λx hx=>by
 rcases Qz.mp hx with z | z
 ·rw[z];exact h
 ·exact t x z
theorem Qxf{b c:Bool}{R:Qa->Prop}(h:R (.bool (b&&c))):if b=true then R (.bool c) else R (.bool false):=by
 cases b
 ·exact Qin h
 ·exact Qf7 h
theorem Qgk{b c:Bool}{R:Qa->Prop}{Pk:Prop}(h:R (.bool (b&&c)))(k:b=true->R (.bool c)->Pk):if b=true then Pk else R (.bool false):=by
 cases b
 ·exact Qin h
 ·exact Qf7 (k rfl h)
theorem ifF{c:Bool}{A B:Prop}(h:c=false)(k:B):if c=true then A else B:=by subst h;exact k
theorem ifT{c:Bool}{A B:Prop}(h:c=true)(k:A):if c=true then A else B:=by subst h;exact k
theorem ifC{c:Bool}{A B:Prop}(t:c=true->A)(f:c=false->B):if c=true then A else B:=by
 cases c
 ·exact f rfl
 ·exact t rfl
theorem all_map{α:Type}(l:List α)(g:α->Bool):(l.map g).all id=l.all g:=by
 rw[List.all_map];rfl
theorem Qgl{ds:List Qa}{Q:Qa->Prop}{g:Qa->Bool}{items:List Qa}(h:ds=[.list (items.map λd=>.bool (g d))])(q:Q (.bool (items.all g))):QxF ds Q:=by
 subst h;unfold QxF;refine⟨items.map g,?_,by rw[all_map];exact q⟩;rw[show items.map (λd=>Ym (g d))=(items.map g).map Ym by rw[Jr];rfl,Qnt]
end Dl
namespace L2
section
variable{X:Cx}
end
end L2
namespace Dl
open L2 _root_.Rd Rk
section
variable{X:Cx}{E:XK}
def Qys(d:Qa)(Q:Qa->Prop):Prop:=
 match d with
 |.list ds=>Q (.list ds.reverse)
 |_=>False
def QAL(we ws:DE):DE:=λδ Q EX=>we δ (λd=>ws δ (λs=>(match s with | .int i=>i = -1 | _=>False)/\Qys d Q) EX) EX
def QwW(w:DE):DE:=λδ Q EX=>w δ (λd=>match d with
 |.int j=>(-1000<=j/\j<=1000)/\Q (.tuple ((QQ j.toNat).map λ(i:Nat)=>.int i))
 |_=>False) EX
theorem Qt7{A:Addr->Prop}{H:Hp}(l:List Nat):DAs A H (l.map λ(i:Nat)=>V.int (i:Nat)) (l.map λ(i:Nat)=>Qq (i:Nat)):=by
 induction l with
 |nil=>exact .nil
 |cons i l ih=>exact .cons (.int _) ih
variable{e:QP}{w:DE}{p p2 pos pos2:Pos}
theorem Ql4(hg:Gl X "tuple")(hm:X.mg "tuple" = none)(hg2:Gl X "range")(hm2:X.mg "range" = none)(h:PE X e (tX .P X.K E w))(hc:X.calm=true:=by rfl)(hs:notStar e=true:=by rfl):PE X (.Call (.Name "tuple" p) [.Call (.Name "range" p2) [e] [] pos2] [] pos) (tX .F X.K E (QwW w)):=by
 refine PE.imp (Qei (Qiz hc) hg hm YF (Qcg (Qjd hg2 hm2 (Qcg h JQ hs) (by rw[Zv hs];rfl)) JQ)) λσ H Q ⟨F,δ,R,EX,rel,hw,k,o⟩=>?_
 refine⟨F,δ,_,EX,rel,hw,λd hd v H1 rel1 kp1 vk=>?_,o⟩;cases d<;>first | exact(show False from hd).elim | skip
 obtain⟨⟨h1,h2⟩,hR⟩:=hd;rw[DP.int vk];refine⟨_,rfl,λr H2 s2 n2 e2=>⟨r,_,rfl,e2,h1,h2,λt H3 s3 n3 e3=>?_⟩⟩;have r2:=rel1.same s2;have K3:=(kp1.trans (Kp.same rel1 s2)).trans (Kp.same r2 s3);exact k _ hR _ H3 (r2.same s3) K3 ⟨QeV (λa ha=>r2.isl ha) s3 e3 (Qt7 _),Qdr e3⟩
end
theorem Qxe{ds:List Qa}{i:Int}(h0:0<=i)(h1:i<ds.length):∃d,d∈ds/\atI ds i=some d:=by
 obtain⟨j,rfl⟩:∃j:Nat,i=j:=⟨i.toNat,by omega⟩
 have hj:j<ds.length:=by omega
 exact⟨ds[j],Qr8 hj,ZY (Ql hj)⟩
theorem Qwz{ds:List Qa}{i:Int}{Q:Qa->Prop}(h0:0<=i)(h1:i<ds.length)(q:∀d∈ds,Q d):∃d,atI ds i=some d/\Q d:=by
 obtain⟨d,hd,e⟩:=Qxe h0 h1;exact⟨d,e,q d hd⟩
theorem QpM{xs:List Qa}{lo hi:Option Int}{d:Qa}(h:d∈cutD xs lo hi):d∈xs:=Qk6 (Qk5 h)
structure QE (m:Md) (X:Cx) (E:XK) (e:QP) (w:DE):Prop where h:PE X e (tX m X.K E w)
structure QT (X:Cx) (E:XK) (e:QP) (w:DT):Prop where h:PT X e (tT X.K E w)
structure QW (X:Cx) (E:XK) (e:QP) (w:DT):Prop where h:PW X e (tT X.K E w)
structure QTs (X:Cx) (E:XK) (es:List QP) (w:DT):Prop where h:PTs X es (tT X.K E w)
structure QA (n:Nat) (m:Md) (X:Cx) (E:XK) (es:List QP) (w:DAr):Prop where h:PA X es (tAr n m X.K E w)
structure QAs (X:Cx) (E:XK) (es:List QP) (w:DSl):Prop where h:PA X es (tAs X.K E w)
structure QO (X:Cx) (E:XK) (o:Option QP) (w:DO):Prop where h:PO X o (tO X.K E w)
structure QG (ix:List Nat) (X:Cx) (tg:QP) (w:DG):Prop where h:PG X tg (tG ix X.K w)
structure QI (m:Md) (X:Cx) (E:XK) (tg it:QP) (w:DI):Prop where h:PI X tg it (tI m X.K E w)
structure QS (X:Cx) (E:XK) (st:ZZ) (w:DS):Prop where h:PS X st (tS X.K E w)
structure QSs (X:Cx) (E:XK) (sts:List ZZ) (w:DS):Prop where h:PSs X sts (tS X.K E w)
section
variable{X:Cx}{E:XK}
theorem Zm{e:QP}{w:DE}(h:QE .F X E e w):QE .D X E e w:=⟨toD h.h⟩
theorem Jm{e:QP}{w:DE}(h:QE .D X E e w):QE .P X E e w:=⟨toP h.h⟩
theorem QZ{e:QP}{w:DE}(h:QE .F X E e w):QE .P X E e w:=⟨QAe h.h⟩
theorem qv(i:Nat){x:Str}{pos:Pos}(hN:X.N[i]? = some x:=by rfl)(hv:Vis X.env.scope x:=by first | exact QV rfl | exact Q3 (QV rfl) | exact Q3 (Q3 rfl))(hd:(x == ("__debug__" : Str))=false:=by decide)(hcd:(x == ("__classdict__" : Str))=false:=by decide):QE .D X E (.Name x pos) (Qzg i):=⟨QvH (pv i hN hv hd hcd)⟩
theorem qp(i:Nat){x:Str}{pos:Pos}(hN:X.N[i]? = some x:=by rfl)(hv:Vis X.env.scope x:=by first | exact QV rfl | exact Q3 (QV rfl) | exact Q3 (Q3 rfl))(hd:(x == ("__debug__" : Str))=false:=by decide)(hcd:(x == ("__classdict__" : Str))=false:=by decide):QE .P X E (.Name x pos) (dPk i):=⟨QyI (pv i hN hv hd hcd)⟩
theorem JI{i:Int}{j pos}:QE .D X E (.Constant (.int i) j pos) (dC (.int i)):=⟨QvP⟩
theorem QlJ{b:Bool}{j pos}:QE .D X E (.Constant (.bool b) j pos) (dC (.bool b)):=⟨QyL⟩
theorem Qvu{j pos}:QE .D X E (.Constant .none j pos) (dC .none):=⟨QvM⟩
theorem QeN{x:Str}{j pos}(h:YH (.str x)=true:=by decide +kernel):QE .D X E (.Constant (.str x) j pos) (dC (.str x)):=⟨QvJ h⟩
theorem Qrm{x:Str}(i:Int){u:Value}{pos:Pos}(hg:Gl X x)(hm:X.mg x=some u)(r:RelV (.int i) u)(hd:(x == ("__debug__" : Str))=false:=by decide):QE .D X E (.Name x pos) (dC (.int i)):=⟨QvT (QlX hg hm r hd) λ_ _=>.int i⟩
theorem ZT{a b:QP}{wa wb:DE}{pos:Pos}{r:R2}{rD:Qa->Qa->(Qa->Prop)->Prop}{op:Qfy}(ho:OpR X (binaryOp op) r)(hd:OpD r rD)(ha:QE .P X E a wa)(hb:QE .P X E b wb):QE .F X E (.BinOp a op b pos) (dOp rD wa wb):=⟨QvU ho hd ha.h hb.h⟩
theorem QgU{a b:QP}{wa wb:DE}{pos:Pos}{r:R2}{rD:Qa->Qa->(Qa->Prop)->Prop}{op:Qj2}(ho:OpR X (compareOp op) r)(hd:OpD r rD)(ha:QE .P X E a wa)(hb:QE .P X E b wb)(hm:behindInMarks op b=false):QE .F X E (.Compare a [op] [b] pos) (dOp rD wa wb):=⟨QvS ho hd ha.h hb.h hm⟩
theorem Y5{a b:QP}{wa wb:DE}{pos:Pos}{r:R2}{rD:Qa->Qa->(Qa->Prop)->Prop}{op:Qj2}(ho:OpR X (compareOp op) r)(hd:OpD r rD)(ha:QE .P X E a wa)(hb:QE .P X E b wb)(hm:behindInMarks op b=false):QT X E (.Compare a [op] [b] pos) (dTst (dOp rD wa wb)):=⟨Qs7 ho hd ha.h hb.h hm⟩
theorem Qd1{a b:QP}{wa wb:DE}{pos:Pos}{r:R2}{rD:Qa->Qa->(Qa->Prop)->Prop}(ho:IxR X r)(hd:QrX r rD)(ha:QE .P X E a wa)(hb:QE .P X E b wb)(hs:QiF b):QE .D X E (.Subscript a b pos) (dOp rD wa wb):=⟨QyJ ho hd ha.h hb.h hs⟩
theorem QlI{a:QP}{wa:DE}{pos:Pos}(ha:QE .P X E a wa):QE .F X E (.UnaryOp .USub a pos) (dUn QzO wa):=⟨QvN ha.h⟩
theorem QAr{a b c:QP}{wa wb wc:DE}{pos:Pos}{op op':Qj2}{p q:Int->Int->Bool}(ho:OpR X (compareOp op) (rI0 λi j=>.bl (p i j)))(ho':OpR X (compareOp op') (rI0 λi j=>.bl (q i j)))(ha:QE .P X E a wa)(hb:QE .P X E b wb)(hc:QE .P X E c wc)(hm:lastMarks [op,op'] [b,c]=false:=by with_unfolding_all rfl):QE .F X E (.Compare a [op,op'] [b,c] pos) (dCh p q wa wb wc):=⟨QyK ho ho' ha.h hb.h hc.h hm⟩
theorem Qri{e:QP}{w:DE}(h:QE .P X E e w)(he:∀whole,isTrue e X.env whole=(do let v <- whole;standAt e.pos;holding [v] (truthy v)):=by intro _;rfl):QT X E e (dTru w):=⟨Qs5 h.h he⟩
theorem QdB{e:QP}{w:DE}(h:QE .P X E e w)(he:∀whole,isTrue e X.env whole=(do let v <- whole;standAt e.pos;holding [v] (truthy v)):=by intro _;rfl):QT X E e (dTst w):=⟨Qs4 h.h he⟩
theorem QsE{a:QP}{pos:Pos}{ta:DT}(ha:QT X E a ta):QW X E (.BoolOp .And [a] pos) ta:=⟨QoE ha.h⟩
theorem Qvo{a b:QP}{rest:List QP}{pos:Pos}{ta tb:DT}(ha:QT X E a ta)(hb:QW X E (.BoolOp .And (b::rest) pos) tb):QW X E (.BoolOp .And (a::b::rest) pos) (Qz5 ta tb):=⟨Qs3 ha.h hb.h⟩
theorem QfT{a b:QP}{rest:List QP}{pos:Pos}{wa wb:DE}(ha:QE .P X E a wa)(hb:QE .D X E (.BoolOp .And (b::rest) pos) wb):QE .D X E (.BoolOp .And (a::b::rest) pos) (Qw5 wa wb):=⟨QvV ha.h hb.h⟩
theorem Qi5{a:QP}{pos:Pos}{ta:DT}(ha:QT X E a ta):QW X E (.BoolOp .Or [a] pos) ta:=⟨Qs2 ha.h⟩
theorem Qol{a b:QP}{rest:List QP}{pos:Pos}{ta tb:DT}(ha:QT X E a ta)(hb:QW X E (.BoolOp .Or (b::rest) pos) tb):QW X E (.BoolOp .Or (a::b::rest) pos) (dOr ta tb):=⟨QvF ha.h hb.h⟩
theorem Qvs{e:QP}{t:DT}(h:QW X E e t):QT X E e t:=⟨PW.pt h.h⟩
theorem QcJ{a:QP}{pos:Pos}{ta:DT}(ha:QT X E a ta):QT X E (.UnaryOp .Not a pos) (QzX ta):=⟨Qs6 ha.h⟩
theorem QfS{op}{a:QP}{pos:Pos}{w:DE}(h:QE .D X E a w):QE .D X E (.BoolOp op [a] pos) w:=⟨QvK h.h⟩
theorem Qvt{a:QP}{pos:Pos}{wa:DE}(ha:QE .P X E a wa):QE .D X E (.UnaryOp .Not a pos) (Qw1 wa):=⟨QvL ha.h⟩
theorem Qvw{c a b:QP}{pos:Pos}{ta:DT}{wa wb:DE}(hc:QT X E c ta)(ha:QE .D X E a wa)(hb:QE .D X E b wb):QE .D X E (.IfExp c a b pos) (Qz2 ta wa wb):=⟨QvQ hc.h ha.h hb.h⟩
theorem Jt{m:Md}:QA 0 m X E [] QzY:=⟨Qtk⟩
theorem Qa1{n:Nat}{e:QP}{es:List QP}{we:DE}{wr:DAr}(he:QE .D X E e we)(hr:QA n .D X E es wr)(hs:notStar e=true:=by rfl):QA (n+1) .D X E (e::es) (Qnc we wr):=⟨Ql3 he.h hr.h hs⟩
theorem Qcf{n:Nat}{e:QP}{es:List QP}{we:DE}{wr:DAr}(he:QE .P X E e we)(hr:QA n .P X E es wr)(hs:notStar e=true:=by rfl):QA (n+1) .P X E (e::es) (Qnc we wr):=⟨Ql2 he.h hr.h hs⟩
theorem QbB{n:Nat}{es:List QP}{w:DAr}{x1}{pos:Pos}(h:QA n .D X E es w)(hn:n<=1000:=by decide):QE .F X E (.Tuple es x1 pos) (QzU w):=⟨QvI h.h hn⟩
theorem QcL{n:Nat}{es:List QP}{w:DAr}{pos:Pos}(h:QA n .D X E es w)(hn:n<=1000:=by decide):QE .F X E (.List es pos) (QzZ w):=⟨QvO h.h hn⟩
theorem QyB{pos:Pos}:QE .D X E (.Dict [] [] pos) (dC (.dict [])):=⟨QvR⟩
theorem ZX{x:Str}{bid:String}{p pos:Pos}{e:QP}{es:List QP}{n:Nat}{wr:DAr}{r:List V->Hp->VK->Prop}{rD:List Qa->(Qa->Prop)->Prop}(hc:CallR X (.builtin bid) r)(hd:QcU r rD)(hg:Gl X x)(hm:X.mg x=none)(hv:bootBuiltins x=some (.builtin bid))(ha:QA n .P X E (e::es) wr)(hn:x ≠ "__name__" := by decide)(hdb:(x == ("__debug__" : Str))=false:=by decide)(he:starEach (e::es) X.env=(false,eval e X.env)::starEach es X.env:=by rfl)(hpl:(backTo pos (starEach es X.env)).any (·.1)=false:=by rfl):QE .F X E (.Call (.Name x p) (e::es) [] pos) (dCB rD wr):=⟨QoZ hc hd hg hm hv ha.h hn hdb he hpl⟩
theorem Qar{x:Str}{T:String}{p pos:Pos}{e:QP}{es:List QP}{n:Nat}{wr:DAr}{r:List V->Hp->VK->Prop}{rD:List Qa->(Qa->Prop)->Prop}(hc:CallR X (.type T) r)(hd:QcU r rD)(hg:Gl X x)(hm:X.mg x=none)(hv:bootBuiltins x=some (.type T))(ha:QA n .P X E (e::es) wr)(hn:x ≠ "__name__" := by decide)(hdb:(x == ("__debug__" : Str))=false:=by decide)(he:starEach (e::es) X.env=(false,eval e X.env)::starEach es X.env:=by rfl)(hpl:(backTo pos (starEach es X.env)).any (·.1)=false:=by rfl):QE .F X E (.Call (.Name x p) (e::es) [] pos) (dCB rD wr):=⟨Ql6 hc hd hg hm hv ha.h hn hdb he hpl⟩
theorem Qe7{e:QP}{we:DE}{p pos pos2:Pos}{x:Str}(tn:Tn)(hg:Gl X "isinstance")(hm:X.mg "isinstance" = none)(he:QE .P X E e we)(hg2:Gl X x)(hm2:X.mg x=none)(hv:bootBuiltins x=some (.type tn.s))(hn:x ≠ "__name__" := by decide)(hd:(x == ("__debug__" : Str))=false:=by decide)(h1:notStar e=true:=by rfl):QE .F X E (.Call (.Name "isinstance" p) [e,.Name x pos2] [] pos) (Qw2 tn we):=⟨Qtm tn hg hm he.h (QyM tn hg2 hm2 hv hn hd) h1 rfl⟩
theorem QbK  : QO X E none dNo:=⟨QoP⟩
theorem QbJ{e:QP}{we:DE}(he:QE .P X E e we):QO X E (some e) (dSo we):=⟨QoO he.h⟩
theorem QbM{e:QP}{lo hi:Option QP}{we:DE}{wl wh:DO}{p2 pos:Pos}(he:QE .P X E e we)(hl:QO X E lo wl)(hh:QO X E hi wh):QE .F X E (.Subscript e (.Slice lo hi none p2) pos) (dSl we wl wh):=⟨QoW he.h hl.h hh.h⟩
theorem Qoo{e:QP}{w:DE}{p p2 pos pos2:Pos}(hg:Gl X "tuple")(hm:X.mg "tuple" = none)(hg2:Gl X "range")(hm2:X.mg "range" = none)(h:QE .P X E e w)(hc:X.calm=true:=by rfl)(hs:notStar e=true:=by rfl):QE .F X E (.Call (.Name "tuple" p) [.Call (.Name "range" p2) [e] [] pos2] [] pos) (QwW w):=⟨Ql4 hg hm hg2 hm2 h.h hc hs⟩
theorem Za  : QAs X E [] Qzz:=⟨Qtc⟩
theorem Yr{e:QP}{es:List QP}{we:DE}{wr:DSl}(he:QE .D X E e we)(hr:QAs X E es wr)(hs:notStar e=true:=by rfl):QAs X E (e::es) (sV we wr):=⟨QyH he.h hr.h hs⟩
theorem QgT(i:Nat){x:Str}{pos:Pos}{es:List QP}{wr:DSl}(hr:QAs X E es wr)(hN:X.N[i]? = some x:=by rfl)(hv:Vis X.env.scope x:=by first | exact QV rfl | exact Q3 (QV rfl) | exact Q3 (Q3 rfl))(hd:(x == ("__debug__" : Str))=false:=by decide)(hcd:(x == ("__classdict__" : Str))=false:=by decide):QAs X E (.Name x pos::es) (Qyr i wr):=⟨Qs9 (pv i hN hv hd hcd) hr.h rfl⟩
theorem Yp{CX:CXT}{k:Nat}{f:Addr}{fd:QN}{ps:List Str}{x:Str}{p pos:Pos}{e:QP}{es:List QP}{fD:DF}{wa:DSl}(G:FnOk X.prog X.w X.K X.mg X.base CX k f fd ps (Zj false fD))(hr:Room k X.A)(hg:Gl X x)(hm:X.mg x=some (.ref f))(hk:PySem.W.keepIn X.K (.ref f)=true)(hb:Binds X.K fd ps [])(hx:Qbu CX X E)(ha:QAs X E (e::es) wa)(hdb:(x == ("__debug__" : Str))=false:=by decide)(he:starEach (e::es) X.env=(false,eval e X.env)::starEach es X.env:=by rfl)(hpl:(backTo pos (starEach es X.env)).any (·.1)=false:=by rfl):QE .D X E (.Call (.Name x p) (e::es) [] pos) (Qnd fD wa):=⟨Qtp G hr hg hm hk hb hx ha.h hdb he hpl⟩
theorem Ys{CX:CXT}{k:Nat}{f:Addr}{fd:QN}{ps:List Str}{x:Str}{p pos:Pos}{e:QP}{es:List QP}{fD:DF}{wa:DSl}(G:FnOk X.prog X.w X.K X.mg X.base CX k f fd ps (Zj true fD))(hr:Room k X.A)(hg:Gl X x)(hm:X.mg x=some (.ref f))(hk:PySem.W.keepIn X.K (.ref f)=true)(hb:Binds X.K fd ps [])(hx:Qbu CX X E)(ha:QAs X E (e::es) wa)(hdb:(x == ("__debug__" : Str))=false:=by decide)(he:starEach (e::es) X.env=(false,eval e X.env)::starEach es X.env:=by rfl)(hpl:(backTo pos (starEach es X.env)).any (·.1)=false:=by rfl):QE .F X E (.Call (.Name x p) (e::es) [] pos) (Qnd fD wa):=⟨QoY G hr hg hm hk hb hx ha.h hdb he hpl⟩
theorem Qop{CX:CXT}{k:Nat}{f:Addr}{fd:QN}{ps:List Str}{x:Str}{p pos:Pos}{e:QP}{es:List QP}{fD:DF}{n:Nat}{fr:Bool}{wr:DAr}(G:FnOk X.prog X.w X.K X.mg X.base CX k f fd ps (Zj fr fD))(hr:Room k X.A)(hg:Gl X x)(hm:X.mg x=some (.ref f))(hk:PySem.W.keepIn X.K (.ref f)=true)(hb:Binds X.K fd ps [])(hx:Qbu CX X E)(ha:QA n .P X E (e::es) wr)(hdb:(x == ("__debug__" : Str))=false:=by decide)(he:starEach (e::es) X.env=(false,eval e X.env)::starEach es X.env:=by rfl)(hpl:(backTo pos (starEach es X.env)).any (·.1)=false:=by rfl):QE .F X E (.Call (.Name x p) (e::es) [] pos) (Qiu fD wr):=⟨Ql7 G hr hg hm hk hb hx ha.h hdb he hpl⟩
theorem Qvx{k:Nat}{f:Addr}{fd:QN}{ps:List Str}{x y:Str}{p pos pos2:Pos}{b:QP}{wb:DE}(i:Nat)(G:FnOk X.prog X.w X.K X.mg X.base CX0 k f fd ps (QcG X.K))(hr:Room k X.A)(hg:Gl X x)(hm:X.mg x=some (.ref f))(hk:PySem.W.keepIn X.K (.ref f)=true)(hb:Binds X.K fd ps [])(h:QE .P X E b wb)(hN:X.N[i]? = some y:=by rfl)(hv:Vis X.env.scope y:=by first | exact QV rfl | exact Q3 (QV rfl) | exact Q3 (Q3 rfl))(hd:(y == ("__debug__" : Str))=false:=by decide)(hcd:(y == ("__classdict__" : Str))=false:=by decide)(h2:notStar b=true:=by rfl)(hdb:(x == ("__debug__" : Str))=false:=by decide):QE .F X E (.Call (.Name x p) [.Name y pos2,b] [] pos) (Quc i wb):=⟨Qto G hr hg hm hk hb (pv i hN hv hd hcd) h.h rfl h2 hdb⟩
theorem Qvv{y:Str}{p pos pos2:Pos}(i:Nat)(hg:Gl X "len")(hm:X.mg "len" = none)(hN:X.N[i]? = some y:=by rfl)(hv:Vis X.env.scope y:=by first | exact QV rfl | exact Q3 (QV rfl) | exact Q3 (Q3 rfl))(hd:(y == ("__debug__" : Str))=false:=by decide)(hcd:(y == ("__classdict__" : Str))=false:=by decide):QE .F X E (.Call (.Name "len" p) [.Name y pos2] [] pos) (Qub i):=⟨Qtl hg hm (pv i hN hv hd hcd) rfl⟩
theorem Zc(i:Nat){x:Str}{pos:Pos}(hN:X.N.Nodup)(hi:X.N[i]? = some x)(hx:Loc X.env.scope x)(hf:X.fn x=true∨X.env.scope.names.lookup x=some .local:=by first | exact .inl rfl | exact .inr rfl | assumption):QG [i] X (.Name x pos) (gN i):=⟨QoV (Qeg hN hi hx hf)⟩
structure QGs (X:Cx) (es:List QP) (is:List Nat):Prop where h:PGs X es (gNs is)
theorem QdE  : QGs X [] []:=⟨QlS⟩
theorem ZW(i:Nat){is:List Nat}{x:Str}{pos:Pos}{es:List QP}(h:QGs X es is)(hN:X.N.Nodup)(hi:X.N[i]? = some x)(hx:Loc X.env.scope x)(hf:X.fn x=true∨X.env.scope.names.lookup x=some .local:=by first | exact .inl rfl | exact .inr rfl | assumption)(hs:(assignEach (.Name x pos::es) X.env).map (·.2)=assign (.Name x pos) X.env::(assignEach es X.env).map (·.2):=by rfl):QGs X (.Name x pos::es) (i::is):=⟨QfX (Qeg hN hi hx hf) h.h hs⟩
theorem QdD{es:List QP}{k:Nat}{pos:Pos}{is:List Nat}(hc:X.calm=true)(h:QGs X es is)(hn:(assignEach es X.env).length=is.length:=by rfl)(hst:(assignEach es X.env).findIdx? (·.1)=none:=by rfl):QG is X (.Tuple es k pos) (gTN is):=⟨Qtj (Qrt hc h.h hn hst) rfl⟩
theorem QbL{m:Md}{tg e:QP}{w:DE}(h:QE m X E e w):QI m X E tg e (Qz1 w):=⟨QoU h.h⟩
theorem QdC{m:Md}{tg e:QP}{w:DE}(h:QE m X E e w):QI m X E tg e (Qz0 w):=⟨Qti h.h⟩
theorem YX{m:Md}{tg e:QP}{w:DE}{p pos:Pos}(hg:Gl X "range")(hm:X.mg "range" = none)(h:QE .P X E e w)(hs:notStar e=true:=by rfl):QI m X E tg (.Call (.Name "range" p) [e] [] pos) (Qw0 w):=⟨QoT hg hm h.h hs⟩
theorem QsJ{m:Md}{tg e e':QP}{w w':DE}{p pos:Pos}(hg:Gl X "range")(hm:X.mg "range" = none)(h:QE .P X E e w)(h':QE .P X E e' w')(hs:notStar e=true:=by rfl)(hs':notStar e'=true:=by rfl):QI m X E tg (.Call (.Name "range" p) [e,e'] [] pos) (QwZ w w'):=⟨QoS hg hm h.h h'.h hs hs'⟩
theorem Qon{m:Md}{e:QP}{w:DE}{p pos tpos:Pos}{elts:List QP}{x1}(hg:Gl X "enumerate")(hm:X.mg "enumerate" = none)(h:QE m X E e w)(hs:notStar e=true:=by rfl):QI m X E (.Tuple elts x1 tpos) (.Call (.Name "enumerate" p) [e] [] pos) (Qz3 w):=⟨Ql1 hg hm h.h hs⟩
theorem QsI{m:Md}{e e':QP}{w w':DE}{p pos tpos:Pos}{elts:List QP}{x1}(hg:Gl X "zip")(hm:X.mg "zip" = none)(h:QE m X E e w)(h':QE m X E e' w')(hs:notStar e=true:=by rfl)(hs':notStar e'=true:=by rfl):QI m X E (.Tuple elts x1 tpos) (.Call (.Name "zip" p) [e,e'] [] pos) (QzT w w'):=⟨QoR hg hm h.h h'.h hs hs'⟩
theorem QsH{m:Md}{e e':QP}{w w':DE}{p pos tpos:Pos}{elts:List QP}{x1}(hg:Gl X "zip")(hm:X.mg "zip" = none)(h:QE m X E e w)(h':QE m X E e' w')(hs:notStar e=true:=by rfl)(hs':notStar e'=true:=by rfl):QI m X E (.Tuple elts x1 tpos) (.Call (.Name "zip" p) [e,e'] [] pos) (QzS w w'):=⟨QoQ hg hm h.h h'.h hs hs'⟩
theorem Ya  : QTs X E [] QrP:=⟨QoG⟩
theorem Qdg{c:QP}{t:DT}(h:QT X E c t):QTs X E [c] t:=⟨QoF h.h⟩
theorem QaE(M:List Str)(cap:List (Option Nat)){elt tg iter:QP}{ifs:List QP}{scope:Z5}{pos:Pos}{ix:List Nat}{wi:DI}{wg:DG}{wt:DT}{we:DE}(hi:QI .P X E tg iter wi)(hb:∀cl ex s3 H3 C,QG ix (blk X M scope cl ex s3 H3 C) tg wg/\QTs (blk X M scope cl ex s3 H3 C) E0 ifs wt/\QE .D (blk X M scope cl ex s3 H3 C) E0 elt we)(hc:X.calm=true:=by rfl)(ok:Qcr X.N X.env.scope M scope cap=true:=by rfl)(hf:QaR cap ix=true:=by rfl)(hs:∀x,foldedSetIterable iter X.env x=pure x:=by intro _;rfl):QE .F X E (.ListComp elt [⟨tg,iter,ifs,0⟩] scope pos) (dComp cap wi wg wt we):=⟨Qtn hc ok hf hi.h (λcl ex s3 H3 C=>⟨(hb cl ex s3 H3 C).1.h,(hb cl ex s3 H3 C).2.1.h,(hb cl ex s3 H3 C).2.2.h⟩) hs⟩
theorem YW  : QSs X E [] QwX:=⟨QoH⟩
theorem Jf{st:ZZ}{w:DS}(h:QS X E st w):QSs X E [st] w:=⟨Qta h.h⟩
theorem Q7{st:ZZ}{rest:List ZZ}{w w':DS}(h:QS X E st w)(h':QSs X E rest w'):QSs X E (st::rest) (QzV w w'):=⟨QoM h.h h'.h⟩
theorem QaD(i:Nat){x:Str}{e:QP}{pos pos':Pos}{we:DE}(he:QE .D X E e we)(hN:X.N.Nodup)(hi:X.N[i]? = some x:=by rfl)(hx:Loc X.env.scope x:=by first | exact QV rfl | exact Q3 rfl)(hs:swapsWith e (some (.Name x pos')) pos.line X.env=pure false:=by rfl)(hf:X.fn x=true∨X.env.scope.names.lookup x=some .local:=by first | exact .inl rfl | exact .inr rfl | assumption):QS X E (.Assign [.Name x pos'] e pos) (Qzh i we):=⟨QlZ (QaF hN hi hx he.h hs hf)⟩
theorem Qcl(i:Nat){x:Str}{e:QP}{pos pos':Pos}{we:DE}(he:QE .F X E e we)(hN:X.N.Nodup)(hi:X.N[i]? = some x:=by rfl)(hx:Loc X.env.scope x:=by first | exact QV rfl | exact Q3 rfl)(hs:swapsWith e (some (.Name x pos')) pos.line X.env=pure false:=by rfl)(hf:X.fn x=true∨X.env.scope.names.lookup x=some .local:=by first | exact .inl rfl | exact .inr rfl | assumption):QS X E (.Assign [.Name x pos'] e pos) (QpL i we):=⟨QfY (QaF hN hi hx he.h hs hf)⟩
theorem QsF(i:Nat){x:Str}{e:QP}{pos pos':Pos}{we:DE}(he:QE .F X E e we)(hN:X.N.Nodup)(hi:X.N[i]? = some x:=by rfl)(hx:Loc X.env.scope x:=by first | exact QV rfl | exact Q3 rfl)(hs:swapsWith e (some (.Name x pos')) pos.line X.env=pure false:=by rfl)(hf:X.fn x=true∨X.env.scope.names.lookup x=some .local:=by first | exact .inl rfl | exact .inr rfl | assumption):QS X E (.Assign [.Name x pos'] e pos) (QwY i we):=⟨QoI (QaF hN hi hx he.h hs hf)⟩
theorem Qrk{tg e:QP}{pos:Pos}{ix:List Nat}{we:DE}{wg:DG}(he:QE .D X E e we)(hg:QG ix X tg wg)(hs:swapsWithSole [tg] e pos.line X.env=pure false:=by rfl)(hw:swappedStores [tg] e X.env=pure none:=by rfl)(h1:(assignEach [tg] X.env).map (·.2)=[assign tg X.env]:=by rfl):QS X E (.Assign [tg] e pos) (Qz4 we wg):=⟨Qtg (Qrq he.h hg.h hs hw h1)⟩
theorem Qan{e:QP}{pos:Pos}{we:DE}(h:QE .D X E e we):QS X E (.Return (some e) pos) (QzW we):=⟨Qs8 h.h⟩
theorem Qaj{e:QP}{pos:Pos}{we:DE}(h:QE .F X E e we):QS X E (.Return (some e) pos) (Qua we):=⟨QoK h.h⟩
theorem Qh4(i:Nat){x:Str}{pos pos2:Pos}(hN:X.N[i]? = some x:=by rfl)(hv:Vis X.env.scope x:=by first | exact QV rfl | exact Q3 (QV rfl) | exact Q3 (Q3 rfl))(hd:(x == ("__debug__" : Str))=false:=by decide)(hcd:(x == ("__classdict__" : Str))=false:=by decide):QS X E (.Return (some (.Name x pos)) pos2) (Qt9 i):=⟨QoJ (pv i hN hv hd hcd)⟩
theorem Qcm{c:QP}{a b:List ZZ}{pos:Pos}{t:DT}{w w':DS}(hc:QT X E c t)(ha:QSs X E a w)(hb:QSs X E b w'):QS X E (.If c a b pos) (dIf t w w'):=⟨QvG hc.h ha.h hb.h⟩
theorem Qrl{y:Str}{e:QP}{we:DE}{apos cpos pos npos:Pos}(i:Nat)(he:QE .D X E e we)(hN:X.N[i]? = some y:=by rfl)(hv:Vis X.env.scope y:=by first | exact QV rfl | exact Q3 (QV rfl) | exact Q3 (Q3 rfl))(hd:(y == ("__debug__" : Str))=false:=by decide)(hcd:(y == ("__classdict__" : Str))=false:=by decide)(hst:notStar e=true:=by rfl)(hbase:attributeBase (.Name y npos) "append" X.env (eval (.Name y npos) X.env)=eval (.Name y npos) X.env:=by rfl)(hfew:((backTo cpos (starEach [e] X.env)).all (λx => !x.1)&&(backToKw cpos (keywordEach [] X.env)).all (λx=>x.1.isSome)&&decide ([e].length+([]:List QeK).length+(if([]:List QeK).isEmpty then 0 else 1)<30))=true:=by rfl)(hline:(apos.endLine == cpos.line)=true:=by rfl)(hsw:swapsWith (.Call (.Attribute (.Name y npos) "append" apos) [e] [] cpos) none pos.line X.env=pure false:=by rfl):QS X E (.Expr (.Call (.Attribute (.Name y npos) "append" apos) [e] [] cpos) pos) (Qzl i we):=⟨Qth (QfU (QlY PySem.F.plainAttrs_list PySem.F.slot_list_append PySem.F.type_list_append Qg9 (pv i hN hv hd hcd) (Qcg he.h JQ hst) hbase hfew hline (Zv hst) rfl) hsw)⟩
theorem Qrj{y:Str}{e:QP}{we:DE}{apos cpos pos npos:Pos}(i:Nat)(he:QE .P X E e we)(hN:X.N[i]? = some y:=by rfl)(hv:Vis X.env.scope y:=by first | exact QV rfl | exact Q3 (QV rfl) | exact Q3 (Q3 rfl))(hd:(y == ("__debug__" : Str))=false:=by decide)(hcd:(y == ("__classdict__" : Str))=false:=by decide)(hst:notStar e=true:=by rfl)(hbase:attributeBase (.Name y npos) "extend" X.env (eval (.Name y npos) X.env)=eval (.Name y npos) X.env:=by rfl)(hfew:((backTo cpos (starEach [e] X.env)).all (λx => !x.1)&&(backToKw cpos (keywordEach [] X.env)).all (λx=>x.1.isSome)&&decide ([e].length+([]:List QeK).length+(if([]:List QeK).isEmpty then 0 else 1)<30))=true:=by rfl)(hline:(apos.endLine == cpos.line)=true:=by rfl)(hsw:swapsWith (.Call (.Attribute (.Name y npos) "extend" apos) [e] [] cpos) none pos.line X.env=pure false:=by rfl):QS X E (.Expr (.Call (.Attribute (.Name y npos) "extend" apos) [e] [] cpos) pos) (Qzj i we):=⟨Qtf (QfU (QlY PySem.F.plainAttrs_list PySem.F.slot_list_extend PySem.F.type_list_extend Qmw (pv i hN hv hd hcd) (Qcg he.h JQ hst) hbase hfew hline (Zv hst) rfl) hsw)⟩
theorem QsG{y:Str}{e k:QP}{we wk:DE}{op:Qfy}{ti:TIp}{rD:Qa->Qa->(Qa->Prop)->Prop}{pos tpos npos:Pos}(i:Nat)(ho:PIp X op ti)(hd:QrX ti rD)(hk:QE .P X E k wk)(he:QE .P X E e we)(hN:X.N[i]? = some y:=by rfl)(hv:Vis X.env.scope y:=by first | exact QV rfl | exact Q3 (QV rfl) | exact Q3 (Q3 rfl))(hdd:(y == ("__debug__" : Str))=false:=by decide)(hcd:(y == ("__classdict__" : Str))=false:=by decide)(ha:∀ov iv new,augStore k ov iv new=(do holding [new,ov,iv] (setItem ov iv new);release [new,ov,iv] [];pure .next):=by intros;rfl):QS X E (.AugAssign (.Subscript (.Name y npos) k tpos) op e pos) (Qud i rD wk we):=⟨QoN hd (QsT (pv i hN hv hdd hcd) hk.h Qpy he.h (PIp.len ho) QiX ha)⟩
theorem QbI{tg iter:QP}{body:List ZZ}{pos:Pos}{ix:List Nat}{wi:DI}{wg:DG}{wb:DS}(hp:PassesOwn (model X.prog X.w) X.A X.env X.xe)(hc:X.calm=true)(hi:QI .D X E tg iter wi)(hg:QG ix X tg wg)(hb:QSs X E body wb)(hs:∀x,foldedSetIterable iter X.env x=pure x:=by intro _;rfl):QS X E (.For tg iter body [] pos) (dFor wi wg wb):=⟨Qte hp hc hi.h hg.h hb.h hs⟩
theorem QcK{x:Str}{C:Addr}{e0:QP}{we:DE}{np cpos pos:Pos}(hxe:∀e s1,wpAny (model X.prog X.w) X.A (leaving X.env e) (λ_ s2=>Rx.CXE X.prog X.w X.outer X.H₀ X.s₀ E e s2) (λe' s2=>Rx.CXE X.prog X.w X.outer X.H₀ X.s₀ E e' s2) s1->X.xe e s1)(hm:X.mg x=some (.ref C))(q:PySem.W.excIn X.K C Rx.mroV "ValueError.__new__" = true)(ha:QE .P X E e0 we)(hstk:X.stack=X.env::X.outer:=by rfl)(hfr:X.env.frame=some X.env.locals:=by rfl)(hex:X.ex=[]:=by rfl)(hc:X.calm=true:=by rfl)(hg:Gl X x:=by rfl)(he:starEach [e0] X.env=[(false,eval e0 X.env)]:=by rfl)(hd:(x == ("__debug__" : Str))=false:=by decide):QS X E (.Raise (some (.Call (.Name x np) [e0] [] cpos)) none pos) (QrO C we):=⟨Ql0 (Rx.Qov hxe hstk hfr hex hc hg hm q ha.h he hd)⟩
theorem QlF{e:QP}{we:DE}{pos:Pos}(he:QE .P X E e we)(hs:swapsWith e none pos.line X.env=pure false:=by rfl):QS X E (.Expr e pos) (Qw3 we):=⟨QoL (QfU he.h hs)⟩
theorem Qvq{st:ZZ}{w:DS}(h:QS X.nox E0 st w):QS X E st (λD δ=>w { D with ex:=XF } δ):=⟨Qtb h.h⟩
end
section
variable{P:Qy}{w:Jg}{K:PySem.W.Frag}{mg:Str->Option Value}{base:J5}
theorem okQ{x qual:Str}{st:ZZ}{f:Addr}{fd:QN}{N ps:List Str}{k:Nat}{fD:DF}(fr:Bool)(F:Fun K x qual st f fd)(S:Jw N ps (Qt st))(len:∀args R EX,fD args R EX->args.length=ps.length)
  (hbody:∀(cdv:Value)(A:Q5)(outer:List Env)(s:Shared)(H:Hp)(E:XK),Room k (A.deeper (envOfC qual (Qt st) s.heap.objs.size f cdv)) ->
   ∃wd,QSs (cxOf CX0 P w K mg base N qual (Qt st) f cdv A outer s H E).nox E0 (Ju st) wd/\∀args R EX,fD args R EX->wd (Qm0 fr R XF) (stD N args)):FnOk P w K mg base CX0 (k+1) f fd ps (Zj fr fD):=
 okD fr F S len λcdv A outer s H E hr=>let ⟨wd,h,q⟩:=hbody cdv A outer s H E hr;⟨wd,h.h,q⟩
theorem QuA{x qual:Str}{st:ZZ}{f:Addr}{fd:QN}{N ps:List Str}{k:Nat}{fD:DF}(fr:Bool)(F:Fun K x qual st f fd)(S:Jw N ps (Qt st))(len:∀args R EX,fD args R EX->args.length=ps.length)
  (hbody:∀(cdv:Value)(A:Q5)(outer:List Env)(s:Shared)(H:Hp)(E:XK),Room k (A.deeper (envOfC qual (Qt st) s.heap.objs.size f cdv)) ->
   ∃wd,QSs (cxOf (Rx.CXE P w) P w K mg base N qual (Qt st) f cdv A outer s H E) E (Ju st) wd/\∀args R EX,fD args R EX->wd (Qm0 fr R EX) (stD N args)):FnOk P w K mg base (Rx.CXE P w) (k+1) f fd ps (Zj fr fD):=
 QAu fr F S len λcdv A outer s H E hr=>let ⟨wd,h,q⟩:=hbody cdv A outer s H E hr;⟨wd,h.h,q⟩
theorem QAt{x qual:Str}{st:ZZ}{f:Addr}{fd:QN}{N:List Str}{p:Str}{k:Nat}(F:Fun K x qual st f fd)(S:Jw N [p] (Qt st))
  (hbody:∀(cdv:Value)(A:Q5)(outer:List Env)(s:Shared)(H:Hp)(E:XK),Room k (A.deeper (envOfC qual (Qt st) s.heap.objs.size f cdv)) ->
   ∃wd,QSs (cxOf CX0 P w K mg base N qual (Qt st) f cdv A outer s H E).nox E0 (Ju st) wd/\wd QwN (stD N [.scr])):FnOk P w K mg base CX0 (k+1) f fd [p] (QeW K):=
 QyU F S λcdv A outer s H E hr=>let ⟨wd,h,q⟩:=hbody cdv A outer s H E hr;⟨wd,h.h,q⟩
end
structure GOk (wg:DG):Prop where h:∀d δ Q,wg d δ Q->wg d δ λδ'=>(∀(j:Nat) x,δ'[j]? = some x->(∃e,x=.v e)∨δ[j]? = some x)/\Q δ'
theorem Qjv(i:Nat):GOk (gN i):=⟨λd δ Q h=>⟨λj x e=>by
 by_cases z:j=i
 ·subst z;exact .inl ⟨d,set_eq e⟩
 ·rw[Qam z] at e;exact .inr e,h⟩⟩
theorem Qip{cap:List (Option Nat)}{ix:List Nat}(hf:QaR cap ix=true){i:Nat}(hi:i∈ix):cap[i]? = some none:=by
 have:=Jz.mp hf i hi;split at this
 ·assumption
 ·cases this
theorem QcO{cap:List (Option Nat)}{ix:List Nat}(hf:QaR cap ix=true){δ:Sts}{i:Nat}{x:Sl}(h:(QdO cap δ)[i]? = some x)(hx:x≠.no):i∉ix:=λz=>by
 rcases Qge h with⟨_,e⟩ | ⟨j,hj,_⟩
 ·exact hx e
 ·rw[Qip hf z] at hj;cases hj
section
variable{K:PySem.W.Frag}{σ σ4:L2.St}{δ δ4:Sts}{cap:List (Option Nat)}{ix:List Nat}{A1:Addr->Prop}{H3 H5 H6:Hp}
theorem QmQ(hP:∀a,ZK σ δ a->A1 a)(hf:QaR cap ix=true)(j4:∀j,j∉ix->σ4[j]? = (Qc0 cap σ)[j]?)(gk:∀(j:Nat) x,δ4[j]? = some x->(∃e,x=.v e)∨(QdO cap δ)[j]? = some x){a:Addr}(h:Av (inF A1 cap σ δ H3) σ4 δ4 a):A1 a:=by
 rcases h with z | ⟨i,h1,h2⟩
 ·exact z
 ·refine(Qju (cap:=cap) (H:=H3) hP).mp ?_
  rcases h2 with h2 | ⟨ds,h2⟩
  ·rcases gk i _ h2 with⟨e,z⟩ | z
   ·cases z
   ·exact .inr ⟨i,by rw[<- j4 i (QcO hf z (λz=>by cases z))];exact h1,.inl z⟩
  ·rcases gk i _ h2 with⟨e,z⟩ | z
   ·cases z
   ·exact .inr ⟨i,by rw[<- j4 i (QcO hf z (λz=>by cases z))];exact h1,.inr ⟨ds,z⟩⟩
theorem QmP(hP:∀a,ZK σ δ a->A1 a)(hf:QaR cap ix=true)(j4:∀j,j∉ix->σ4[j]? = (Qc0 cap σ)[j]?)(gk:∀(j:Nat) x,δ4[j]? = some x->(∃e,x=.v e)∨(QdO cap δ)[j]? = some x)
  (ri:Rel K (inF A1 cap σ δ H6) (Qc0 cap σ) H6 (QdO cap δ))(r5:Rel K (inF A1 cap σ δ H3) σ4 H5 δ4)(kk:∀a o,¬A1 a->H5 a=some o->H6 a=some o):Rel K (inF A1 cap σ δ H6) σ4 H6 δ4 where
 len:=r5.len
 dom:=ri.dom
 dom0:=ri.dom0
 pt0:=ri.pt0
 kx:=ri.kx
 sl:=λi o x h1 h2=>by
  have iv:∀{a:Addr},Av (inF A1 cap σ δ H6) σ4 δ4 a->A1 a:=λ{a} z=>QmQ hP hf j4 gk z
  rcases gk i x h2 with⟨d,rfl⟩ | hx
  ·obtain⟨v,e,q⟩:=r5.sl i o _ h1 h2;exact⟨v,e,q.mv (λa o n e=>kk a o (λz=>n (.inl z)) e) λa z=>.inl (.inl (iv z))⟩
  ·by_cases hn:x=.no
   ·subst hn;trivial
   ·have h1':(Qc0 cap σ)[i]? = some o:=by rw[<- j4 i (QcO hf hx hn)];exact h1
    have h:=ri.sl i o x h1' hx;cases x with
    |no=>trivial
    |v d=>obtain⟨v',e,q'⟩:=h;exact⟨v',e,q'.mv (λ_ _ _ e=>e) λa z=>.inl (.inl (iv z))⟩
    |own ds=>obtain⟨l,xs,e,e2,q',f⟩:=h;exact⟨l,xs,e,e2,q'.mv (λ_ _ _ e=>e) λa z=>.inl (.inl (iv z)),f⟩
    |pk ds=>obtain⟨l,xs,e,e2,q',f⟩:=h;exact⟨l,xs,e,e2,q'.mv (λ_ _ _ e=>e) λa z=>.inl (.inl (iv z)),f⟩
    |pot=>exact h
    |scr=>exact h
 inj:=λi j a ds h1 h2 _=>by
  rcases gk i _ h1 with⟨e,z⟩ | z
  ·cases z
  ·rcases Qge z with⟨_,e⟩ | ⟨j,hj,e⟩
   ·cases e
   ·exfalso
    cases e2:δ[j]? with
    |none=>rw[e2] at e;cases e
    |some y=>rw[e2] at e;cases y<;>cases e
end
theorem QiP{K:PySem.W.Frag}{F:Fm}{σ:L2.St}{δ:Sts}{H1 H3:Hp}{cap:List (Option Nat)}{ix:List Nat}{wg:DG}{wt:DT}{A1:Addr->Prop}{x:V}{d:Qa}{inner:L2.St->Hp->(Hp->Prop)->Prop}{kk:Hp->Prop}{T:Sts->Prop}{N:Prop}(gok:GOk wg)
  (hf:QaR cap ix=true)(rel:Rel K F σ H1 δ)(hA:∀a,Av F σ δ a->A1 a)(hN:∀a,A1 a->Av F σ δ a∨H1 a=none)(dm:∀a,A1 a->∃xs,H3 a=some (.lst xs))(kp:Kp σ δ H1 H3)(dx:DA A1 H3 x d)
  (h:wg d (QdO cap δ) λδ4=>wt δ4 (λb=>if b=true then T δ4 else N) XF)
  (hT:∀σ4 δ4 H5,T δ4->Rel K (inF A1 cap σ δ H3) σ4 H5 δ4->Kp σ δ H3 H5->(∀j,j∉ix->σ4[j]? = (Qc0 cap σ)[j]?)->σ4.length=(Qc0 cap σ).length->(∀(j:Nat) x,δ4[j]? = some x->(∃e,x=.v e)∨(QdO cap δ)[j]? = some x)->inner σ4 H5 kk)(hF:N->∀H5,Kp σ δ H3 H5->kk H5) :
  bOf (Qc0 cap σ) (tG ix K wg) (tT K E0 wt) inner x H3 kk:=by
 have ri:=Qjt (cap:=cap) rel hA hN dm kp;have iv:∀{a:Addr},Av (inF A1 cap σ δ H3) (Qc0 cap σ) (QdO cap δ) a->A1 a:=λ{a}=>(Qju λa z=>hA a (Yq z)).mp
 refine⟨inF A1 cap σ δ H3,QdO cap δ,d,_,ri,dx.mv (λ_ _ _ e=>e) λa z=>.inl (iv z),gok.h _ _ _ h,λδ4 ⟨g4,h4⟩ σ4 r4 st4 l4 j4=>⟨QrT hf l4 j4,inF A1 cap σ δ H3,δ4,_,XF,r4,h4,λb hb H5 r5 kp5=>?_,Qjf⟩⟩;have pots:∀{b:Addr},ZK σ4 δ4 b->ZK σ δ b:=λz=>Qf8 r4 (λb o _ e1 e2=>by rw[e2] at e1;cases e1) z
 have K5:Kp σ δ H3 H5:=by
  refine⟨λb o n e=>kp5.1 b o (λz=>n (pots z)) e,λb hb=>?_⟩;by_cases z:ZK σ4 δ4 b
  ·exact kp5.2 b z
  ·obtain⟨n,e⟩:=kp.2 b hb;exact⟨n,kp5.1 _ _ z e⟩
 exact Qci hb (λz=>hT σ4 δ4 H5 z r5 K5 j4 l4 g4) λz=>hF z H5 K5
theorem Qm1{K:PySem.W.Frag}{σ σ4:L2.St}{δ δ4:Sts}{H1 H3 H5:Hp}{cap:List (Option Nat)}{we:DE}{A1:Addr->Prop}{p:Addr}{acc:List Qa}{kk:Hp->Prop}{G:Qa->Prop}
  (hpA:A1 p)(hP:∀a,ZK σ δ a->A1 a)(hp1:H1 p=none)(hpn:¬ZK σ δ p)(lp:Lp σ δ A1 p H1 H5 acc)(hl:acc.length<sizeLine)(r5:Rel K (inF A1 cap σ δ H3) σ4 H5 δ4)(pots:∀b,ZK σ4 δ4 b->ZK σ δ b)
  (h:we δ4 G XF)(hk:∀e,G e->∀H',Lp σ δ A1 p H1 H' (acc++[e])->(∀b o,¬A1 b->H5 b=some o->H' b=some o)->kk H'):QuD p (tX .D K E0 we) σ4 H5 kk:=by
 refine⟨inF A1 cap σ δ H3,δ4,G,XF,r5,h,λe he v H6 r6 kp6 dv=>?_,Qjf⟩;have k56:Kp σ δ H5 H6:=by
  refine⟨λb o n e=>kp6.1 b o (λz=>n (pots b z)) e,λb hb=>?_⟩;by_cases z:ZK σ4 δ4 b
  ·exact kp6.2 b z
  ·obtain⟨n,e⟩:=lp.kp.2 b hb;exact⟨n,kp6.1 _ _ z e⟩
 obtain⟨k6,ys,e6,q6⟩:=lp.step hP hpn k56;have up:∀{b:Addr}{o:HO},¬A1 b->H6 b=some o->upd H6 p (.lst (ys++[v])) b=some o:=λ{b o} n e=>by rw[JO (λz=>n (by rw[z];exact hpA))];exact e
 refine⟨ys,e6,by rw[q6.length];exact hl,hk e he _ ⟨⟨λb o n e=>?_,λb hb=>?_⟩,ys++[v],Jl,DAs.app (q6.mv (λ_ _=>up) λa z=>.inl z) (.cons (DA.mv dv (λa o n e=>up (λz=>n (.inl z)) e) λa z=>.inl (.inl z)) .nil)⟩ λb o n e=>up n (kp6.1 b o (λz=>n (hP b (pots b z))) e)⟩
 ·rw[JO (λz=>by rw[z,hp1] at e;cases e)];exact k6.1 b o n e
 ·rw[JO (λz=>hpn (by rw[<- z];exact hb))];exact k6.2 b hb
def Qpo:Nat:=1000000
@[irreducible] def InR(items2:List Qa)(wg2:DG)(wt2:DT)(we:DE)(δ4:Sts)(acc:List Qa)(N:List Qa->Prop):Prop:=∃Jv:Nat->List Qa->Prop,Jv 0 acc /\
 (∀(j:Nat) acc2 d2,items2[j]? = some d2->Jv j acc2->acc2.length<Qpo/\wg2 d2 δ4 λδ5=>wt2 δ5 (λb=>if b=true then we δ5 (λe=>Jv (j+1) (acc2++[e])) XF else Jv (j+1) acc2) XF)/\∀acc2,Jv items2.length acc2->N acc2
@[irreducible] def Qhz(items:List Qa)(wg:DG)(wt:DT)(wi2:DI)(wg2:DG)(wt2:DT)(we:DE)(δ:Sts)(Q:Qa->Prop):Prop:=∃Iv:Nat->List Qa->Prop,Iv 0 [] /\
 (∀(i:Nat) acc d,items[i]? = some d->Iv i acc->wg d δ λδ4=>wt δ4 (λb=>if b=true then wi2 δ4 (λitems2=>InR items2 wg2 wt2 we δ4 acc (Iv (i+1))) XF else Iv (i+1) acc) XF)/\∀acc,Iv items.length acc->Q (.list acc)
def QjI(cap:List (Option Nat))(wi:DI)(wg:DG)(wt:DT)(wi2:DI)(wg2:DG)(wt2:DT)(we:DE):DE:=λδ Q EX=>wi δ (λitems=>Qhz items wg wt wi2 wg2 wt2 we (QdO cap δ) Q) EX
section
variable{X:Cx}{E:XK}
theorem Qjp:Qpo<=sizeLine:=Q2 (by decide) Qf6
theorem QoX{M:List Str}{cap:List (Option Nat)}{elt tg iter tg2 iter2:QP}{ifs ifs2:List QP}{scope:Z5}{pos:Pos}{ix ix2:List Nat}{wi wi2:DI}{wg wg2:DG}{wt wt2:DT}{we:DE}(gok:GOk wg)(hc:X.calm=true)(ok:Qcr X.N X.env.scope M scope cap=true)(hf:QaR cap ix=true)(hf2:QaR cap ix2=true)(hd:ix2.all (λi => !ix.contains i)=true)
  (hi:PI X tg iter (tI .P X.K E wi))(hb:∀cl ex s3 H3 C,PG (blk X M scope cl ex s3 H3 C) tg (tG ix X.K wg)/\PTs (blk X M scope cl ex s3 H3 C) ifs (tT X.K E0 wt)/\PI (blk X M scope cl ex s3 H3 C) tg2 iter2 (tI .D X.K E0 wi2)/\PG (blk X M scope cl ex s3 H3 C) tg2 (tG ix2 X.K wg2)/\PTs (blk X M scope cl ex s3 H3 C) ifs2 (tT X.K E0 wt2)/\PE (blk X M scope cl ex s3 H3 C) elt (tX .D X.K E0 we))
  (hs:∀x,foldedSetIterable iter X.env x=pure x:=by intro _;rfl)(hs2:∀env x,foldedSetIterable iter2 env x=pure x:=by intro _ _;rfl):PE X (.ListComp elt [⟨tg,iter,ifs,0⟩,⟨tg2,iter2,ifs2,0⟩] scope pos) (tX .F X.K E (QjI cap wi wg wt wi2 wg2 wt2 we)):=by
 refine PE.imp (QlV hc ok hi hb hs hs2) λσ H Q ⟨F,δ,R,EX,rel,hw,k,o⟩=>?_
 refine⟨F,δ,_,EX,rel,hw,λitems hC J H1 rel1 kp1 ⟨ln,it⟩ p hp=>?_,o⟩;unfold Qhz at hC;obtain⟨Iv,i0,step,fin⟩:=hC;have hpn:¬ZK σ δ p:=λz=>by obtain⟨xs,e⟩:=rel1.isl (Yq (F:=F) z);rw[hp] at e;cases e
 let A1:Addr->Prop:=λa=>Av F σ δ a∨a=p
 have hP:∀a,ZK σ δ a->A1 a:=λa z=>.inl (Yq z)
 have hN:∀a,A1 a->Av F σ δ a∨H1 a=none:=λa z=>z.elim .inl λz=>.inr (by rw[z];exact hp)
 have dmK:∀{H2:Hp},Kp σ δ H1 H2->(∃ys,H2 p=some (.lst ys))->∀a,A1 a->∃xs,H2 a=some (.lst xs):=λ{H2} k2 e2 a z=>by
  rcases z with z | z
  ·exact(rel1.kp k2).isl z
  ·rw[z];exact e2
 refine QbP items.length (λi H2=>i<=items.length/\∃acc,Iv i acc/\Lp σ δ A1 p H1 H2 acc) ⟨Qw _,[],i0,Kp.same rel1 (Ji hp),[],Jl,.nil⟩ (λi H2 hi ⟨_,acc,iv,lp⟩=>?_) λH2 ⟨_,acc,iv,lp⟩=>?_
 ·obtain⟨k2,ys,e2,q2⟩:=lp;obtain⟨go,_⟩:=it H2 A1 (λb o n e=>k2.1 b o n e) hN (dmK k2 ⟨ys,e2⟩);have hd':items[i]? = some items[i]:=Ql hi;obtain⟨g1,g2⟩:=go i _ hd';refine⟨g1,λx H3 y kk hk=>?_⟩;obtain⟨s3,dx⟩:=g2 x H3 y;have k23:=Kp.same (rel1.kp k2) s3;have lp3:Lp σ δ A1 p H1 H3 acc:=Lp.step hP hpn ⟨k2,ys,e2,q2⟩ k23;refine QiP gok hf rel1 (λa z=>.inl z) hN (dmK lp3.kp ⟨ys,s3 _ _ e2⟩) lp3.kp dx (step i acc _ hd' iv) (λσ4 δ4 H5 h5 r5 k5 j4 l4 g4=>?_) λh5 H5 k5=>hk _ ⟨hi,acc,h5,lp3.step hP hpn k5⟩
  have av4:∀{H:Hp}{a:Addr},Av (inF A1 cap σ δ H) σ4 δ4 a->A1 a:=λ{H a} z=>QmQ hP hf j4 g4 z
  refine⟨inF A1 cap σ δ H3,δ4,_,XF,r5,h5,λitems2 hJ J2 H7 rel7 kp7 ⟨ln2,it2⟩=>?_,Qjf⟩;unfold InR at hJ;obtain⟨Jv,z0,step2,fin2⟩:=hJ;have pots4:∀{b:Addr},ZK σ4 δ4 b->ZK σ δ b:=λ{b} z=>by
   obtain⟨j,z1,z2⟩:=z;rcases g4 j _ z2 with⟨e,z⟩ | z
   ·cases z
   ·exact QbW ⟨j,by rw[<- j4 j (QcO hf z (λz=>by cases z))];exact z1,z⟩
  have k57:Kp σ δ H5 H7:=by
   refine⟨λb o n e=>kp7.1 b o (λz=>n (pots4 z)) e,λb hb=>?_⟩;by_cases z:ZK σ4 δ4 b
   ·exact kp7.2 b z
   ·obtain⟨n,e⟩:=k5.2 b hb;exact⟨n,kp7.1 _ _ z e⟩
  refine QbP items2.length (λj H8=>j<=items2.length/\∃acc2,Jv j acc2/\Lp σ δ A1 p H1 H8 acc2/\∀b o,¬A1 b->H7 b=some o->H8 b=some o) ⟨Qw _,acc,z0,(lp3.step hP hpn k5).step hP hpn k57,λ_ _ _ e=>e⟩ (λj H8 hj ⟨_,acc2,jv,lp8,s78⟩=>?_) λH8 ⟨_,acc2,jv,lp8,s78⟩=>?_
  ·obtain⟨ys8,e8,q8⟩:=lp8.at_;obtain⟨go2,_⟩:=it2 H8 A1 (λb o n e=>s78 b o (λz=>n (.inl z)) e) (λb z=>.inl (.inl z)) (dmK lp8.kp ⟨ys8,e8⟩);have hd2:items2[j]? = some items2[j]:=Ql hj;obtain⟨g3,g5⟩:=go2 j _ hd2;refine⟨g3,λx2 H9 y2 kk2 hk2=>?_⟩;obtain⟨s9,dx2⟩:=g5 x2 H9 y2;have k89:=Kp.same (rel1.kp lp8.kp) s9;have lp9:Lp σ δ A1 p H1 H9 acc2:=lp8.step hP hpn k89;have ri:=Qjt (cap:=cap) rel1 (λa z=>.inl z) hN (dmK lp9.kp ⟨ys8,s9 _ _ e8⟩) lp9.kp;have r9:=QmP hP hf j4 g4 ri r5 λa o n e=>s9 _ _ (s78 a o n (k57.1 a o (λz=>n (hP a z)) e))
   obtain⟨hl2,hw2⟩:=step2 j acc2 _ hd2 jv;refine⟨inF A1 cap σ δ H9,δ4,_,_,r9,dx2.mv (λ_ _ _ e=>e) λa z=>.inl (av4 z),hw2,λδ5 h6 σ5 r10 st5 l5 j5=>⟨Qla l5 λi v e=>?_,inF A1 cap σ δ H9,δ5,_,XF,r10,h6,λb hb H10 r11 kp11=>?_,Qjf⟩⟩
   ·by_cases z:i∈ix2
    ·have n1:i∉ix:=λz2=>by
      have:=Jz.mp hd i z;simp[z2] at this
     rw[j4 i n1] at e;rcases Qd4 e with⟨_,e2⟩ | ⟨j,hj2,_⟩
     ·cases e2
     ·rw[Qip hf2 z] at hj2;cases hj2
    ·rw[j5 i z];exact e
   ·have pots:∀{b:Addr},ZK σ5 δ5 b->ZK σ δ b:=λz=>Qf8 r10 (λb o _ e1 e2=>by rw[e2] at e1;cases e1) z
    have K10:Kp σ δ H9 H10:=by
     refine⟨λb o n e=>kp11.1 b o (λz=>n (pots z)) e,λb hb=>?_⟩;by_cases z:ZK σ5 δ5 b
     ·exact kp11.2 b z
     ·obtain⟨n,e⟩:=lp9.kp.2 b hb;exact⟨n,kp11.1 _ _ z e⟩
    have s710:∀b o,¬A1 b->H7 b=some o->H10 b=some o:=λb o n e=>K10.1 b o (λz=>n (hP b z)) (s9 _ _ (s78 b o n e))
    refine Qci hb (λz=>?_) λz=>hk2 _ ⟨hj,acc2,z,lp9.step hP hpn K10,s710⟩
    exact Qm1 (.inr rfl) hP hp hpn (lp9.step hP hpn K10) (QL hl2 Qjp) r11 (λb=>pots) z λe he H' lp' kk'=>hk2 _ ⟨hj,acc2++[e],he,lp',λb o n e=>kk' b o n (s710 b o n e)⟩
  ·obtain⟨ys8,e8,q8⟩:=lp8.at_;obtain⟨_,st2⟩:=it2 H8 A1 (λb o n e=>s78 b o (λz=>n (.inl z)) e) (λb z=>.inl (.inl z)) (dmK lp8.kp ⟨ys8,e8⟩);exact⟨st2,hk _ ⟨hi,acc2,fin2 acc2 jv,lp8⟩⟩
 ·obtain⟨k2,ys,e2,q2⟩:=lp;obtain⟨_,st⟩:=it H2 A1 (λb o n e=>k2.1 b o n e) hN (dmK k2 ⟨ys,e2⟩);refine⟨st,k _ (fin acc iv) (.ref p) H2 (rel1.kp k2) (kp1.trans k2) ⟨.lst (λz=>?_) e2 (q2.mv (λ_ _ _ e=>e) λa z=>.inl (.inl z)),λl e1 _=>?_⟩⟩
  ·obtain⟨xs,e⟩:=rel1.isl z;rw[hp] at e;cases e
  ·cases e1;exact Qbl kp1 hp
end
section
variable{X:Cx}{E:XK}
theorem QsN(M:List Str)(cap:List (Option Nat)){elt tg iter tg2 iter2:QP}{ifs ifs2:List QP}{scope:Z5}{pos:Pos}{ix ix2:List Nat}{wi wi2:DI}{wg wg2:DG}{wt wt2:DT}{we:DE}(gok:GOk wg)(hi:QI .P X E tg iter wi)(hb:∀cl ex s3 H3 C,QG ix (blk X M scope cl ex s3 H3 C) tg wg/\QTs (blk X M scope cl ex s3 H3 C) E0 ifs wt/\QI .D (blk X M scope cl ex s3 H3 C) E0 tg2 iter2 wi2/\QG ix2 (blk X M scope cl ex s3 H3 C) tg2 wg2/\QTs (blk X M scope cl ex s3 H3 C) E0 ifs2 wt2/\QE .D (blk X M scope cl ex s3 H3 C) E0 elt we)(hc:X.calm=true:=by rfl)(ok:Qcr X.N X.env.scope M scope cap=true:=by rfl)(hf:QaR cap ix=true:=by rfl)(hf2:QaR cap ix2=true:=by rfl)(hd:ix2.all (λi => !ix.contains i)=true:=by rfl)(hs:∀x,foldedSetIterable iter X.env x=pure x:=by intro _;rfl)(hs2:∀env x,foldedSetIterable iter2 env x=pure x:=by intro _ _;rfl) :
  QE .F X E (.ListComp elt [⟨tg,iter,ifs,0⟩,⟨tg2,iter2,ifs2,0⟩] scope pos) (QjI cap wi wg wt wi2 wg2 wt2 we):=⟨QoX gok hc ok hf hf2 hd hi.h (λcl ex s3 H3 C=>⟨(hb cl ex s3 H3 C).1.h,(hb cl ex s3 H3 C).2.1.h,(hb cl ex s3 H3 C).2.2.1.h,(hb cl ex s3 H3 C).2.2.2.1.h,(hb cl ex s3 H3 C).2.2.2.2.1.h,(hb cl ex s3 H3 C).2.2.2.2.2.h⟩) hs hs2⟩
end
theorem Qy1{items2:List Qa}{wg2:DG}{wt2:DT}{we:DE}{δ4:Sts}{acc:List Qa}{N:List Qa->Prop}(G:Qa->Option Qa)(hl:acc.length+items2.length<Qpo)
  (h:∀d∈items2,∀(k1:Prop)(k2:Qa->Prop),(G d=none->k1)->(∀e,G d=some e->k2 e)->wg2 d δ4 λδ5=>wt2 δ5 (λb=>if b=true then we δ5 k2 XF else k1) XF)(q:N (acc++items2.filterMap G)) :
  InR items2 wg2 wt2 we δ4 acc N:=by
 unfold InR;refine⟨λi acc2=>acc2=acc++(items2.take i).filterMap G,by simp,λi acc2 d hd e=>?_,λacc2 e=>by rw[e,ZJ];exact q⟩;have e:acc2=acc++(items2.take i).filterMap G:=e;have hs:(items2.take (i+1)).filterMap G=(items2.take i).filterMap G++(G d).toList:=by
  rw[YC,hd,QkU];cases e2:G d<;>simp[e2]
 refine⟨?_,h d (Q9 hd) _ _ (λe2=>?_) λe' e2=>?_⟩
 ·have:=List.length_filterMap_le G (items2.take i);have h2:(items2.take i).length<=items2.length:=by rw[J8];exact Qfz _ _
  rw[e,Qu];omega
 ·show acc2=acc++(items2.take (i+1)).filterMap G;rw[hs,e2,e];simp
 ·show acc2++[e']=acc++(items2.take (i+1)).filterMap G;rw[hs,e2,e];simp
theorem QrJ{items2:List Qa}{wg2:DG}{we:DE}{δ4:Sts}{acc:List Qa}{N:List Qa->Prop}(G:Qa->Qa)(hl:acc.length+items2.length<Qpo)
  (h:∀d∈items2,∀(k2:Qa->Prop),k2 (G d)->wg2 d δ4 λδ5=>we δ5 k2 XF)(q:N (acc++items2.map G)):InR items2 wg2 QrP we δ4 acc N:=by
 refine Qy1 (λd=>some (G d)) hl (λd hd k1 k2 _ h2=>?_) (by rw[show items2.filterMap (λd=>some (G d))=items2.map G from by rw[<- List.filterMap_eq_map];rfl];exact q);have hh:=h d hd k2 (h2 _ rfl);simp only[QrP,if_true];exact hh
section
open Rs PySem.W PySem.Calls
variable{X:Cx}
end
def QAM(a b:DI):DI:=λδ R EX=>a δ R EX∨b δ R EX
theorem QyA{X:Cx}{E:XK}{m:Md}{tg e:QP}{a b:DI}(h:QI m X E tg e a)(h':QI m X E tg e b):QI m X E tg e (QAM a b):=⟨λpins s σ H R I ⟨F,δ,R',EX,rel,hw,k,o⟩=>by
 rcases hw with hw | hw
 ·exact h.h pins s σ H R I ⟨F,δ,R',EX,rel,hw,k,o⟩
 ·exact h'.h pins s σ H R I ⟨F,δ,R',EX,rel,hw,k,o⟩⟩
end Dl
namespace PySem
namespace AutoSeq1
open PyProof
end AutoSeq1
end PySem
namespace L2
end L2
namespace Dl
open L2 _root_.Rd Rk
section
variable{X:Cx}{E:XK}
end
theorem Qhk{K:PySem.W.Frag}{E:XK}{cap:List (Option Nat)}{ix:List Nat}{wi:DI}{wg:DG}{wt:DT}{we:DE}(hf:QaR cap ix=true)(σ:L2.St)(H:Hp)(Q:VK)(h:tX .F K E (dComp cap wi wg wt we) σ H Q) :
  tComp cap (tI .P K E wi) (tG ix K wg) (tT K E0 wt) (tX .D K E0 we) σ H Q:=by
 obtain⟨F,δ,R,EX,rel,hw,k,o⟩:=h;refine⟨F,δ,_,EX,rel,hw,λitems hC J H1 rel1 kp1 ⟨ln,it⟩ p hp=>?_,o⟩;unfold QiG at hC;obtain⟨Iv,i0,step,fin⟩:=hC;have hpn:¬ZK σ δ p:=λz=>by obtain⟨xs,e⟩:=rel1.isl (Yq (F:=F) z);rw[hp] at e;cases e
 let A1:Addr->Prop:=λa=>Av F σ δ a∨a=p
 have hP:∀a,ZK σ δ a->A1 a:=λa z=>.inl (Yq z)
 have hN:∀a,A1 a->Av F σ δ a∨H1 a=none:=λa z=>z.elim .inl λz=>.inr (by rw[z];exact hp)
 have dmK:∀{H2:Hp},Kp σ δ H1 H2->(∃ys,H2 p=some (.lst ys))->∀a,A1 a->∃xs,H2 a=some (.lst xs):=λ{H2} k2 e2 a z=>by
  rcases z with z | z
  ·exact(rel1.kp k2).isl z
  ·rw[z];exact e2
 refine QbP items.length (λi H2=>i<=items.length/\∃acc,Iv i acc/\acc.length<=i/\Lp σ δ A1 p H1 H2 acc) ⟨Qw _,[],i0,Qi _,Kp.same rel1 (Ji hp),[],Jl,.nil⟩ (λi H2 hi ⟨_,acc,iv,hl,lp⟩=>?_) λH2 ⟨_,acc,iv,hl,lp⟩=>?_
 ·obtain⟨k2,ys,e2,q2⟩:=lp;obtain⟨go,_⟩:=it H2 A1 (λb o n e=>k2.1 b o n e) hN (dmK k2 ⟨ys,e2⟩);have hd:items[i]? = some items[i]:=Ql hi;obtain⟨g1,g2⟩:=go i _ hd;refine⟨g1,λx H3 y kk hk=>?_⟩;obtain⟨s3,dx⟩:=g2 x H3 y;have k23:=Kp.same (rel1.kp k2) s3;have lp3:Lp σ δ A1 p H1 H3 acc:=Lp.step hP hpn ⟨k2,ys,e2,q2⟩ k23;refine QhV hf rel1 (λa z=>.inl z) hN (dmK lp3.kp ⟨ys,s3 _ _ e2⟩) lp3.kp dx (step i acc _ hd iv) (λσ4 δ4 H5 h5 r5 k5 pots=>?_) λh5 H5 k5=>hk _ ⟨hi,acc,h5,by omega,lp3.step hP hpn k5⟩
  exact QrM (.inr rfl) hP hp hpn (lp3.step hP hpn k5) (by omega) r5 pots h5 λe he H' lp'=>hk _ ⟨hi,acc++[e],he,by rw[Qu];show _+1<=_;omega,lp'⟩
 ·obtain⟨k2,ys,e2,q2⟩:=lp;obtain⟨_,st⟩:=it H2 A1 (λb o n e=>k2.1 b o n e) hN (dmK k2 ⟨ys,e2⟩);refine⟨st,k _ (fin acc iv) (.ref p) H2 (rel1.kp k2) (kp1.trans k2) ⟨.lst (λz=>?_) e2 (q2.mv (λ_ _ _ e=>e) λa z=>.inl (.inl z)),λl e1 _=>?_⟩⟩
  ·obtain⟨xs,e⟩:=rel1.isl z;rw[hp] at e;cases e
  ·cases e1;exact Qbl kp1 hp
theorem QAI{K:PySem.W.Frag}{E:XK}{w:DE}(σ:L2.St)(H:Hp)(Q:VK)(h:tX .D K E w σ H Q):tX .F K E w σ H Q:=by
 obtain⟨F,δ,R,EX,rel,hw,k,o⟩:=h;exact⟨F,δ,R,EX,rel,hw,λd hd v H' r kp vk=>k d hd v H' r kp vk.1,o⟩
section
variable{X:Cx}{E:XK}
theorem Qom(M:List Str)(cap:List (Option Nat))(i:Nat){elt tg iter:QP}{ifs:List QP}{scope:Z5}{pos py spos:Pos}{y:Str}{ix:List Nat}{wi:DI}{wg:DG}{wt:DT}{we:DE}(hN:X.N.Nodup)(hi:QI .P X E tg iter wi)(hb:∀cl ex s3 H3 C,QG ix (blk X M scope cl ex s3 H3 C) tg wg/\QTs (blk X M scope cl ex s3 H3 C) E0 ifs wt/\QE .D (blk X M scope cl ex s3 H3 C) E0 elt we)(hiy:X.N[i]? = some y:=by rfl)(hly:X.env.scope.names.lookup y=some .local:=by rfl)(hc:X.calm=true:=by rfl)(ok:Qcr X.N X.env.scope M scope cap=true:=by rfl)(hf:QaR cap ix=true:=by rfl)(hs:∀x,foldedSetIterable iter X.env x=pure x:=by intro _;rfl)(hsw:swapsWith (.ListComp elt [⟨tg,iter,ifs,0⟩] scope pos) (some (.Name y py)) spos.line X.env=pure true:=by rfl):QS X E (.Assign [.Name y py] (.ListComp elt [⟨tg,iter,ifs,0⟩] scope pos) spos) (QpL i (dComp cap wi wg wt we)):=
 ⟨QfY (PS.imp (Qjb hN hiy hly hc ok hi.h (λcl ex s3 H3 C=>⟨(hb cl ex s3 H3 C).1.h,(hb cl ex s3 H3 C).2.1.h,(hb cl ex s3 H3 C).2.2.h⟩) hs hsw) λD σ H q=>Qhk (E:=E) hf σ H _ q)⟩
theorem QlH(M:List Str)(cap:List (Option Nat))(i:Nat){elt tg iter:QP}{ifs:List QP}{scope:Z5}{pos py spos:Pos}{y:Str}{ix:List Nat}{wi:DI}{wg:DG}{wt:DT}{we:DE}(hN:X.N.Nodup)(hi:QI .P X E tg iter wi)(hb:∀cl ex s3 H3 C,QG ix (blk X M scope cl ex s3 H3 C) tg wg/\QTs (blk X M scope cl ex s3 H3 C) E0 ifs wt/\QE .D (blk X M scope cl ex s3 H3 C) E0 elt we)(hiy:X.N[i]? = some y:=by rfl)(hly:X.env.scope.names.lookup y=some .local:=by rfl)(hc:X.calm=true:=by rfl)(ok:Qcr X.N X.env.scope M scope cap=true:=by rfl)(hf:QaR cap ix=true:=by rfl)(hs:∀x,foldedSetIterable iter X.env x=pure x:=by intro _;rfl)(hsw:swapsWith (.ListComp elt [⟨tg,iter,ifs,0⟩] scope pos) (some (.Name y py)) spos.line X.env=pure true:=by rfl):QS X E (.Assign [.Name y py] (.ListComp elt [⟨tg,iter,ifs,0⟩] scope pos) spos) (Qzh i (dComp cap wi wg wt we)):=
 ⟨QlZ (PS.imp (PS.imp (Qjb hN hiy hly hc ok hi.h (λcl ex s3 H3 C=>⟨(hb cl ex s3 H3 C).1.h,(hb cl ex s3 H3 C).2.1.h,(hb cl ex s3 H3 C).2.2.h⟩) hs hsw) λD σ H q=>Qhk (E:=E) hf σ H _ q) λD σ H q=>QAI σ H _ q)⟩
end
theorem QkI{K:PySem.W.Frag}{E:XK}{cap:List (Option Nat)}{ix ix2:List Nat}{wi wi2:DI}{wg wg2:DG}{wt wt2:DT}{we:DE}(gok:GOk wg)(hf:QaR cap ix=true)(hf2:QaR cap ix2=true)(hd:ix2.all (λi => !ix.contains i)=true)(σ:L2.St)(H:Hp)(Q:VK)(h:tX .F K E (QjI cap wi wg wt wi2 wg2 wt2 we) σ H Q) :
  Qli cap (tI .P K E wi) (tG ix K wg) (tT K E0 wt) (tI .D K E0 wi2) (tG ix2 K wg2) (tT K E0 wt2) (tX .D K E0 we) σ H Q:=by
 obtain⟨F,δ,R,EX,rel,hw,k,o⟩:=h;refine⟨F,δ,_,EX,rel,hw,λitems hC J H1 rel1 kp1 ⟨ln,it⟩ p hp=>?_,o⟩;unfold Qhz at hC;obtain⟨Iv,i0,step,fin⟩:=hC;have hpn:¬ZK σ δ p:=λz=>by obtain⟨xs,e⟩:=rel1.isl (Yq (F:=F) z);rw[hp] at e;cases e
 let A1:Addr->Prop:=λa=>Av F σ δ a∨a=p
 have hP:∀a,ZK σ δ a->A1 a:=λa z=>.inl (Yq z)
 have hN:∀a,A1 a->Av F σ δ a∨H1 a=none:=λa z=>z.elim .inl λz=>.inr (by rw[z];exact hp)
 have dmK:∀{H2:Hp},Kp σ δ H1 H2->(∃ys,H2 p=some (.lst ys))->∀a,A1 a->∃xs,H2 a=some (.lst xs):=λ{H2} k2 e2 a z=>by
  rcases z with z | z
  ·exact(rel1.kp k2).isl z
  ·rw[z];exact e2
 refine QbP items.length (λi H2=>i<=items.length/\∃acc,Iv i acc/\Lp σ δ A1 p H1 H2 acc) ⟨Qw _,[],i0,Kp.same rel1 (Ji hp),[],Jl,.nil⟩ (λi H2 hi ⟨_,acc,iv,lp⟩=>?_) λH2 ⟨_,acc,iv,lp⟩=>?_
 ·obtain⟨k2,ys,e2,q2⟩:=lp;obtain⟨go,_⟩:=it H2 A1 (λb o n e=>k2.1 b o n e) hN (dmK k2 ⟨ys,e2⟩);have hd':items[i]? = some items[i]:=Ql hi;obtain⟨g1,g2⟩:=go i _ hd';refine⟨g1,λx H3 y kk hk=>?_⟩;obtain⟨s3,dx⟩:=g2 x H3 y;have k23:=Kp.same (rel1.kp k2) s3;have lp3:Lp σ δ A1 p H1 H3 acc:=Lp.step hP hpn ⟨k2,ys,e2,q2⟩ k23;refine QiP gok hf rel1 (λa z=>.inl z) hN (dmK lp3.kp ⟨ys,s3 _ _ e2⟩) lp3.kp dx (step i acc _ hd' iv) (λσ4 δ4 H5 h5 r5 k5 j4 l4 g4=>?_) λh5 H5 k5=>hk _ ⟨hi,acc,h5,lp3.step hP hpn k5⟩
  have av4:∀{H:Hp}{a:Addr},Av (inF A1 cap σ δ H) σ4 δ4 a->A1 a:=λ{H a} z=>QmQ hP hf j4 g4 z
  refine⟨inF A1 cap σ δ H3,δ4,_,XF,r5,h5,λitems2 hJ J2 H7 rel7 kp7 ⟨ln2,it2⟩=>?_,Qjf⟩;unfold InR at hJ;obtain⟨Jv,z0,step2,fin2⟩:=hJ;have pots4:∀{b:Addr},ZK σ4 δ4 b->ZK σ δ b:=λ{b} z=>by
   obtain⟨j,z1,z2⟩:=z;rcases g4 j _ z2 with⟨e,z⟩ | z
   ·cases z
   ·exact QbW ⟨j,by rw[<- j4 j (QcO hf z (λz=>by cases z))];exact z1,z⟩
  have k57:Kp σ δ H5 H7:=by
   refine⟨λb o n e=>kp7.1 b o (λz=>n (pots4 z)) e,λb hb=>?_⟩;by_cases z:ZK σ4 δ4 b
   ·exact kp7.2 b z
   ·obtain⟨n,e⟩:=k5.2 b hb;exact⟨n,kp7.1 _ _ z e⟩
  refine QbP items2.length (λj H8=>j<=items2.length/\∃acc2,Jv j acc2/\Lp σ δ A1 p H1 H8 acc2/\∀b o,¬A1 b->H7 b=some o->H8 b=some o) ⟨Qw _,acc,z0,(lp3.step hP hpn k5).step hP hpn k57,λ_ _ _ e=>e⟩ (λj H8 hj ⟨_,acc2,jv,lp8,s78⟩=>?_) λH8 ⟨_,acc2,jv,lp8,s78⟩=>?_
  ·obtain⟨ys8,e8,q8⟩:=lp8.at_;obtain⟨go2,_⟩:=it2 H8 A1 (λb o n e=>s78 b o (λz=>n (.inl z)) e) (λb z=>.inl (.inl z)) (dmK lp8.kp ⟨ys8,e8⟩);have hd2:items2[j]? = some items2[j]:=Ql hj;obtain⟨g3,g5⟩:=go2 j _ hd2;refine⟨g3,λx2 H9 y2 kk2 hk2=>?_⟩;obtain⟨s9,dx2⟩:=g5 x2 H9 y2;have k89:=Kp.same (rel1.kp lp8.kp) s9;have lp9:Lp σ δ A1 p H1 H9 acc2:=lp8.step hP hpn k89;have ri:=Qjt (cap:=cap) rel1 (λa z=>.inl z) hN (dmK lp9.kp ⟨ys8,s9 _ _ e8⟩) lp9.kp;have r9:=QmP hP hf j4 g4 ri r5 λa o n e=>s9 _ _ (s78 a o n (k57.1 a o (λz=>n (hP a z)) e))
   obtain⟨hl2,hw2⟩:=step2 j acc2 _ hd2 jv;refine⟨inF A1 cap σ δ H9,δ4,_,_,r9,dx2.mv (λ_ _ _ e=>e) λa z=>.inl (av4 z),hw2,λδ5 h6 σ5 r10 st5 l5 j5=>⟨Qla l5 λi v e=>?_,inF A1 cap σ δ H9,δ5,_,XF,r10,h6,λb hb H10 r11 kp11=>?_,Qjf⟩⟩
   ·by_cases z:i∈ix2
    ·have n1:i∉ix:=λz2=>by
      have:=Jz.mp hd i z;simp[z2] at this
     rw[j4 i n1] at e;rcases Qd4 e with⟨_,e2⟩ | ⟨j,hj2,_⟩
     ·cases e2
     ·rw[Qip hf2 z] at hj2;cases hj2
    ·rw[j5 i z];exact e
   ·have pots:∀{b:Addr},ZK σ5 δ5 b->ZK σ δ b:=λz=>Qf8 r10 (λb o _ e1 e2=>by rw[e2] at e1;cases e1) z
    have K10:Kp σ δ H9 H10:=by
     refine⟨λb o n e=>kp11.1 b o (λz=>n (pots z)) e,λb hb=>?_⟩;by_cases z:ZK σ5 δ5 b
     ·exact kp11.2 b z
     ·obtain⟨n,e⟩:=lp9.kp.2 b hb;exact⟨n,kp11.1 _ _ z e⟩
    have s710:∀b o,¬A1 b->H7 b=some o->H10 b=some o:=λb o n e=>K10.1 b o (λz=>n (hP b z)) (s9 _ _ (s78 b o n e))
    refine Qci hb (λz=>?_) λz=>hk2 _ ⟨hj,acc2,z,lp9.step hP hpn K10,s710⟩
    exact Qm1 (.inr rfl) hP hp hpn (lp9.step hP hpn K10) (QL hl2 Qjp) r11 (λb=>pots) z λe he H' lp' kk'=>hk2 _ ⟨hj,acc2++[e],he,lp',λb o n e=>kk' b o n (s710 b o n e)⟩
  ·obtain⟨ys8,e8,q8⟩:=lp8.at_;obtain⟨_,st2⟩:=it2 H8 A1 (λb o n e=>s78 b o (λz=>n (.inl z)) e) (λb z=>.inl (.inl z)) (dmK lp8.kp ⟨ys8,e8⟩);exact⟨st2,hk _ ⟨hi,acc2,fin2 acc2 jv,lp8⟩⟩
 ·obtain⟨k2,ys,e2,q2⟩:=lp;obtain⟨_,st⟩:=it H2 A1 (λb o n e=>k2.1 b o n e) hN (dmK k2 ⟨ys,e2⟩);refine⟨st,k _ (fin acc iv) (.ref p) H2 (rel1.kp k2) (kp1.trans k2) ⟨.lst (λz=>?_) e2 (q2.mv (λ_ _ _ e=>e) λa z=>.inl (.inl z)),λl e1 _=>?_⟩⟩
  ·obtain⟨xs,e⟩:=rel1.isl z;rw[hp] at e;cases e
  ·cases e1;exact Qbl kp1 hp
section
variable{X:Cx}{E:XK}
theorem QlG(M:List Str)(cap:List (Option Nat))(i:Nat){elt tg iter tg2 iter2:QP}{ifs ifs2:List QP}{scope:Z5}{pos py spos:Pos}{y:Str}{ix ix2:List Nat}{wi wi2:DI}{wg wg2:DG}{wt wt2:DT}{we:DE}(hN:X.N.Nodup)(gok:GOk wg)(hi:QI .P X E tg iter wi)(hb:∀cl ex s3 H3 C,QG ix (blk X M scope cl ex s3 H3 C) tg wg/\QTs (blk X M scope cl ex s3 H3 C) E0 ifs wt/\QI .D (blk X M scope cl ex s3 H3 C) E0 tg2 iter2 wi2/\QG ix2 (blk X M scope cl ex s3 H3 C) tg2 wg2/\QTs (blk X M scope cl ex s3 H3 C) E0 ifs2 wt2/\QE .D (blk X M scope cl ex s3 H3 C) E0 elt we)(hiy:X.N[i]? = some y:=by rfl)(hly:X.env.scope.names.lookup y=some .local:=by rfl)(hc:X.calm=true:=by rfl)(ok:Qcr X.N X.env.scope M scope cap=true:=by rfl)(hf:QaR cap ix=true:=by rfl)(hf2:QaR cap ix2=true:=by rfl)(hd:ix2.all (λi => !ix.contains i)=true:=by rfl)(hs:∀x,foldedSetIterable iter X.env x=pure x:=by intro _;rfl)(hs2:∀env x,foldedSetIterable iter2 env x=pure x:=by intro _ _;rfl)(hsw:swapsWith (.ListComp elt [⟨tg,iter,ifs,0⟩,⟨tg2,iter2,ifs2,0⟩] scope pos) (some (.Name y py)) spos.line X.env=pure true:=by rfl):QS X E (.Assign [.Name y py] (.ListComp elt [⟨tg,iter,ifs,0⟩,⟨tg2,iter2,ifs2,0⟩] scope pos) spos) (QpL i (QjI cap wi wg wt wi2 wg2 wt2 we)):=
 ⟨QfY (PS.imp (QlN hN hiy hly hc ok hi.h (λcl ex s3 H3 C=>⟨(hb cl ex s3 H3 C).1.h,(hb cl ex s3 H3 C).2.1.h,(hb cl ex s3 H3 C).2.2.1.h,(hb cl ex s3 H3 C).2.2.2.1.h,(hb cl ex s3 H3 C).2.2.2.2.1.h,(hb cl ex s3 H3 C).2.2.2.2.2.h⟩) hs hs2 hsw) λD σ H q=>QkI (E:=E) gok hf hf2 hd σ H _ q)⟩
end
theorem Qmr(L:List (Int×Int)):nds (L.map Rk.pairD)=true:=Qf1.mpr λd hd=>by
 obtain⟨i,_,rfl⟩:=Qx.mp hd;rfl
def rkD:Qa->Nat
 |.int _=>0
 |.tuple _=>1
 |_=>2
def Qfr(i j:Int):Ordering:=if i<j then .lt else if i=j then .eq else .gt
def QAN(i j:Nat):Ordering:=if i<j then .lt else if i=j then .eq else .gt
def thn(o:Ordering)(p:Ordering):Ordering:=match o with
 |.eq=>p
 |o=>o
mutual
def QbV:Qa->Qa->Ordering
 |.int i,.int j=>Qfr i j
 |.tuple a,.tuple b=>Qbn a b
 |x,y=>QAN (rkD x) (rkD y)
def Qbn:List Qa->List Qa->Ordering
 |[],[]=>.eq
 |[],_::_=>.lt
 |_::_,[]=>.gt
 |x::xs,y::ys=>thn (QbV x y) (Qbn xs ys)
end
def isL:Ordering->Bool
 |.lt=>true
 |_=>false
def ltD(x y:Qa):Bool:=isL (QbV x y)
def QtN(x y:List Qa):Bool:=isL (Qbn x y)
def sw:Ordering->Ordering
 |.lt=>.gt
 |.gt=>.lt
 |.eq=>.eq
def Qfn:Ordering->Bool
 |.gt=>false
 |_=>true
theorem QuY(a b:Ordering):sw (thn a b)=thn (sw a) (sw b):=by cases a<;>rfl
theorem Qug(i j:Int):Qfr j i=sw (Qfr i j):=by
 unfold Qfr;by_cases h:i<j
 ·rw[if_neg (by omega),if_neg (by omega),if_pos h];rfl
 ·by_cases h2:i=j
  ·rw[if_neg (by omega),if_pos h2.symm,if_neg h,if_pos h2];rfl
  ·rw[if_pos (by omega),if_neg h,if_neg h2];rfl
theorem Quh(i j:Int):Qfn (Qfr i j)=decide (i<=j):=by
 unfold Qfr;by_cases h:i<j
 ·rw[if_pos h];exact(decide_eq_true (by omega)).symm
 ·by_cases h2:i=j
  ·rw[if_neg h,if_pos h2];exact(decide_eq_true (by omega)).symm
  ·rw[if_neg h,if_neg h2];exact(decide_eq_false (by omega)).symm
mutual
theorem Qdt:∀(x y:Qa),QbV y x=sw (QbV x y)
 |.int i,.int j=>Qug i j
 |.tuple a,.tuple b=>QjN a b
 |.int _,.tuple _=>rfl
 |.tuple _,.int _=>rfl
 |.int _,.none=>rfl
 |.int _,.bool _=>rfl
 |.int _,.str _=>rfl
 |.int _,.list _=>rfl
 |.int _,.dict _=>rfl
 |.tuple _,.none=>rfl
 |.tuple _,.bool _=>rfl
 |.tuple _,.str _=>rfl
 |.tuple _,.list _=>rfl
 |.tuple _,.dict _=>rfl
 |.none,y=>by cases y<;>rfl
 |.bool _,y=>by cases y<;>rfl
 |.str _,y=>by cases y<;>rfl
 |.list _,y=>by cases y<;>rfl
 |.dict _,y=>by cases y<;>rfl
theorem QjN:∀(xs ys:List Qa),Qbn ys xs=sw (Qbn xs ys)
 |[],[]=>rfl
 |[],_::_=>rfl
 |_::_,[]=>rfl
 |x::xs,y::ys=>by
  show thn (QbV y x) (Qbn ys xs)=sw (thn (QbV x y) (Qbn xs ys));rw[Qdt x y,QjN xs ys,QuY]
end
theorem Qws{a c:Ordering}(hab:Qfn a=true)(h:Qfn (sw c)=true->Qfn (sw a)=true)(ha:a=.lt):c=.lt:=by
 subst ha;cases c with
 |lt=>rfl
 |eq=>cases h rfl
 |gt=>cases h rfl
mutual
theorem Qgc:∀(x y z:Qa),Qfn (QbV x y)=true->Qfn (QbV y z)=true->Qfn (QbV x z)=true
 |.int i,.int j,.int k,h1,h2=>by
  have h1:Qfn (Qfr i j)=true:=h1;have h2:Qfn (Qfr j k)=true:=h2;show Qfn (Qfr i k)=true;rw[Quh] at h1 h2 ⊢;have a:=of_decide_eq_true h1;have b:=of_decide_eq_true h2;exact decide_eq_true (by omega)
 |.tuple a,.tuple b,.tuple c,h1,h2=>QjM a b c h1 h2
 |.int _,y,.tuple _,h1,h2=>rfl
 |.int _,.tuple _,.int _,h1,h2=>by cases h2
 |.tuple _,.int _,z,h1,h2=>by cases h1
 |.tuple _,.tuple _,.int _,h1,h2=>by cases h2
 |.int _,y,.none,_,_=>rfl
 |.int _,y,.bool _,_,_=>rfl
 |.int _,y,.str _,_,_=>rfl
 |.int _,y,.list _,_,_=>rfl
 |.int _,y,.dict _,_,_=>rfl
 |.tuple _,y,.none,_,_=>rfl
 |.tuple _,y,.bool _,_,_=>rfl
 |.tuple _,y,.str _,_,_=>rfl
 |.tuple _,y,.list _,_,_=>rfl
 |.tuple _,y,.dict _,_,_=>rfl
 |.int _,.none,.int _,h1,h2=>by cases h2
 |.int _,.bool _,.int _,h1,h2=>by cases h2
 |.int _,.str _,.int _,h1,h2=>by cases h2
 |.int _,.list _,.int _,h1,h2=>by cases h2
 |.int _,.dict _,.int _,h1,h2=>by cases h2
 |.tuple _,.none,.int _,h1,h2=>by cases h2
 |.tuple _,.bool _,.int _,h1,h2=>by cases h2
 |.tuple _,.str _,.int _,h1,h2=>by cases h2
 |.tuple _,.list _,.int _,h1,h2=>by cases h2
 |.tuple _,.dict _,.int _,h1,h2=>by cases h2
 |.tuple _,.none,.tuple _,h1,h2=>by cases h2
 |.tuple _,.bool _,.tuple _,h1,h2=>by cases h2
 |.tuple _,.str _,.tuple _,h1,h2=>by cases h2
 |.tuple _,.list _,.tuple _,h1,h2=>by cases h2
 |.tuple _,.dict _,.tuple _,h1,h2=>by cases h2
 |.none,y,z,h1,h2=>by cases y<;>cases z<;>first | rfl | (cases h1;done) | (cases h2;done)
 |.bool _,y,z,h1,h2=>by cases y<;>cases z<;>first | rfl | (cases h1;done) | (cases h2;done)
 |.str _,y,z,h1,h2=>by cases y<;>cases z<;>first | rfl | (cases h1;done) | (cases h2;done)
 |.list _,y,z,h1,h2=>by cases y<;>cases z<;>first | rfl | (cases h1;done) | (cases h2;done)
 |.dict _,y,z,h1,h2=>by cases y<;>cases z<;>first | rfl | (cases h1;done) | (cases h2;done)
 termination_by x y z=>sizeOf x+sizeOf y+sizeOf z
theorem QjM:∀(xs ys zs:List Qa),Qfn (Qbn xs ys)=true->Qfn (Qbn ys zs)=true->Qfn (Qbn xs zs)=true
 |[],_,[],_,_=>rfl
 |[],_,_::_,_,_=>rfl
 |_::_,[],_,h1,_=>by cases h1
 |_::_,_::_,[],_,h2=>by cases h2
 |x::xs,y::ys,z::zs,h1,h2=>by
  have h1:Qfn (thn (QbV x y) (Qbn xs ys))=true:=h1;have h2:Qfn (thn (QbV y z) (Qbn ys zs))=true:=h2;show Qfn (thn (QbV x z) (Qbn xs zs))=true;have a1:Qfn (QbV x y)=true:=by cases e:QbV x y<;>rw[e] at h1<;>first | rfl | cases h1
  have a2:Qfn (QbV y z)=true:=by cases e:QbV y z<;>rw[e] at h2<;>first | rfl | cases h2
  have a3:=Qgc x y z a1 a2;cases e1:QbV x y with
  |gt=>rw[e1] at a1;cases a1
  |lt=>
   have:QbV x z=.lt:=Qws (a:=QbV x y) a1 (λq=>by
    rw[<- Qdt x z] at q;rw[<- Qdt x y];exact Qgc y z x a2 q) e1
   rw[this];rfl
  |eq=>
   cases e2:QbV y z with
   |gt=>rw[e2] at a2;cases a2
   |lt=>
    have:QbV x z=.lt:=Qws (a:=QbV y z) a2 (λq=>by
     rw[<- Qdt x z] at q;rw[<- Qdt y z];exact Qgc z x y q a1) e2
    rw[this];rfl
   |eq=>
    rw[e1] at h1;rw[e2] at h2;cases e3:QbV x z with
    |gt=>rw[e3] at a3;cases a3
    |lt=>rfl
    |eq=>exact QjM xs ys zs h1 h2
 termination_by x y z=>sizeOf x+sizeOf y+sizeOf z
end
theorem QwE(o:Ordering):isL (sw o) = !Qfn o:=by cases o<;>rfl
theorem Qmx(x y:Qa):ltD y x = !Qfn (QbV x y):=by unfold ltD;rw[Qdt x y,QwE]
theorem Qjo(x y:Qa)(h:ltD x y=true):ltD y x=false:=by
 rw[Qmx];unfold ltD at h;cases e:QbV x y<;>rw[e] at h<;>first | rfl | cases h
theorem QrD(x y z:Qa)(h1:ltD y x=false)(h2:ltD z y=false):ltD z x=false:=by
 rw[Qmx] at h1 h2 ⊢;rw[Qgc x y z (by simpa using h1) (by simpa using h2)];rfl
mutual
def QhN:Qa->Qa->Bool
 |.int _,.int _=>true
 |.tuple a,.tuple b=>QbU a b
 |_,_=>false
def QbU:List Qa->List Qa->Bool
 |x::xs,y::ys=>QhN x y&&QbU xs ys
 |_,_=>true
end
def isE:Ordering->Bool
 |.eq=>true
 |_=>false
theorem QtW(a b:Ordering):isE (thn a b)=(isE a&&isE b):=by cases a<;>rfl
mutual
theorem QmY:∀(x y:Qa),QhN x y=true->Jq x y=isE (QbV x y)
 |.int i,.int j,_=>by
  show(i == j)=isE (Qfr i j);unfold Qfr;by_cases h:i=j
  ·subst h;simp[isE]
  ·rw[beq_eq_false_iff_ne.mpr h];split
   ·rfl
   ·rfl
 |.tuple a,.tuple b,h=>QmX a b h
 |.int _,.tuple _,h=>by cases h
 |.tuple _,.int _,h=>by cases h
 |.int _,.none,h=>by cases h
 |.int _,.bool _,h=>by cases h
 |.int _,.str _,h=>by cases h
 |.int _,.list _,h=>by cases h
 |.int _,.dict _,h=>by cases h
 |.tuple _,.none,h=>by cases h
 |.tuple _,.bool _,h=>by cases h
 |.tuple _,.str _,h=>by cases h
 |.tuple _,.list _,h=>by cases h
 |.tuple _,.dict _,h=>by cases h
 |.none,y,h=>by cases y<;>cases h
 |.bool _,y,h=>by cases y<;>cases h
 |.str _,y,h=>by cases y<;>cases h
 |.list _,y,h=>by cases y<;>cases h
 |.dict _,y,h=>by cases y<;>cases h
theorem QmX:∀(xs ys:List Qa),QbU xs ys=true->Quv xs ys=isE (Qbn xs ys)
 |[],[],_=>rfl
 |[],_::_,_=>rfl
 |_::_,[],_=>rfl
 |x::xs,y::ys,h=>by
  have h:=Qs.mp (show(QhN x y&&QbU xs ys)=true from h);show(Jq x y&&Quv xs ys)=isE (thn (QbV x y) (Qbn xs ys));rw[QmY x y h.1,QmX xs ys h.2,QtW]
end
end Dl
namespace Rt
open PySem.Calls Dl
theorem Qew:∀{ds:List Qa}{d:Qa},d∈ds->d.depth<=Q4 ds
 |x::ds,d,h=>by
  show d.depth<=max x.depth (Q4 ds);rcases Qz.mp h with z | z
  ·subst z;exact Nat.le_max_left _ _
  ·exact Q2 (Qew z) (QfA _ _)
theorem readsAll_len{h:J5}:∀{vs:List Value}{ds:List Qa}{as:List Addr},YB h vs ds as->vs.length=ds.length
 |_,_,_,.nil=>rfl
 |_,_,_,.cons _ r=>by rw[QJ,QJ,readsAll_len r]
section
open PySem.SeqAt
open PySem.AutoSeq1 (wpAny_loadPart')
open PySem.MeetsSeq PySem.MeetsSeq2 PySem.MeetsSeq3
theorem Qdz{l b:Addr}{items items2:Array Value}{n n2:Nat}{dd dd2:Option Addr}{sl sl2:Array (Option Value)}{ds es:List Qa}{as bs:List Addr}{N:Nat}(hk:QbU ds es=true)(hc1:Q8 ds=true)(hc2:Q8 es=true)(hd:Q4 ds<=N)
  (ih:∀(x y:Qa)(A:Q5)(s:Shared)(v u:Value)(p q:List Addr),Qa5 s.heap v x p->Qa5 s.heap u y q->x.canLay0=true->y.canLay0=true->QhN x y=true->x.depth<=N->A.units+2*N+2<cLine->∀(prog:Qy)(w:Jg)(E Q:Value->Shared->Prop),Q (.bool (ltD x y)) s->wpAny (model prog w) A (richCompare .Lt v u) Q E s) :
  Meets (QcC.«tuple.__lt__» ⟨[.ref l,.ref b],[]⟩)
   (λA R s=>s.heap.get? l=some { cls:=.type "tuple",dict:=dd,data:=.seq items n,slots:=sl }/\s.heap.get? b=some { cls:=.type "tuple",dict:=dd2,data:=.seq items2 n2,slots:=sl2 }/\YB s.heap items.toList ds as/\YB s.heap items2.toList es bs/\A.units+2*N+4<cLine /\
    R (.ok (.ret (.bool (QtN ds es)))) s):=
 .of_wp λprog w A R s h=>by
  obtain⟨hp,g,d,tk,os⟩:=s;obtain⟨hl,hb,hr1,hr2,hu,h⟩:=h;have f2:=AutoSeq1.sub_tuple_tuple;have hu1:A.in1.units+2*N+2<cLine:=by show A.units+1+2*N+2<cLine;omega
  have z1:items.size=ds.length:=by rw[<- readsAll_len hr1];simp
  have z2:items2.size=es.length:=by rw[<- readsAll_len hr2];simp
  wp_walk using wpAny_loadPart' hl,wpAny_loadPart' hb,wpAny_forIn_list _ (λrest b s'=>b.1=none/\s'=⟨hp,g,d,tk,os⟩/\∃(vs ws:List Value)(xs ys:List Qa)(p q:List Addr),rest=vs.zip ws /\
   YB hp vs xs p/\YB hp ws ys q/\QbU xs ys=true/\Q8 xs=true/\Q8 ys=true/\Q4 xs<=N/\xs.length+items2.size=ys.length+items.size/\R (.ok (.ret (.bool (QtN xs ys)))) ⟨hp,g,d,tk,os⟩) _
  case turn=>
   rintro⟨y,x⟩ rest b s' ⟨hb',rfl,vs,ws,xs,ys,p,q,hz,hvi,hwi,hkk,c1,c2,hdd,hlen,hR⟩;cases hvi with
   |nil=>rw[List.zip_nil_left] at hz;cases hz
   |@cons v0 vs0 d1 ds1 as1 as2 r1 hvi'=>
    cases hwi with
    |nil=>rw[List.zip_nil_right] at hz;cases hz
    |@cons u0 us0 d2 ds2 bs1 bs2 r2 hwi'=>
     rw[QdR] at hz;injection hz with hyx hrest
     injection hyx with hy hx
     subst hy hx;have hkk:=Qs.mp (show(QhN d1 d2&&QbU ds1 ds2)=true from hkk);simp only[Q8,JG] at c1 c2;have dm1:d1.depth<=N:=Q2 (Qew (ds:=d1::ds1) (.head _)) hdd;have dm2:Q4 ds1<=N:=Q2 (show Q4 ds1<=max d1.depth (Q4 ds1) from QfA _ _) hdd;simp only[QJ] at hlen;have he:=QeH d1 d2 A.in1 ⟨hp,g,d,tk,os⟩ y x _ _ r1 r2 c1.1 c2.1 (by omega);have hR:R (.ok (.ret (.bool (isL (thn (QbV d1 d2) (Qbn ds1 ds2)))))) ⟨hp,g,d,tk,os⟩:=hR;rw[QmY d1 d2 hkk.1] at he;have hri:=λE Q=>ih d1 d2 A.in1 ⟨hp,g,d,tk,os⟩ y x _ _ r1 r2 c1.1 c2.1 hkk.1 dm1 hu1 prog w E Q
     unfold ltD at hri;cases e1:QbV d1 d2 with
     |lt=>
      rw[e1] at he hR hri;refine wpAny_bind (he prog w _ _ ?_)
      wp_walk using hri
      exact⟨_,rfl,hR⟩
     |gt=>
      rw[e1] at he hR hri;refine wpAny_bind (he prog w _ _ ?_)
      wp_walk using hri
      exact⟨_,rfl,hR⟩
     |eq=>
      rw[e1] at he hR;refine wpAny_bind (he prog w _ _ ?_)
      wp_walk
      exact⟨rfl,rfl,_,_,_,_,_,_,hrest,hvi',hwi',hkk.2,c1.2,c2.2,dm2,by omega,hR⟩
  case fin=>
   rintro⟨b1,b2⟩ s' ⟨hb',rfl,vs,ws,xs,ys,p,q,hz,hvi,hwi,hkk,c1,c2,hdd,hlen,hR⟩;simp only at hb';subst hb';have hv:QtN xs ys=decide (items.size<items2.size):=by
    cases hvi with
    |nil=>
     cases hwi with
     |nil=>
      simp only[Qa3] at hlen;exact(decide_eq_false (by omega)).symm
     |cons r2 hw=>
      simp only[Qa3,QJ] at hlen;exact(decide_eq_true (by omega)).symm
    |cons r1 hv=>
     cases hwi with
     |nil=>
      simp only[Qa3,QJ] at hlen;exact(decide_eq_false (by omega)).symm
     |cons r2 hw=>
      rw[QdR] at hz;cases hz
   rw[hv] at hR
   wp_walk
   exact⟨_,rfl,by simpa [Qyb] using hR⟩
  case h=>
   exact⟨rfl,rfl,items.toList,items2.toList,ds,es,as,bs,rfl,hr1,hr2,hk,hc1,hc2,hd,by omega,h⟩
end
end Rt
namespace Rt
open PySem.Calls PySem.W Dl
mutual
def okK:Qa->Bool
 |.int _=>true
 |.tuple ds=>Qdk ds
 |_=>false
def Qdk:List Qa->Bool
 |[]=>true
 |d::ds=>okK d&&Qdk ds
end
mutual
theorem Qdf{h h':J5}(k:∀b o,h.get? b=some o->h'.get? b=some o):∀(d:Qa)(v:Value)(as:List Addr),okK d=true->Qa5 h v d as->Qa5 h' v d as
 |.int _,_,_,_,.int i t=>.int i t
 |.tuple ds,_,_,hk,.tuple (vs:=vs) e c d r=>.tuple (k _ _ e) c d (Qaq k ds _ _ hk r)
 |.none,_,_,hk,_=>by cases hk
 |.bool _,_,_,hk,_=>by cases hk
 |.str _,_,_,hk,_=>by cases hk
 |.list _,_,_,hk,_=>by cases hk
 |.dict _,_,_,hk,_=>by cases hk
theorem Qaq{h h':J5}(k:∀b o,h.get? b=some o->h'.get? b=some o):∀(ds:List Qa)(vs:List Value)(as:List Addr),Qdk ds=true->YB h vs ds as->YB h' vs ds as
 |[],_,_,_,.nil=>.nil
 |d::ds,_,_,hk,.cons r rs=>by
  have hk:=Qs.mp (show(okK d&&Qdk ds)=true from hk);exact .cons (Qdf k d _ _ hk.1 r) (Qaq k ds _ _ hk.2 rs)
end
theorem Qsy:∀(N:Nat)(x y:Qa)(A:Q5)(s:Shared)(v u:Value)(p q:List Addr),Qa5 s.heap v x p->Qa5 s.heap u y q->x.canLay0=true->y.canLay0=true->QhN x y=true->x.depth<=N->A.units+2*N+2<cLine->∀(prog:Qy)(w:Jg)(E Q:Value->Shared->Prop),Q (.bool (ltD x y)) s->wpAny (model prog w) A (richCompare .Lt v u) Q E s:=by
 intro N;have intz:∀(i j:Int)(A:Q5)(s:Shared)(v u:Value)(p q:List Addr),Qa5 s.heap v (.int i) p->Qa5 s.heap u (.int j) q->∀(prog:Qy)(w:Jg)(E Q:Value->Shared->Prop),Q (.bool (ltD (.int i) (.int j))) s->wpAny (model prog w) A (richCompare .Lt v u) Q E s:=by
  intro i j A s v u p q r1 r2 prog w E Q h;cases r1;cases r2;refine HT.Qok A s i _ j _ prog w E Q ?_
  have e:ltD (.int i) (.int j)=decide (i<j):=by
   show isL (Qfr i j)=_;unfold Qfr;by_cases z:i<j
   ·rw[if_pos z,decide_eq_true z];rfl
   ·rw[if_neg z,decide_eq_false z];split<;>rfl
  rw[e] at h;exact h
 induction N with
 |zero=>
  intro x y A s v u p q r1 r2 c1 c2 hk hd hu prog w E Q h;cases x<;>cases y<;>first | (cases hk;done) | skip
  ·exact intz _ _ A s v u p q r1 r2 prog w E Q h
  ·unfold Jx at hd;omega
 |succ N ih=>
  intro x y A s v u p q r1 r2 c1 c2 hk hd hu prog w E Q h;cases x<;>cases y<;>first | (cases hk;done) | skip
  ·exact intz _ _ A s v u p q r1 r2 prog w E Q h
  ·rename_i ds es
   cases r1 with
   |@tuple a o vs n _ _ ho hc hd' ra=>
    cases r2 with
    |@tuple b o2 vs2 n2 _ _ ho2 hc2 hd2 rb=>
     obtain⟨cls,dd,data,sl⟩:=o;obtain⟨cls2,dd2,data2,sl2⟩:=o2;simp only at hc hd' hc2 hd2;subst hc hd' hc2 hd2;have dd3:Q4 ds<=N:=by unfold Jx at hd;omega
     exact richCompare_meets_room (op:=.Lt) ⟨_,ho,rfl⟩ ⟨_,ho2,rfl⟩ PySem.F.slot_tuple_lt PySem.F.entry_tuple_lt (PySem.F.args_tuple_lt_2 _ _) (Qdz (N:=N) hk c1 c2 dd3 ih)
      ⟨ho,ho2,ra,rb,by omega,show Zz (QtN ds es)≠Value.notImplemented/\Q (.bool (QtN ds es)) s from⟨(λx=>nomatch x),h⟩⟩ (by omega)
theorem Qkl{N:Nat}{ds es:List Qa}{A:Q5}{s:Shared}{v u:Value}{p q:List Addr}(r1:Qa5 s.heap v (.tuple ds) p)(r2:Qa5 s.heap u (.tuple es) q)(c1:Q8 ds=true)(c2:Q8 es=true)(hk:QbU ds es=true)(hd:Q4 ds<=N)(hu:A.units+2*N+4<cLine){prog:Qy}{w:Jg}{E:Value->Shared->Prop}{C:Bool->Shared->Prop}(h:C (QtN ds es) s):wpAny (model prog w) A (oneLt' true v u) C E s:=by
 cases r1 with
 |@tuple a o vs n _ _ ho hc hd' ra=>
  cases r2 with
  |@tuple b o2 vs2 n2 _ _ ho2 hc2 hd2 rb=>
   obtain⟨cls,dd,data,sl⟩:=o;obtain⟨cls2,dd2,data2,sl2⟩:=o2;simp only at hc hd' hc2 hd2;subst hc hd' hc2 hd2;rw[oneLt'_eq];simp only[if_true];refine wpAny_bind (wpAny_cRoomFor (by omega) ?_);refine wpAny_bind (wpAny_callSpecialIfBound?_slot ⟨_,ho,rfl⟩ PySem.F.slot_tuple_lt (Qbo PySem.F.slot_tuple_lt ⟨_,ho,rfl⟩ PySem.F.entry_tuple_lt (PySem.F.args_tuple_lt_2 _ _) (Qdz (N:=N) hk c1 c2 hd λx y=>Qsy N x y) ⟨ho,ho2,ra,rb,hu,?_⟩));exact Zs h
section
variable{prog:Qy}{w:Jg}{A:Q5}{E:Value->Shared->Prop}{s:Shared}
theorem Qrz{N:Nat}{x y:Qa}{v u:Value}{p q:List Addr}(r1:Qa5 s.heap v x p)(r2:Qa5 s.heap u y q)(c1:x.canLay0=true)(c2:y.canLay0=true)(hk:QhN x y=true)(hd:x.depth<=N)(hu:A.units+2*N+2<cLine){C:Bool->Shared->Prop}(h:C (ltD x y) s):wpAny (model prog w) A (oneLt' false v u) C E s:=by
 refine kat_one v u ?_
 exact Qsy N x y A s v u p q r1 r2 c1 c2 hk hd hu prog w E _ h
theorem Qmy(i j:Int):ltD (.int i) (.int j)=decide (i<j):=by
 show isL (Qfr i j)=_;unfold Qfr;by_cases z:i<j
 ·rw[if_pos z,decide_eq_true z];rfl
 ·rw[if_neg z,decide_eq_false z];split<;>rfl
def Qt0:List Qa->Prop
 |.int _::_=>True
 |_=>False
theorem QrH{b:Bool}{n1 n2 N:Nat}{C:Bool->Shared->Prop}(hu:A.units+2*N+2<cLine):∀(vs us:List Value)(xs ys:List Qa)(p q:List Addr)(i:Nat),YB s.heap vs xs p->YB s.heap us ys q->Q8 xs=true->Q8 ys=true->QbU xs ys=true->Q4 xs<=N->(b=true->i=0->Qt0 xs)->xs.length+n2=ys.length+n1 ->
  C (QtN xs ys) s->KatLex prog w A b (decide (n1<n2)) C (vs.zip us) i s
 |[],us,xs,ys,p,q,i,r1,r2,c1,c2,hk,hd,hb,hl,h=>by
  cases r1;refine kat_nil ?_
  cases r2 with
  |nil=>rw[show decide (n1<n2)=false from decide_eq_false (by simp at hl;omega)];exact h
  |cons r rs=>rw[show decide (n1<n2)=true from decide_eq_true (by simp at hl;omega)];exact h
 |v::vs,[],xs,ys,p,q,i,r1,r2,c1,c2,hk,hd,hb,hl,h=>by
  cases r2;cases r1;refine kat_nil ?_
  rw[show decide (n1<n2)=false from decide_eq_false (by simp at hl;omega)];exact h
 |v::vs,u::us,xs,ys,p,q,i,r1,r2,c1,c2,hk,hd,hb,hl,h=>by
  cases r1 with
  |@cons _ _ d1 ds1 as1 as2 r1 rs1=>
   cases r2 with
   |@cons _ _ d2 ds2 bs1 bs2 r2 rs2=>
    have hk:=Qs.mp (show(QhN d1 d2&&QbU ds1 ds2)=true from hk);simp only[Q8,JG] at c1 c2;have dm1:d1.depth<=N:=Q2 (Qew (ds:=d1::ds1) (.head _)) hd;have dm2:Q4 ds1<=N:=Q2 (show Q4 ds1<=max d1.depth (Q4 ds1) from QfA _ _) hd;have h:C (isL (thn (QbV d1 d2) (Qbn ds1 ds2))) s:=h;have one:C (ltD d1 d2) s->wpAny (model prog w) A (oneLt' (b&&i == 0) v u) C (λ_ _=>False) s:=λhc=>by
     cases e:(b&&i == 0) with
     |false=>exact Qrz (N:=N) r1 r2 c1.1 c2.1 hk.1 dm1 hu hc
     |true=>
      have e:=Qs.mp e;have hh:=hb e.1 (beq_iff_eq.mp e.2);cases d1<;>first | exact hh.elim | skip
      cases d2<;>first | (cases hk.1;done) | skip
      cases r1;cases r2;rw[Qmy] at hc;exact oneLt_int hc
    refine kat_cons (QeH d1 d2 A s v u _ _ r1 r2 c1.1 c2.1 (by omega) prog w _ _ ?_);rw[QmY d1 d2 hk.1];cases e1:QbV d1 d2 with
    |lt=>rw[e1] at h;exact kat_no (one (by unfold ltD;rw[e1];exact h))
    |gt=>rw[e1] at h;exact kat_no (one (by unfold ltD;rw[e1];exact h))
    |eq=>
     rw[e1] at h;refine kat_yes (QrH hu vs us ds1 ds2 _ _ (i+1) rs1 rs2 c1.2 c2.2 hk.2 dm2 (λ_ z=>by omega) (by simp only[QJ] at hl;omega) h)
def QpU(ds:List Qa)(κ:Yf):Prop:=κ=general'∨κ=oneType'∨κ=tuples' false∨(κ=tuples' true/\∀d∈ds,∃es,d=.tuple es/\Qt0 es)
theorem Qwv{N:Nat}{ds:List Qa}{κ:Yf}{x y:Qa}{v u:Value}{p q:List Addr}(su:QpU ds κ)(hx:x∈ds)(r1:Qa5 s.heap v x p)(r2:Qa5 s.heap u y q)(c1:x.canLay0=true)(c2:y.canLay0=true)(hk:QhN x y=true)(tb:∀b,κ=tuples' b->∃es,x=.tuple es)(hd:x.depth<=N)(hu:A.units+2*N+4<cLine){C:Bool->Shared->Prop}(h:C (ltD x y) s) :
  wpAny (model prog w) A (keyLt' κ v u) C E s:=by
 have tup:∀b,κ=tuples' b->(b=true->∃es,x=.tuple es/\Qt0 es)->wpAny (model prog w) A (keyLt' κ v u) C E s:=λb hb hh=>by
  subst hb;obtain⟨es,rfl⟩:=tb b rfl;cases y<;>first | (cases hk;done) | skip
  rename_i fs
  cases r1 with
  |@tuple a o vs n _ _ ho hc hd' ra=>
   cases r2 with
   |@tuple b2 o2 vs2 n2 _ _ ho2 hc2 hd2 rb=>
    have dd3:Q4 es<=N:=by unfold Jx at hd;omega
    refine kat_lt ho hd' ho2 hd2 (QrH (N:=N) (by omega) _ _ es fs _ _ 0 ra rb c1 c2 hk dd3 (λe _=>?_) ?_ h)
    ·obtain⟨es',e',hh⟩:=hh e;cases e';exact hh
    ·have e1:=readsAll_len ra;have e2:=readsAll_len rb;rw[Qj] at e1 e2;omega
 rcases su with rfl | rfl | rfl | ⟨rfl,hall⟩
 ·exact Qrz (N:=N) r1 r2 c1 c2 hk hd (by omega) h
 ·cases x<;>cases y<;>first | (cases hk;done) | skip
  ·cases r1;cases r2;rw[Qmy] at h;exact oneLt_int h
  ·have dd3:∀{es:List Qa},(YT es).depth<=N->Q4 es<=N:=λ{es} h=>by unfold Jx at h;omega
   exact Qkl (N:=N) r1 r2 c1 c2 hk (dd3 hd) hu h
 ·exact tup false rfl λe=>by cases e
 ·exact tup true rfl λ_=>hall x hx
end
section
variable{M:QjY}{A:Q5}{E:Value->Shared->Prop}{s:Shared}
theorem Qfl{α β:Type}{f:α->Sem β}{g:α->β}:∀(l:List α){Q:List β->Shared->Prop},(∀v∈l,∀(Q':β->Shared->Prop),Q' (g v) s->wpAny M A (f v) Q' E s)->Q (l.map g) s->wpAny M A (l.mapM f) Q E s
 |[],_,_,h=>by rw[List.mapM_nil];exact Qe h
 |x::l,Q,hf,h=>by
  rw[List.mapM_cons];exact wpAny_bind (hf x (.head _) _ (wpAny_bind (Qfl l (Q:=λbs s'=>wpAny M A (pure (g x::bs)) Q E s') (λv hv=>hf v (.tail _ hv)) (Qe h))))
end
def QhM(h:J5)(v:Value):Option Value:=match v with
 |.ref a=>(match h.get? a with
  |some o=>(match o.data with
   |.seq xs _=>xs[0]?
   |_=>none)
  |none=>none)
 |_=>none
def tyV(h:J5)(v:Value):Value:=match v with
 |.int _ _=>.type "int"
 |.ref a=>(match h.get? a with
  |some o=>o.cls
  |none=>.none)
 |_=>.none
theorem Yl:∀{ds:List Qa},Qdk ds=true->∀d∈ds,okK d=true
 |x::ds,h,d,hd=>by
  have h:=Qs.mp (show(okK x&&Qdk ds)=true from h);rcases Qz.mp hd with z | z
  ·rw[z];exact h.1
  ·exact Yl h.2 d z
theorem Qib:∀{ds:List Qa},(∀d∈ds,okK d=true)->Qdk ds=true
 |[],_=>rfl
 |x::ds,h=>by
  show(okK x&&Qdk ds)=true;rw[h x (.head _),Qib λd hd=>h d (.tail _ hd)];rfl
theorem ZG{h:J5}:∀{vs:List Value}{ds:List Qa}{as:List Addr},YB h vs ds as->∀v∈vs,∃d∈ds,∃bs,Qa5 h v d bs
 |_,_,_,.cons (d:=d) r rs,v,hv=>by
  rcases Qz.mp hv with z | z
  ·rw[z];exact⟨d,.head _,_,r⟩
  ·obtain⟨d',hd,bs,r'⟩:=ZG rs v z;exact⟨d',.tail _ hd,bs,r'⟩
theorem QcI{h:J5}:∀{vs:List Value}{ds:List Qa}{as:List Addr},YB h vs ds as->∀d∈ds,∃v∈vs,∃bs,Qa5 h v d bs
 |_,_,_,.cons (d:=d) (v:=v) r rs,d',hd=>by
  rcases Qz.mp hd with z | z
  ·rw[z];exact⟨v,.head _,_,r⟩
  ·obtain⟨v',hv,bs,r'⟩:=QcI rs d' z;exact⟨v',.tail _ hv,bs,r'⟩
section
variable{prog:Qy}{w:Jg}{A:Q5}{E:Value->Shared->Prop}{s:Shared}
theorem QhU{v:Value}{d:Qa}{bs:List Addr}(r:Qa5 s.heap v d bs)(hk:okK d=true){Q:Value->Shared->Prop}(q:Q (tyV s.heap v) s):wpAny (model prog w) A (typeOf v) Q E s:=by
 cases r<;>first | (cases hk;done) | skip
 ·exact Qe q
 ·rename_i a o vs n xs ho hc hd ra
  refine wpAny_typeOf_ref ho ?_
  have e:tyV s.heap (.ref a)=o.cls:=by unfold tyV;simp only[ho]
  rw[e] at q;exact q
theorem Qjs{vs:List Value}{ds:List Qa}{as:List Addr}{Q:Yf->Shared->Prop}(ra:YB s.heap vs ds as)(hk:Qdk ds=true)(ht:∀d∈ds,∃es,d=.tuple es)(h:∀κ,QpU ds κ->Q κ s):wpAny (model prog w) A (keyKind' vs.toArray) Q E s:=by
 have rd:=ZG ra;have fs:∀v∈vs,∀(Q':Option Value->Shared->Prop),Q' (QhM s.heap v) s->wpAny (model prog w) A (firstOfTuple' v) Q' E s:=λv hv Q' q=>by
  obtain⟨d,hd,bs,r⟩:=rd v hv;obtain⟨es,rfl⟩:=ht d hd;cases r with
  |@tuple a o xs n _ _ ho hc hd' r'=>
   rw[kas_first_eq];refine wpAny_bind (wpAny_typeOf_ref ho ?_);rw[hc];rw[if_neg (by decide)];refine wpAny_bind (listItems_at ho hd' (Qe ?_));have e:QhM s.heap (.ref a)=xs[0]? := by unfold QhM;simp only[ho,hd']
   rw[<- e];exact q
 rw[keyKind'_eq,Qal,map_eq_pure_bind];refine wpAny_bind (wpAny_bind (Qfl (g:=QhM s.heap) vs fs (Qe ?_)));by_cases z:((vs.map (QhM s.heap)).toArray.all λx=>x.isSome)=true
 ·rw[if_pos z];refine wpAny_bind (wpAny_rule ?_);have hfm:((vs.map (QhM s.heap)).toArray.filterMap id)=(vs.filterMap (QhM s.heap)).toArray:=by simp[Y9]
  have heads:∀u∈vs.filterMap (QhM s.heap),∃d bs,Qa5 s.heap u d bs/\okK d=true:=λu hu=>by
   obtain⟨v,hv,e⟩:=Yh.mp hu;obtain⟨d,hd,bs,r⟩:=rd v hv;obtain⟨es,rfl⟩:=ht d hd;have ko:=Yl hk _ hd;cases r with
   |@tuple a o xs n _ _ ho hc hd' r'=>
    have e2:QhM s.heap (.ref a)=xs[0]? := by unfold QhM;simp only[ho,hd']
    rw[e2] at e;have hm:u∈xs.toList:=by rw[<- Zr] at e;exact Q9 e
    obtain⟨d2,hd2,bs2,r2⟩:=ZG r' u hm;exact⟨d2,bs2,r2,Yl ko _ hd2⟩
  rw[hfm,QjT,Qal,map_eq_pure_bind];refine wpAny_bind (wpAny_bind (wpAny_bind (Qfl (g:=tyV s.heap) _ (λu hu Q' q=>?_) (Qe ?_))))
  ·obtain⟨d,bs,r,ko⟩:=heads u hu;exact QhU r ko q
  ·have fin:∀o:Option Value,(o.any (· != Yv "tuple")=true->∀u∈vs.filterMap (QhM s.heap),tyV s.heap u≠Yv "tuple")->Q (tuples' (o.any (· != Yv "tuple"))) s:=λo ho=>by
    cases e:o.any (· != Yv "tuple") with
    |false=>exact h _ (.inr (.inr (.inl rfl)))
    |true=>
     refine h _ (.inr (.inr (.inr ⟨rfl,λd hd=>?_⟩)));obtain⟨es,rfl⟩:=ht d hd;obtain⟨v,hv,bs,r⟩:=QcI ra _ hd;refine⟨es,rfl,?_⟩;have ko:=Yl hk _ hd;cases r with
     |@tuple a oo xs n _ _ ho' hc hd' r'=>
      have e2:QhM s.heap (.ref a)=xs[0]? := by unfold QhM;simp only[ho',hd']
      have some1:(QhM s.heap (.ref a)).isSome=true:=by
       have z':=QdV.mp z (QhM s.heap (JF a)) (by simp;exact⟨_,hv,rfl⟩);exact z'
      rw[e2] at some1;obtain⟨u,hu⟩:=Qgx.mp some1;have hl:=(Array.getElem?_eq_some_iff.mp hu).1;have nt:=ho e u (Yh.mpr ⟨_,hv,by rw[e2];exact hu⟩);have hu':xs.toList[0]? = some u:=by rw[Zr];exact hu
      cases hx:xs.toList with
      |nil=>rw[hx] at hu';cases hu'
      |cons u0 us=>
       rw[hx] at hu' r';have e0:u0=u:=by simpa using hu'
       subst e0;cases r' with
       |@cons _ _ d1 ds1 as1 as2 r1 rs1=>
        have ko1:=(Qs.mp (show(okK d1&&Qdk ds1)=true from ko)).1;cases r1<;>first | (cases ko1;done) | skip
        ·trivial
        ·rename_i a2 o2 vs2 n2 xs2 ho2 hc2 hd2 ra2
         exfalso
         apply nt
         unfold tyV;simp only[ho2];exact hc2
   cases hg:((vs.filterMap (QhM s.heap)).map (tyV s.heap)).toArray[0]? with
   |none=>exact Qe (Qe (fin none λe=>by cases e))
   |some t=>
    dsimp only
    refine Qe (Qe (fin _ λe u hu=>?_));split at e
    ·rename_i hall
     have ne:(t != Yv "tuple")=true:=e;have te:(tyV s.heap u == t)=true:=by
      have:=QdV.mp hall (tyV s.heap u) (by simp;exact⟨u,by simpa using Yh.mp hu,rfl⟩);exact this
     rw[eq_of_beq te]
     simpa using ne
    ·cases e
 ·rw[if_neg z];split
  ·exact Qe (h _ (.inl rfl))
  ·rw[QjT,Qal,map_eq_pure_bind];refine wpAny_bind (wpAny_bind (wpAny_bind (Qfl (g:=tyV s.heap) _ (λv hv Q' q=>?_) (Qe ?_))))
   ·obtain⟨d,hd,bs,r⟩:=rd v hv;exact QhU r (Yl hk _ hd) q
   ·have fin:∀b:Bool,wpAny (model prog w) A (pure (if b=true then oneType' else general')) Q E s:=λb=>by
     cases b
     ·exact Qe (h _ (.inl rfl))
     ·exact Qe (h _ (.inr (.inl rfl)))
    split
    ·exact Qe (fin _)
    ·exact Qe (fin _)
end
end Rt
namespace Rt
open PySem.Calls PySem.W Dl Rs
section
variable{prog:Qy}{w:Jg}{A:Q5}{E:Value->Shared->Prop}{s:Shared}
def prs(vs:List Value):Array Keyed:=vs.toArray.zip vs.toArray
theorem Qd2(vs:List Value):(prs vs).toList=vs.zip vs:=by unfold prs;rw[Array.toList_zip]
theorem QsU(vs:List Value):(prs vs).toList.map (·.2)=vs:=by rw[Qd2];exact List.map_snd_zip (Qi _)
theorem QcF:∀{vs:List Value}{p:Keyed},p∈vs.zip vs->p.1=p.2/\p.2∈vs
 |v::vs,p,h=>by
  rw[QdR] at h;rcases Qz.mp h with z | z
  ·rw[z];exact⟨rfl,.head _⟩
  ·exact⟨(QcF z).1,.tail _ (QcF z).2⟩
theorem Qf5{a:Addr}{vs:List Value}{n:Nat}{P:PySem.Fin->Shared->Prop}(ho:s.heap.get? a=some (seqObj "list" vs.toArray n))(hz:vs.length<=sizeLine){c:Keyed->Keyed->Bool}(oc:Ord c)
  (hkind:∀h':J5,Kept a s.heap h'->∀(Q':Yf->Shared->Prop)(E':Value->Shared->Prop),(∀κ,Asks prog w A { s with heap:=h' } κ (prs vs) c->Q' κ { s with heap:=h' })->wpAny (model prog w) A (keyKind' vs.toArray) Q' E' { s with heap:=h' })
  (h:∀arr:Array Keyed,arr.Perm (prs vs)->Sg c arr 0 arr.size->∀(h':J5)(e:Nat),Kept a s.heap h'->h'.get? a=some (seqObj "list" (arr.toList.map (·.2)).toArray e)->P (.done (.ret .none)) { s with heap:=h' }) :
  wpAny (model prog w) A (QcC.«list.sort» ⟨[.ref a],[]⟩) P E s:=by
 have ha:a<s.heap.objs.size:=Qp ho;obtain⟨e1,ho1⟩:∃e1,(s.heap.update a (Yc λ_=>(#[]:Array Value))).get? a=some (seqObj "list" #[] e1):=⟨_,QjU ho λ_=>#[]⟩
 have K3:Kept a s.heap (((s.heap.update a (Yc λ_=>(#[]:Array Value))).push (seqObj "tuple" vs.toArray 0)).push (seqObj "list" #[] 0)):=(QfH _).trans ((QgW _).trans (QgW _));have ho6:(((s.heap.update a (Yc λ_=>(#[]:Array Value))).push (seqObj "tuple" vs.toArray 0)).push (seqObj "list" #[] 0)).get? a=some (seqObj "list" #[] e1):=Qc _ (Qc _ ho1);rw[list_sort_plain];refine wpAny_bind (listItems_at ho rfl ?_);refine wpAny_bind (QnS ho rfl ?_ (by rw[Qr];exact hz) (Qw _));refine wpAny_bind (QuF ho1 rfl ?_);refine wpAny_bind (wpAny_newTuple ?_ (by show vs.length<=_;exact hz));refine wpAny_bind (wpAny_newList ?_ (Qw _));refine Zg ?_
 show wpAny (model prog w) A _ P E { s with heap:=((s.heap.update a (Yc λ_=>(#[]:Array Value))).push (seqObj "tuple" vs.toArray 0)).push (seqObj "list" #[] 0) }
 dsimp only
 generalize (((s.heap.update a (Yc λ_=>(#[]:Array Value))).push (seqObj "tuple" vs.toArray 0)).push (seqObj "list" #[] 0))=h3 at K3 ho6 ⊢;have out:∀arr:Array Keyed,arr.map (·.2)=(arr.toList.map (·.2)).toArray:=λarr=>by
  apply QeM.mp
  rw[Array.toList_map]
 have psz:(prs vs).size=vs.length:=by rw[<- Qj,Qd2,List.length_zip,Qbq]
 by_cases h2:vs.toArray.size<2
 ·rw[if_pos h2,if_pos h2];refine wpAny_bind (Qe ?_);rw[StateT.run_pure];refine wpAny_bind (Qe ?_)
  dsimp only
  have f:Sg c (prs vs) 0 (prs vs).size:=λi j _ hij hj=>by
   rw[psz] at hj;rw[Qr] at h2;rw[show i=j by omega];exact oc.irr _
  refine wpAny_bind (QuF ho6 rfl ?_);refine wpAny_bind (QnS ho6 rfl ?_ (Qw _) (by rw[Quy];show(prs vs).size<=_;rw[(QdW (prs vs)).size_eq,psz];omega));simp only[bne_self_eq_false,Qaa,if_false];show wpAny _ _ (ret Zd) _ _ { s with heap:=h3.update a (Yc λ_=>Array.map (λx=>x.snd) (prs vs)) };rw[out];exact Qe (h (prs vs) (QdW (prs vs)) (f) _ _ (K3.trans (QfH _)) (QjU ho6 λ_=>_))
 ·rw[if_neg h2,if_neg h2];refine wpAny_bind (hkind h3 K3 _ _ λκ hA=>?_);refine wpAny_bind (wpAny_mono (QhQ (a₀:=prs vs) (κ:=κ) (st:=QxS κ (prs vs) #[] 7 none) (Q:=λ_ st'=>SB κ (prs vs) st'/\Sg c (arrOf st') 0 (prs vs).size) hA ⟨QdW _,rfl,rfl⟩ rfl λst' b g=>⟨b,g⟩) ?_ λ_ _ e=>e);rintro⟨⟨⟩,st'⟩ s' ⟨rfl,b,g⟩
  dsimp only
  rw[b.failed];have g2:Sg c (arrOf st') 0 (arrOf st').size:=by rw[b.size];exact g
  refine wpAny_bind (QuF ho6 rfl ?_);refine wpAny_bind (QnS ho6 rfl ?_ (Qw _) (by rw[Quy];show(arrOf st').size<=_;rw[(b.perm).size_eq,psz];omega));simp only[bne_self_eq_false,Qaa,if_false];show wpAny _ _ (ret Zd) _ _ { s with heap:=h3.update a (Yc λ_=>Array.map (λx=>x.snd) (arrOf st')) };rw[out];exact Qe (h (arrOf st') (b.perm) (g2) _ _ (K3.trans (QfH _)) (QjU ho6 λ_=>_))
theorem QfL{Q:Value->Shared->Prop}{l:Addr}{T:String}{o:Obj}{vs:List Value}{n:Nat}(hT:T = "list" ∨ T = "tuple")(ho:s.heap.get? l=some o)(hc:o.cls=.type T)(hd:o.data=.seq vs.toArray n)(hz:vs.length<=sizeLine)
  (h:∀h':J5,(∀b x,s.heap.get? b=some x->h'.get? b=some x)->∀(P:PySem.Fin->Shared->Prop)(E':Value->Shared->Prop),(∀s2,Q (.ref h'.objs.size) s2->P (.done (.ret .none)) s2) ->
   wpAny (model prog w) A.in1.in1 (QcC.«list.sort» ⟨[.ref h'.objs.size],[]⟩) P E' { s with heap:=h'.push (seqObj "list" vs.toArray 0) }) :
  wpAny (model prog w) A (call (.builtin "sorted") [.ref l]) Q E s:=by
 refine Calls.call_function_entry kind_sorted plain_sorted entry_sorted (args_sorted1 _) ?_
 unfold QcC.«sorted»;refine wpAny_bind (m:=checkCount "sorted" 1 1 _) (Qe ?_);refine wpAny_bind (wpAny_collect_seq (items:=vs.toArray) l hT ho hc hd (λh' kp=>?_) (by rw[Qr];exact hz));refine wpAny_bind (wpAny_newList ?_ (by rw[List.toList_toArray];exact hz));have hoL:(h'.push (seqObj "list" vs.toArray 0)).get? h'.objs.size=some (seqObj "list" vs.toArray 0):=QB _ rfl;show wpAny _ _ _ _ _ { s with heap:=h'.push (seqObj "list" vs.toArray 0) };refine wpAny_bind (Zg (ZO slot_list_sort ⟨_,hoL,rfl⟩ entry_list_sort ?body (args_list_sort _)));exact h h' kp _ _ λs2 hq=>⟨_,rfl,Qe ⟨_,rfl,hq⟩⟩
open Classical in
noncomputable def rdV (h:J5) (v:Value):Qa:=if q:∃d as,Qa5 h v d as/\d.canLay0=true then q.choose else .none
theorem Qly{h:J5}{v:Value}{d:Qa}{as:List Addr}(r:Qa5 h v d as)(c:d.canLay0=true):rdV h v=d:=by
 unfold rdV;have q:∃d as,Qa5 h v d as/\d.canLay0=true:=⟨d,as,r,c⟩
 rw[dif_pos q];obtain⟨as',r',c'⟩:=q.choose_spec;exact(QaM d _ v as as' c r r').symm
theorem QgZ{α β:Type}(f:α->β){l m:List β}(p:l.Perm m):∀{T:List α},m=T.map f->∃T':List α,T'.Perm T/\l=T'.map f:=by
 induction p with
 |nil=>intro T e;exact⟨T,QnN _,e⟩
 |@cons x l1 l2 _ ih=>
  intro T e;cases T with
  |nil=>cases e
  |cons t T=>
   rw[JN] at e;injection e with e1 e2
   obtain⟨T',p',e'⟩:=ih e2;exact⟨t::T',p'.cons t,by rw[JN,<- e1,<- e']⟩
 |@swap x y l=>
  intro T e;cases T with
  |nil=>cases e
  |cons t T=>
   cases T with
   |nil=>rw[JN] at e;injection e with e1 e2;cases e2
   |cons t2 T=>
    rw[JN,JN] at e;injection e with e1 e2
    injection e2 with e3 e4
    exact⟨t2::t::T,List.Perm.swap t t2 T,by rw[JN,JN,<- e1,<- e3,<- e4]⟩
 |@trans l1 l2 l3 _ _ ih1 ih2=>
  intro T e;obtain⟨T2,p2,e2⟩:=ih2 e;obtain⟨T1,p1,e1⟩:=ih1 e2;exact⟨T1,p1.trans p2,e1⟩
end
mutual
theorem Qiw:∀(d:Qa),QhN d d=true->okK d=true
 |.int _,_=>rfl
 |.tuple ds,h=>QjL ds h
 |.none,h=>by cases h
 |.bool _,h=>by cases h
 |.str _,h=>by cases h
 |.list _,h=>by cases h
 |.dict _,h=>by cases h
theorem QjL:∀(ds:List Qa),QbU ds ds=true->Qdk ds=true
 |[],_=>rfl
 |d::ds,h=>by
  have h:=Qs.mp (show(QhN d d&&QbU ds ds)=true from h);show(okK d&&Qdk ds)=true;rw[Qiw d h.1,QjL ds h.2];rfl
end
mutual
theorem Qdl:∀(d:Qa),okK d=true->d.canLay0=true
 |.int _,_=>rfl
 |.tuple ds,h=>Qjk ds h
 |.none,h=>by cases h
 |.bool _,h=>by cases h
 |.str _,h=>by cases h
 |.list _,h=>by cases h
 |.dict _,h=>by cases h
theorem Qjk:∀(ds:List Qa),Qdk ds=true->Q8 ds=true
 |[],_=>rfl
 |d::ds,h=>by
  have h:=Qs.mp (show(okK d&&Qdk ds)=true from h);simp only[Q8,Qdl d h.1,Qjk ds h.2,Bool.and_self]
end
structure Qb6 (ds:List Qa):Prop where
 cmp:∀x∈ds,∀y∈ds,QhN x y=true
 dep:∀x∈ds,x.depth<=20
end Rt
namespace L2
open PySem.Calls _root_.Rd _root_.Rk _root_.Rs Rt Dl
structure Trp where
 x:V
 v:Value
 d:Qa
theorem QuX{H:Hp}:∀{xs:List V}{ds:List Qa}{vs:List Value},Dats H xs ds->Vals xs vs->∃T:List Trp,xs=T.map (·.x)/\vs=T.map (·.v)/\ds=T.map (·.d)/\∀t∈T,Dat H t.x t.d/\RelV t.x t.v
 |_,_,_,.nil,.nil=>⟨[],rfl,rfl,rfl,λ_ h=>nomatch h⟩
 |_,_,_,.cons q qs,.cons r rs=>by
  obtain⟨T,e1,e2,e3,h⟩:=QuX qs rs;refine⟨⟨_,_,_⟩::T,by rw[e1];rfl,by rw[e2];rfl,by rw[e3];rfl,λt ht=>?_⟩;rcases Qz.mp ht with z | z
  ·rw[z];exact⟨q,r⟩
  ·exact h t z
theorem Qp6{H:Hp}:∀{T:List Trp},(∀t∈T,Dat H t.x t.d/\RelV t.x t.v)->Dats H (T.map (·.x)) (T.map (·.d))/\Vals (T.map (·.x)) (T.map (·.v))
 |[],_=>⟨.nil,.nil⟩
 |t::T,h=>by
  obtain⟨a,b⟩:=Qp6 (T:=T) λt ht=>h t (.tail _ ht)
  exact⟨.cons (h t (.head _)).1 a,.cons (h t (.head _)).2 b⟩
def QlB:List V->Hp->VK->Prop:=λxs H Q=>∃(l:Addr)(vs:List V)(ds:List Qa),xs=[.ref l]/\(H l=some (.lst vs)∨H l=some (.tup vs))/\Dats H vs ds/\Qb6 ds /\
 ∀(t:Addr)(ys:List V)(es:List Qa)(H2:Hp),Same H H2->H t=none->H2 t=some (.lst ys)->Dats H2 ys es->es.Perm ds->es.Pairwise (λa b=>ltD b a=false)->(∀y∈ys,y∈vs)->Q (.ref t) H2
section
variable{X:Cx}
theorem Qdu(hu:X.A.units+60<cLine):CallR X (.builtin "sorted") QlB:=by
 intro pins s σ H xs us Q I r h;obtain⟨l,vs,ds,rfl,hl,dts,so,q⟩:=h;obtain⟨u,rfl,ru⟩:=vals1 r;cases ru;have hu2:X.A.in1.in1.units+2*20+4<cLine:=by show X.A.units+1+1+2*20+4<cLine;omega
 obtain⟨T,o,its,n,hT,ho,hc,hd,rv,hz⟩:∃(T:String)(o:Obj)(its:List Value)(n:Nat),(T = "list" ∨ T = "tuple")/\s.heap.get? l=some o/\o.cls=.type T/\o.data=.seq its.toArray n/\Vals vs its/\vs.length<=sizeLine:=by
  rcases hl with hl | hl
  ·obtain⟨hz,its,n,rv,ho⟩:=I.hok l _ hl;exact⟨"list",_,its,n,.inl rfl,ho,rfl,rfl,rv,hz⟩
  ·obtain⟨hz,its,rv,o,ho,hc,n,hd⟩:=I.hok l _ hl;exact⟨"tuple",o,its,n,.inr rfl,ho,hc,hd,rv,hz⟩
 have li:=rv.length;obtain⟨⟨as,ra⟩,cl⟩:=YL I.hok ds vs its dts rv;have okds:Qdk ds=true:=Qib λd hd=>Qiw d (so.cmp d hd d hd)
 refine QfL hT ho hc hd (by omega) λh' kp P E' hP=>?_
 have ra':=Qaq kp ds its as okds ra
 let c:Keyed->Keyed->Bool:=λx y=>ltD (rdV h' x.1) (rdV h' y.1)
 have oc:Ord c:=⟨λx y=>Qjo _ _,λx y z=>QrD _ _ _⟩;refine Qf5 (s:={ s with heap:=h'.push (seqObj "list" its.toArray 0) }) (c:=c) (QB _ rfl) (by omega) oc (λh2 k2 Q' E' hq=>?_) λarr pm sg h2 e k2 e2=>hP _ ?_
 ·have kk:∀b x,h'.get? b=some x->h2.get? b=some x:=λb x e=>k2 b x (QD (Qp e)) (Qc _ e)
  have ra2:=Qaq kk ds its as okds ra';have asks:∀κ,QpU ds κ->(∀b,κ=tuples' b->∀d∈ds,∃es,d=.tuple es)->Asks X.prog X.w X.A.in1.in1 { s with heap:=h2 } κ (prs its) c:=λκ su tb=>by
   refine⟨oc,λx y hx hy C E'' hC=>?_⟩;rw[Qd2] at hx hy;obtain⟨ex,hx⟩:=QcF hx;obtain⟨ey,hy⟩:=QcF hy;obtain⟨d1,m1,b1,r1⟩:=ZG ra2 x.2 hx;obtain⟨d2,m2,b2,r2⟩:=ZG ra2 y.2 hy;obtain⟨d1',m1',b1',r1'⟩:=ZG ra' x.2 hx;obtain⟨d2',m2',b2',r2'⟩:=ZG ra' y.2 hy;have k1:=Yl okds d1 m1;have k2:=Yl okds d2 m2;have c1:=Qdl d1 k1;have c2:=Qdl d2 k2;have c1':=Qdl d1' (Yl okds d1' m1');have c2':=Qdl d2' (Yl okds d2' m2');have q1:d1'=d1:=QaM d1' d1 x.2 _ _ c1' (Qdf kk d1' _ _ (Yl okds d1' m1') r1') r1;have q2:d2'=d2:=QaM d2' d2 y.2 _ _ c2' (Qdf kk d2' _ _ (Yl okds d2' m2') r2') r2;subst q1 q2;have hC:C (ltD (rdV h' x.1) (rdV h' y.1)) { s with heap:=h2 }:=hC;rw[ex,ey,Qly r1' c1',Qly r2' c2'] at hC;rw[ex,ey];exact Qwv (N:=20) su m1 r1 r2 c1 c2 (so.cmp _ m1 _ m2) (λb e=>tb b e _ m1) (so.dep _ m1) hu2 hC
  cases ds with
  |nil=>
   cases ra2;exact Qjs (s:={ s with heap:=h2 }) .nil rfl (λd hd=>nomatch hd) λκ su=>hq κ (asks κ su λb _ d hd=>nomatch hd)
  |cons d0 ds0=>
   have sh:(∀d∈d0::ds0,∃es,d=.tuple es)∨∀d∈d0::ds0,∃i,d=.int i:=by
    cases d0 with
    |int i=>exact .inr λd hd=>by have:=so.cmp _ (.head _) d hd;cases d<;>first | exact⟨_,rfl⟩ | (cases this;done)
    |tuple es=>exact .inl λd hd=>by have:=so.cmp _ (.head _) d hd;cases d<;>first | exact⟨_,rfl⟩ | (cases this;done)
    |_=>have:=so.cmp _ (.head _) _ (.head _);cases this
   rcases sh with sh | sh
   ·exact Qjs (s:={ s with heap:=h2 }) ra2 okds sh λκ su=>hq κ (asks κ su λb _=>sh)
   ·have one:QpU (d0::ds0) oneType':=.inr (.inl rfl);by_cases l2:its.length<2
    ·have hk1:∀v∈its,∀(Q'':Option Value->Shared->Prop),Q'' none { s with heap:=h2 }->wpAny (model X.prog X.w) X.A.in1.in1 (firstOfTuple' v) Q'' E' { s with heap:=h2 }:=λv hv Q'' q''=>by
      obtain⟨d,hd,bs,r⟩:=ZG ra2 v hv;obtain⟨i,rfl⟩:=sh d hd;cases r;exact Qe q''
     have hk2:∀v∈its,∀(Q'':Value->Shared->Prop),Q'' (Rt.tyV h2 v) { s with heap:=h2 }->wpAny (model X.prog X.w) X.A.in1.in1 (typeOf v) Q'' E' { s with heap:=h2 }:=λv hv Q'' q''=>by
      obtain⟨d,hd,bs,r⟩:=ZG ra2 v hv;exact QhU (s:={ s with heap:=h2 }) r (Yl okds d hd) q''
     rw[keyKind'_eq,Qal,map_eq_pure_bind];refine wpAny_bind (wpAny_bind (Qfl (g:=λ_=>(none:Option Value)) its hk1 (Qe ?_)));cases its with
     |nil=>cases ra2
     |cons v0 vs0=>
      rw[if_neg (by simp)];rw[if_neg (by simp)];rw[QjT,Qal,map_eq_pure_bind];refine wpAny_bind (wpAny_bind (wpAny_bind (Qfl (g:=Rt.tyV h2) _ hk2 (Qe ?_))));have fin:∀b:Bool,wpAny (model X.prog X.w) X.A.in1.in1 (pure (if b=true then oneType' else general')) Q' E' { s with heap:=h2 }:=λb=>by
       have ni:∀{κ:Yf},(∀b',κ≠tuples' b')->∀b',κ=tuples' b'->∀d∈d0::ds0,∃es,d=YT es:=λh b' e=>(h b' e).elim
       cases b
       ·exact Qe (hq _ (asks _ (.inl rfl) (ni λb' e=>by cases e)))
       ·exact Qe (hq _ (asks _ (.inr (.inl rfl)) (ni λb' e=>by cases e)))
      split
      ·exact Qe (fin _)
      ·exact Qe (fin _)
    ·have ia:∀{vs:List Value}{ds:List Qa}{as:List Addr},YB h2 vs ds as->(∀d∈ds,∃i,d=Qq i)->∃ns,IntsAre vs ns:=by
      intro vs ds as ra hs;induction vs generalizing ds as with
      |nil=>exact⟨[],.nil⟩
      |cons v vs ih=>
       cases ra with
       |cons r rs=>
        obtain⟨i,rfl⟩:=hs _ (.head _);obtain⟨ns,hn⟩:=ih rs λd hd=>hs d (.tail _ hd)
        cases r;exact⟨i::ns,.cons _ _ hn⟩
     obtain⟨ns,hn⟩:=ia ra2 sh
     match its,hn,l2 with
     |v1::v2::vs',hn,_=>
      rw[keyKind_ints hn];exact Qe (hq _ (asks _ one λb e=>by cases e))
     |[_],_,l2=>exact absurd (Nat.lt_succ_self 1) l2
     |[],_,l2=>exact absurd (Nat.zero_lt_two) l2
 ·have I1:Inv X pins σ H { s with heap:=h' }:=I.kept (t':=s.toks) kp;have hf:H h'.objs.size=none:=I1.hok.fresh (Qi _);have pv:(arr.toList.map (·.2)).Perm its:=by
   have:=(YE.mp pm).map (·.2)
   rwa [QsU] at this
  obtain⟨Tr,t1,t2,t3,th⟩:=QuX dts rv;obtain⟨Tr',p',e'⟩:=QgZ Trp.v (l:=arr.toList.map (·.2)) (by rw[<- t2];exact pv) (T:=Tr) rfl;have th':∀t∈Tr',Dat H t.x t.d/\RelV t.x t.v:=λt ht=>th t (p'.mem_iff.mp ht)
  obtain⟨dts',rv'⟩:=Qp6 th';have ll:(Tr'.map (·.x)).length<=sizeLine:=by
   have:=p'.length_eq;rw[Qg,this,<- Qg (f:=Trp.x),<- t1];exact hz
  have I2:Inv X pins σ (upd H h'.objs.size (.lst (Tr'.map (·.x)))) { s with heap:=h2 }:=
   I1.laid (t':=s.toks) (λb x e'=>k2 b x (QD (Qp e')) (Qc _ e')) (Qi _) (show ObjOk X.prog X.w _ _ _ (.lst _) from⟨ll,_,e,by rw[e'];exact rv',e2⟩)
  refine⟨.ref h'.objs.size,_,I2,rfl,q _ _ (Tr'.map (·.d)) _ (Ji hf) hf Jl (dts'.same (Ji hf)) (by rw[t3];exact p'.map _) ?_ λy hy=>?_⟩
  ·-- in order
   have len:arr.toList.length=Tr'.length:=by have:=congrArg List.length e';rwa [Qg,Qg] at this
   rw[ZL];intro i j hi hj hij;rw[Qg] at hi hj;rw[Qr9,Qr9];have ka:∀(k:Nat)(hk:k<Tr'.length),rdV h' (kx arr k).1=Tr'[k].d:=λk hk=>by
    have hk':k<arr.size:=by rw[<- Qj,len];exact hk
    have m:=Qeq hk';have m2:=(YE.mp pm).mem_iff.mp m;rw[Qd2] at m2;have e3:=(QcF m2).1;have e4:(kx arr k).2=Tr'[k].v:=by
     have h5:(arr.toList.map (·.2))[k]? = some (kx arr k).2:=by rw[QR,QaJ hk'];rfl
     rw[e',QR,Ql hk] at h5;exact(Qv h5).symm
    rw[e3,e4];obtain⟨dt,rv0⟩:=th' _ (Qr8 hk);obtain⟨⟨bs,rr⟩,cc⟩:=ZU I1.hok _ _ _ dt rv0;exact Qly rr cc
   have g:ltD (rdV h' (kx arr j).1) (rdV h' (kx arr i).1)=false:=sg i j (Qw _) (by omega) (by rw[<- Qj,len];exact hj);rw[ka i hi,ka j hj] at g;exact g
  ·obtain⟨t,ht,rfl⟩:=Qx.mp hy;rw[t1];exact Qx.mpr ⟨t,p'.mem_iff.mp ht,rfl⟩
end
end L2
namespace Dl
open L2 _root_.Rd Rk Rt
theorem QwT{A:Addr->Prop}{H:Hp}{xs:List V}{ds:List Qa}(q:DAs A H xs ds){v:V}(hv:v∈xs):∃d∈ds,DA A H v d:=by
 obtain⟨i,hi⟩:=JM.mp hv;obtain⟨d,hd,h⟩:=q.getV i v hi;exact⟨d,Q9 hd,h⟩
theorem Qhi{A:Addr->Prop}{H:Hp}:∀{ys:List V}{es:List Qa},Dats H ys es->(∀y∈ys,∃d,DA A H y d/\nd d=true/\d.canLay0=true/\Dat H y d)->(∀y d e,y∈ys->Dat H y d->Dat H y e->d=e)->DAs A H ys es
 |_,_,.nil,_,_=>.nil
 |_,_,.cons (x:=x) (d:=d) q qs,h,u=>by
  obtain⟨d',h1,_,_,h4⟩:=h x (.head _);have:d=d':=u x d d' (.head _) q h4;subst this;exact .cons h1 (Qhi qs (λy hy=>h y (.tail _ hy)) λy d e hy=>u y d e (.tail _ hy))
mutual
theorem QjE{H:Hp}:∀(d e:Qa)(x:V),Dat H x d->Dat H x e->d=e
 |.none,e,_,.non,h=>by cases h;rfl
 |.bool _,e,_,.bl _,h=>by cases h;rfl
 |.int _,e,_,.int _,h=>by cases h;rfl
 |.str _,e,_,.str _ _,h=>by cases h;rfl
 |.tuple ds,e,_,.tup (xs:=xs) e1 q,h=>by
  cases h with
  |@tup a ys es e2 q'=>
   rw[e1] at e2;cases e2;rw[Qex ds es xs q q']
  |@lst a ys es e2 q'=>rw[e1] at e2;cases e2
 |.list ds,e,_,.lst (xs:=xs) e1 q,h=>by
  cases h with
  |@tup a ys es e2 q'=>rw[e1] at e2;cases e2
  |@lst a ys es e2 q'=>
   rw[e1] at e2;cases e2;rw[Qex ds es xs q q']
 |.dict _,_,_,q,_=>nomatch q
theorem Qex{H:Hp}:∀(ds es:List Qa)(xs:List V),Dats H xs ds->Dats H xs es->ds=es
 |[],es,_,.nil,h=>by cases h;rfl
 |d::ds,es,_,.cons q qs,h=>by
  cases h with
  |@cons x xs e es q' qs'=>rw[QjE d e _ q q',Qex ds es _ qs qs']
end
mutual
theorem Qg5:∀(d:Qa),okK d=true->nd d=true
 |.int _,_=>rfl
 |.tuple ds,h=>Qic ds h
 |.none,h=>by cases h
 |.bool _,h=>by cases h
 |.str _,h=>by cases h
 |.list _,h=>by cases h
 |.dict _,h=>by cases h
theorem Qic:∀(ds:List Qa),Qdk ds=true->nds ds=true
 |[],_=>rfl
 |d::ds,h=>by
  have h:=Qs.mp (show(okK d&&Qdk ds)=true from h);show(nd d&&nds ds)=true;rw[Qg5 d h.1,Qic ds h.2];rfl
end
@[irreducible] def QgN:List Qa->(Qa->Prop)->Prop
 |[.list ds],Q=>Qb6 ds/\∀es:List Qa,es.Perm ds->es.Pairwise (λa b=>ltD b a=false)->Q (.list es)
 |[.tuple ds],Q=>Qb6 ds/\∀es:List Qa,es.Perm ds->es.Pairwise (λa b=>ltD b a=false)->Q (.list es)
 |_,_=>False
theorem QiW{ds:List Qa}{Q:Qa->Prop}(h:Qb6 ds)(k:∀es:List Qa,es.Perm ds->es.Pairwise (λa b=>ltD b a=false)->Q (.list es)):QgN [.list ds] Q/\QgN [.tuple ds] Q:=by
 unfold QgN;exact⟨⟨h,k⟩,h,k⟩
theorem Qgd:QcU QlB QgN:=λA P H vs ds R Q ln dm q h k=>by
 have go:∀(l:Addr)(xs:List V)(ds:List Qa),(H l=some (.lst xs)∨H l=some (.tup xs))->DAs A H xs ds->Qb6 ds->(∀es:List Qa,es.Perm ds->es.Pairwise (λa b=>ltD b a=false)->R (.list es))->QlB [.ref l] H Q:=λl xs ds hl qq so hR=>by
  have okds:Qdk ds=true:=Qib λd hd=>Qiw d (so.cmp d hd d hd)
  refine⟨l,xs,ds,rfl,hl,Qbm _ _ (Qic ds okds) qq,so,λt ys es H2 s n e2 dts pm pw sub=>?_⟩;have dm2:∀a,A a->∃xs,H2 a=some (.lst xs):=λa z=>by obtain⟨xs,e⟩:=dm a z;exact⟨xs,s _ _ e⟩
  refine k _ (hR es pm pw) _ H2 s (.lst (λz=>?_) e2 (Qhi dts (λy hy=>?_) λy d e _=>QjE d e y)) (QbR n)
  ·obtain⟨xs,e⟩:=dm t z;rw[n] at e;cases e
  ·obtain⟨d,hd,da⟩:=QwT qq (sub y hy);have ok:=Yl okds d hd;exact⟨d,da.same s,Qg5 d ok,Qdl d ok,Qhj d y (Qg5 d ok) (da.same s)⟩
 unfold QgN at h;split at h
 ·obtain⟨v,rfl,hv⟩:=pd1 q;obtain⟨l,xs,rfl,e,qq⟩:=hv.list;exact go l xs _ (.inl e) qq h.1 h.2
 ·obtain⟨v,rfl,hv⟩:=pd1 q;obtain⟨l,xs,rfl,e,qq⟩:=hv.tuple;exact go l xs _ (.inr e) qq h.1 h.2
 ·exact h.elim
end Dl
namespace L2
open PySem.Calls _root_.Rd _root_.Rk Rt
section
variable{X:Cx}
def ddI(ns:List Int):List Int:=ns.foldl Qcj []
theorem QpD(ns:List Int):firstMet (λi=>ns.getD i 0) ns.length=ddI ns:=by
 unfold firstMet ddI
 congr 1
 apply QbC
 intro i;rw[QR];by_cases h:i<ns.length
 ·rw[Zl h,Ql h];show some (ns.getD i 0)=_;rw[YG,Ql h];rfl
 ·rw[JZ (by simpa using h),JZ (by omega)];rfl
def Qyu(K:PySem.W.Frag):List V->Hp->VK->Prop:=λxs H Q=>∃(l:Addr)(ns:List Int),xs=[.ref l]/\SqL K H l (ns.map V.int)/\ns.length<=4000 /\
 ∀(t:Addr)(H2:Hp),Same H H2->H t=none->H2 t=some (.set (λk=>(ddI ns).any (· == k)) (ddI ns).length)->Q (.ref t) H2
theorem Qnm(hc:X.calm=true):CallR X (.type "set") (Qyu X.K):=by
 intro pins s σ H xs us Q I r h;obtain⟨p,ns,rfl,hp,hn,q⟩:=h;obtain⟨u,rfl,ru⟩:=vals1 r;cases ru;obtain⟨its,rv,pl,hz⟩:=I.list hp;have hi:IntsAre its ns:=intsAre_of rv;have hl:=hi.length;refine PySem.call_set_list (items:=its.toArray) (ns:=ns) (I.ok.hd hc) pl.isList (by simpa using hi) (by rw[Qr,hl];unfold scanBound;omega) λh' tk hS hk=>?_
 have ez:its.toArray.size=ns.length:=by rw[Qr];exact hl
 rw[ez,QpD] at hS;have hf:H s.heap.objs.size=none:=I.hok.fresh (Qi _);refine⟨.ref s.heap.objs.size,upd H s.heap.objs.size (.set (λk=>(ddI ns).any (· == k)) (ddI ns).length),I.laid (t':=tk) (λb x e=>hk b x (Qp e) e) (Qi _) hS,rfl,q _ _ (Ji hf) hf Jl⟩
def QsA:List V->Hp->VK->Prop:=λxs H Q=>∃(a:Addr)(S:Int->Bool)(n:Nat),xs=[.ref a]/\H a=some (.set S n)/\n<=4000/\Q (.int n) H
theorem QiA:CallR X (.builtin "len") QsA:=by
 intro pins s σ H xs us Q I r h;obtain⟨a,S,n,rfl,ha,hn,q⟩:=h;obtain⟨u,rfl,ru⟩:=vals1 r;cases ru;obtain⟨o,es,ep,t,ho,hex,hd,hel,hmem,hb,hf,hz⟩:=I.hok a _ ha;have hz:es.size=n:=hz;refine PySem.call_len_set ho hex hd hf (by
                       rw[hz];have:(4000:Int)<2^63:=by decide
                       omega) ?_
 rw[hz];exact⟨.int n,H,I.tok _,⟨_,rfl⟩,q⟩
theorem QjD:∀(ns σ:List Int),(ns.foldl Qcj σ).length<=σ.length+ns.length/\(σ.Nodup->((ns.foldl Qcj σ).length=σ.length+ns.length↔(σ++ns).Nodup))
 |[],σ=>⟨Qi _,λh=>by simp[h]⟩
 |n::ns,σ=>by
  rw[Qgo,QJ];by_cases z:σ.any (· == n)=true
  ·have e:Qcj σ n=σ:=by unfold Qcj;rw[if_pos z]
   rw[e];obtain⟨a,b⟩:=QjD ns σ;refine⟨by omega,λhs=>⟨λq=>by omega,λq=>?_⟩⟩;obtain⟨x,hx,hn⟩:=Qb9.mp z;have hn:=beq_iff_eq.mp hn;subst hn;exact absurd rfl ((YD.mp q).2.2 x hx x (.head _))
  ·have e:Qcj σ n=σ++[n]:=by unfold Qcj;rw[if_neg z]
   rw[e];obtain⟨a,b⟩:=QjD ns (σ++[n]);rw[Qu] at a b;have nm:n∉σ:=λhx=>z (Qb9.mpr ⟨n,hx,by simp⟩)
   refine⟨by simp only[Qcx] at a;omega,λhs=>?_⟩;have hs2:(σ++[n]).Nodup:=YD.mpr ⟨hs,by simp,λx hx y hy=>by rw[Jh.mp hy];exact λe=>nm (e ▸ hx)⟩;have:=b hs2;rw[Q0] at this;have e3:σ++n::ns=σ++([n]++ns):=rfl;rw[e3,<- this];simp only[Qcx];omega
theorem Qzf(ns:List Int):(ddI ns).length<=ns.length:=by have:=(QjD ns []).1;unfold ddI;simpa using this
theorem QjC(ns:List Int):(ddI ns).length=ns.length↔ns.Nodup:=by have:=(QjD ns []).2 (by simp);unfold ddI;simpa using this
def QzE:R2:=λx y H Q=>∃d e,Dat H x d/\Dat H y e/\Dl.QhN d e=true/\d.depth<=20/\Q (.bl (Dl.ltD d e)) H
theorem Qv1(hu:X.A.units+60<cLine):OpR X (compareOp .Lt) QzE:=by
 intro pins s σ H x y v u Q I rx ry h;obtain⟨d,e,qx,qy,hk,hd,q⟩:=h;obtain⟨⟨as,ra⟩,ca⟩:=ZU I.hok d x v qx rx;obtain⟨⟨bs,rb⟩,cb⟩:=ZU I.hok e y u qy ry;exact Qsy 20 d e X.A s v u as bs ra rb ca cb hk hd (by omega) _ _ _ _ ⟨.bl _,H,I,rfl,q⟩
end
end L2
namespace Dl
open L2 _root_.Rd Rk Rt
@[irreducible] def anyD:List Qa->(Qa->Prop)->Prop
 |[.list ds],Q=>∃bs,QbY ds=some bs/\Q (.bool (bs.any id))
 |_,_=>False
def QAx:Qa->Qa->(Qa->Prop)->Prop:=λd e Q=>(okK d=true/\okK e=true/\QhN d e=true/\d.depth<=20)/\Q (.bool (ltD d e))
theorem Qwg:OpD QzE QAx:=λA P H x y d1 d2 R Q ln dm hx hy h k=>by
 obtain⟨⟨h1,h2,h3,h4⟩,hR⟩:=h;exact⟨d1,d2,hx.dat (Qg5 d1 h1),hy.dat (Qg5 d2 h2),h3,h4,k _ hR _ H (Same.refl H) (.bl _) Qad⟩
section
variable{X:Cx}{E:XK}
def Qnb(w:DE):DE:=λδ Q EX=>w δ (λd=>match d with
 |.list ds=>∃ns,QdG ds=some ns/\ns.length<=4000/\Q (.int (ddI ns).length)
 |_=>False) EX
theorem bt_set:bootBuiltins "set" = some (.type "set"):=by decide +kernel
theorem Ql5{e:QP}{w:DE}{p p2 pos pos2:Pos}(hg:Gl X "len")(hm:X.mg "len" = none)(hg2:Gl X "set")(hm2:X.mg "set" = none)(h:PE X e (tX .P X.K E w))(hc:X.calm=true)(hs:notStar e=true):PE X (.Call (.Name "len" p) [.Call (.Name "set" p2) [e] [] pos2] [] pos) (tX .F X.K E (Qnb w)):=by
 refine PE.imp (Zh QiA hg hm QaY (Qcg (Qei (Qnm hc) hg2 hm2 bt_set (Qcg h JQ hs) (he:=Zv hs)) JQ)) λσ H Q ⟨F,δ,R,EX,rel,hw,k,o⟩=>?_
 refine⟨F,δ,_,EX,rel,hw,λd hd v H1 rel1 kp1 vk=>?_,o⟩;cases d<;>first | exact(show False from hd).elim | skip
 obtain⟨ns,hn,hl,hR⟩:=hd;rw[QmM hn] at vk;obtain⟨l,xs,rfl,e,q⟩:=DP.list vk;rw[QjH q] at e;refine⟨l,ns,rfl,SqL.of e,hl,λt H2 s2 n2 e2=>⟨t,_,_,rfl,e2,?_,?_⟩⟩
 ·have:=Qzf ns;omega
 ·exact k _ hR _ H2 (rel1.same s2) (kp1.trans (Kp.same rel1 s2)) ⟨.int _,Yt⟩
theorem Qi6{e:QP}{w:DE}{p p2 pos pos2:Pos}(hg:Gl X "len")(hm:X.mg "len" = none)(hg2:Gl X "set")(hm2:X.mg "set" = none)(h:QE .P X E e w)(hc:X.calm=true:=by rfl)(hs:notStar e=true:=by rfl):QE .F X E (.Call (.Name "len" p) [.Call (.Name "set" p2) [e] [] pos2] [] pos) (Qnb w):=⟨Ql5 hg hm hg2 hm2 h.h hc hs⟩
end
end Dl
namespace Rk
open L2 _root_.Rd Dl
def inW(d:Qa)(a b:Int):Bool:=match d with
 |.int i=>decide (a<=i)&&decide (i<=b)
 |_=>false
theorem QeO{i a b:Int}(h1:a<=i)(h2:i<=b):inW (.int i) a b=true:=by
 show(decide (a<=i)&&decide (i<=b))=true;rw[decide_eq_true h1,decide_eq_true h2];rfl
theorem QkB{d:Qa}{a b:Int}(h:inW d a b=true):∃i,d=.int i/\a<=i/\i<=b:=by
 cases d<;>first | (cases h;done) | skip
 rename_i i
 have h:=Qs.mp (show(decide (a<=i)&&decide (i<=b))=true from h);exact⟨i,rfl,of_decide_eq_true h.1,of_decide_eq_true h.2⟩
def Qc8:DF:=λargs R _=>∃d a b,args=[.v d,.v (.int a),.v (.int b)]/\R (.bool (inW d a b))
theorem QaW(ns:List Int):nds (ns.map Qq)=true:=Qf1.mpr λd hd=>by
 obtain⟨i,_,rfl⟩:=Qx.mp hd;rfl
theorem QjJ(xs:List Qa)(k:Int)(h:0<=k):Dl.cutD xs none (some k)=xs.take k.toNat:=by
 unfold Dl.cutD;obtain⟨j,rfl⟩:∃j:Nat,k=j:=⟨k.toNat,by omega⟩
 rw[HT.QfP,HT.Qlv,Zn,Qk4,QK];by_cases z:j<=xs.length
 ·rw[Yw z]
 ·rw[Nat.min_eq_right (by omega),ZJ,Qah (by omega)]
end Rk
namespace Rx
open PySem.Calls L2
section
variable{X:Cx}{e:QP}{st:ZZ}{rest:List ZZ}{pos:Pos}{te:TX}{t u:TSX}
theorem QsR(he:PEX X e te):PSX X (.Return (some e) pos) (λD σ H Ex=>te σ H D.rt Ex):=by
 intro pins s σ H D Ex I h;exact Qgt (thn (he pins s σ H _ _ I h) λv s1 ⟨x,H1,I1,r1,q1⟩=>⟨x,σ,H1,I1,r1,q1⟩)
end
end Rx
namespace L2
open Dl
end L2
namespace Dl
open L2 _root_.Rd Rk
def tXx(m:Md)(K:PySem.W.Frag)(w:DE):Rx.TX:=λσ H Q Ex=>∃(F:Fm)(δ:Sts)(R:Qa->Prop)(EX:XP),Rel K F σ H δ/\w δ R EX/\(∀d,R d->∀v H',Rel K F σ H' δ->Kp σ δ H H'->Vok m F σ δ H H' v d->Q v H')/\∀C,EX C->∀H',Rel K F σ H' δ->Kp σ δ H H'->Ex C H'
structure Qzu (K:PySem.W.Frag) (F:Fm) (σ:L2.St) (H:Hp) (δ:Sts) (DD:QeE) (D:L2.Ends) (Ex:Addr->Hp->Prop):Prop where
 nx:∀δ',DD.nx δ'->δ'=δ/\∀H',Rel K F σ H' δ->Kp σ δ H H'->D.nx σ H'
 rt:∀d,DD.rt d->∀v H',Ke F H'->DA F.A0 H' v d->D.rt v H'
 rtF:∀d,DD.rtF d->∀v H',Ke F H'->DA F.A0 H' v d->FrV F.H0 H' v->D.rt v H'
 ex:∀C,DD.ex C->∀H',Rel K F σ H' δ->Kp σ δ H H'->Ex C H'
def tSx(K:PySem.W.Frag)(w:DS):Rx.TSX:=λD σ H Ex=>∃(F:Fm)(δ:Sts)(DD:QeE),Rel K F σ H δ/\w DD δ/\Qzu K F σ H δ DD D Ex
structure QX (m:Md) (X:Cx) (e:QP) (w:DE):Prop where h:Rx.PEX X e (tXx m X.K w)
structure QSX (X:Cx) (st:ZZ) (w:DS):Prop where h:Rx.PSX X st (tSx X.K w)
structure QSXs (X:Cx) (sts:List ZZ) (w:DS):Prop where h:Rx.Qzs X sts (tSx X.K w)
section
variable{X:Cx}
theorem PEX.imp{e:QP}{t t':Rx.TX}(h:Rx.PEX X e t)(i:∀σ H Q Ex,t' σ H Q Ex->t σ H Q Ex):Rx.PEX X e t':=λpins s σ H Q Ex I q=>h pins s σ H Q Ex I (i σ H Q Ex q)
theorem PSX.imp{e:ZZ}{t t':Rx.TSX}(h:Rx.PSX X e t)(i:∀D σ H Ex,t' D σ H Ex->t D σ H Ex):Rx.PSX X e t':=λpins s σ H D Ex I q=>h pins s σ H D Ex I (i D σ H Ex q)
def Qw4(f:DF)(wa:DSl):DE:=λδ Q EX=>wa δ (λargs=>f args Q EX) XF
variable{k:Nat}{f:Addr}{fd:QN}{ps:List Str}{x:Str}{p pos:Pos}{e:QP}{es:List QP}{fD:DF}{wa:DSl}
theorem Qnp{m:Md}{fr:Bool}{K:PySem.W.Frag}{F:Fm}{σ:L2.St}{δ:Sts}{H H1:Hp}{R:Qa->Prop}{EX:XP}{Q:VK}{Ex:Addr->Hp->Prop}{vs:List V}{args:List Sl}(hm:∀{v:V}{d:Qa}{H':Hp},DA (Av F σ δ) H' v d->(fr=true->FrV H H' v)->Vok m F σ δ H H' v d)
  (k:∀d,R d->∀v H',Rel K F σ H' δ->Kp σ δ H H'->Vok m F σ δ H H' v d->Q v H')(kx:∀C,EX C->∀H',Rel K F σ H' δ->Kp σ δ H H'->Ex C H')(rel1:Rel K F σ H1 δ)(kp1:Kp σ δ H H1)(q:Z6 (QhA (Av F σ δ) (ZK σ δ) H1) vs args)(ha:fD args R EX) :
  Zj fr fD vs H1 Q λcv _ H2=>∃C,cv=.ref C/\Ex C H2:=by
 refine⟨Av F σ δ,ZK σ δ,args,R,EX,λa ha=>rel1.isl ha,λp hp=>⟨Yq hp,(Kp.refl rel1).2 p hp⟩,q,ha,λd hd v H' kq dv fr=>?_,λC hC H' kq=>⟨C,rfl,kx C hC H' (rel1.kp kq) (kp1.trans kq)⟩⟩;exact k d hd v H' (rel1.kp kq) (kp1.trans kq) (hm dv λz l e1 e2=>Qbl kp1 (fr z l e1 e2))
theorem Qsc(G:FnOk X.prog X.w X.K X.mg X.base (Rx.CXE X.prog X.w) k f fd ps (Zj true fD))(hr:Room k X.A)(hg:Gl X x)(hm:X.mg x=some (.ref f))(hk:PySem.W.keepIn X.K (.ref f)=true)(hb:Binds X.K fd ps [])(ha:QAs X.nox E0 (e::es) wa)(hex:X.ex=[]:=by rfl)
  (hdb:(x == ("__debug__" : Str))=false:=by decide)(he:starEach (e::es) X.env=(false,eval e X.env)::starEach es X.env:=by rfl)(hpl:(backTo pos (starEach es X.env)).any (·.1)=false:=by rfl) :
  QX .F X (.Call (.Name x p) (e::es) [] pos) (Qw4 fD wa):=by
 refine⟨PEX.imp (Rx.Qox G hr hg hm hk hb hex ha.h hdb he hpl) λσ H Q Ex ⟨F,δ,R,EX,rel,hw,k,kx⟩=>?_⟩;exact⟨F,δ,_,XF,rel,hw,λargs ha vs H1 rel1 kp1 q=>Qnp (m:=.F) (λh z=>⟨h,z rfl⟩) k kx rel1 kp1 q ha,Qjf⟩
theorem Qsl{w:DE}(h:QX .F X e w):QSX X (.Return (some e) pos) (Qua w):=by
 refine⟨PSX.imp (Rx.QsR h.h) λD σ H Ex ⟨F,δ,DD,rel,hw,en⟩=>?_⟩;exact⟨F,δ,_,DD.ex,rel,hw,λd hd v H' r' kp vk=>en.rtF d hd v H' r'.ke (QpK vk.1) λl e1 e2=>Qjx rel (vk.2 l e1 e2),en.ex⟩
theorem Qsk{st:ZZ}{w:DS}(h:QSX X st w):QSXs X [st] w:=⟨Rx.Qou h.h⟩
def QAK(ks:Addr->Str->Prop)(w:DS):DS:=λD δ=>w { D with nx:=λδ'=>δ'=δ/\D.nx δ,ex:=λC=>∃wd,ks C wd/\YH (.str wd)=true/\D.rt (.str wd) } δ
structure QH (X:Cx) (i:Nat) (hx:QP) (sp:Sp):Prop where h:∀e,PE (Rx.mkd X e) hx (λσ H Q=>(QdM (QgF i) Qra) σ H λvs H1=>sp vs H1 Q E0)
theorem QsL{i:Nat}{sp:Sp}{y:Str}{pos2:Pos}(G:Rx.FnM X.prog X.w X.K X.mg X.base 1 f fd ps sp)(hr:Room 1 X.A)(hm:X.mg x=some (.ref f))(hk:PySem.W.keepIn X.K (.ref f)=true)(hb:Binds X.K fd ps [])(hg:Gl X x:=by rfl)(hN:X.N[i]? = some y:=by rfl)(hv:Vis X.env.scope y:=by first | exact QV rfl | exact Q3 (QV rfl) | exact Q3 (Q3 rfl))(hd:(y == ("__debug__" : Str))=false:=by decide)(hcd:(y == ("__classdict__" : Str))=false:=by decide)(hdb:(x == ("__debug__" : Str))=false:=by decide) :
  QH X i (.Call (.Name x p) [.Name y pos2] [] pos) sp:=⟨λe=>Rx.QoC (X:=Rx.mkd X e) G (Rx.Room.m hr e) hg hm hk hb (Qcg (X:=Rx.mkd X e) (pv (X:=Rx.mkd X e) i hN hv hd hcd) JQ rfl) hdb rfl rfl⟩
theorem Qvp{E:XK}{R:Addr}{i:Nat}{n r:Str}{body:List ZZ}{hx:QP}{w:DS}{ks:Addr->Str->Prop}{sp:Sp}{np hp hpos pos:Pos}(hb:QSXs X body w)(hN:X.N.Nodup)(hm:X.mg r=some (.ref R))(hh:QH X i hx sp)
  (hk:∀{C:Addr}{wd:Str},ks C wd->∀{H1:Hp}{Q:VK}{σ:L2.St},i < σ.length->(∀H',Same H1 H'->Q (.str wd) H')->Rx.ByC X.K C R/\∀a,H1 a=none->(QdM (QgF i) Qra) (σ.set i (some (.ref a))) (upd H1 a (Rx.exO a C)) λvs H2=>sp vs H2 Q E0)
  (hstk:X.stack=X.env::X.outer:=by rfl)(hfr:X.env.frame=some X.env.locals:=by rfl)(hi:X.N[i]? = some n:=by rfl)(hl:X.env.scope.names.lookup n=some .local:=by rfl)(hg:Gl X r:=by rfl)(hd:(r == ("__debug__" : Str))=false:=by decide) :
  QS X E (.Try body [.ExceptHandler (some (.Name r np)) (some n) [.Return (some hx) hp] hpos] [] [] pos) (QAK ks w):=by
 refine⟨λpins s σ H D I ⟨F,δ,DD,rel,hw,en⟩=>Rx.QsS hstk hfr hb.h hN hi hl hg hm hh.h hd pins s σ H D I ?_⟩;have hlen:i < σ.length:=by rw[I.len];exact(QY.mp hi).1
 refine⟨F,δ,_,rel,hw,λδ' ⟨e1,h1⟩=>⟨e1,λH' r' kp=>en.nx.go δ h1 σ H' r' (Stp.kp kp)⟩,en.rt,en.rtF,λC ⟨wd,hks,cl,hr⟩ H' r' kp=>?_⟩;exact hk hks hlen λH2 s2=>en.rt _ hr _ H2 (r'.same s2).ke (.str wd cl)
end
end Dl
namespace Rk
open L2 _root_.Rd Dl Rt
def Qca:List Qa->Bool
 |x::y::r=>ltD x y&&Qca (y::r)
 |_=>true
def Qwq:Qa->Bool
 |.tuple [a,b]=>ltD a b
 |_=>false
theorem Que(d:Qa)(ds:List Qa):Dl.cutD (d::ds) (some 1) none=ds:=by
 unfold Dl.cutD;rw[HT.QfP,show(1:Int)=((1:Nat):Int) from rfl,HT.Qlv];rw[Yw (by rw[QJ];omega),List.drop_one,List.tail_cons,QJ,Qd7,ZJ]
theorem Qea:∀ds:List Qa,(Qj4 ds (Dl.cutD ds (some 1) none)).all Qwq=Qca ds
 |[]=>by
  have h:(Qj4 ([]:List Qa) (Dl.cutD [] (some 1) none))=[]:=by unfold Qj4;rfl
  rw[h];rfl
 |[x]=>by rw[Que];rfl
 |x::y::r=>by
  have ih:=Qea (y::r);rw[Que] at ih ⊢;show(Qwq (.tuple [x,y])&&(Qj4 (y::r) r).all Qwq)=_;rw[ih];rfl
def QrY(ds:List Qa):Prop:=∀x∈ds,okK x=true/\x.depth<=20/\∀y∈ds,QhN x y=true
def Qh3:DF:=λargs R _=>∃ds:List Qa,(args=[.v (.tuple ds)]∨args=[.v (.list ds)])/\QrY ds/\R (.bool (Qca ds))
def Qio(h w:Int):Qa->Bool
 |.tuple [a,b]=>inW a 0 (h - 1)&&inW b 0 (w - 1)
 |_=>false
theorem QwD{h w:Int}{d:Qa}(q:Qio h w d=true):∃p:Int×Int,d=pairD p/\0<=p.1/\p.1<h/\0<=p.2/\p.2<w:=by
 cases d<;>first | (cases q;done) | skip
 rename_i ds
 match ds,q with
 |[a,b],q=>
  have q:=Qs.mp (show(inW a 0 (h - 1)&&inW b 0 (w - 1))=true from q);obtain⟨i,rfl,i1,i2⟩:=QkB q.1;obtain⟨j,rfl,j1,j2⟩:=QkB q.2;exact⟨(i,j),rfl,i1,by show i<h;omega,j1,by show j<w;omega⟩
 |[],q=>cases q
 |[_],q=>cases q
 |_::_::_::_,q=>cases q
theorem QwC{h w:Int}{p:Int×Int}(h1:0<=p.1)(h2:p.1<h)(h3:0<=p.2)(h4:p.2<w):Qio h w (pairD p)=true:=by
 show(inW (.int p.1) 0 (h - 1)&&inW (.int p.2) 0 (w - 1))=true;rw[QeO h1 (by omega),QeO h3 (by omega)];rfl
def toP:Qa->Int×Int
 |.tuple [.int a,.int b]=>(a,b)
 |_=>(0,0)
theorem QfW{h w:Int}{ds:List Qa}(q:ds.all (Qio h w)=true):∃L:List (Int×Int),ds=L.map pairD/\∀p∈L,0<=p.1/\p.1<h/\0<=p.2/\p.2<w:=by
 induction ds with
 |nil=>exact⟨[],rfl,λ_ h=>nomatch h⟩
 |cons d ds ih=>
  rw[Qxv,JG] at q;obtain⟨p,rfl,hp⟩:=QwD q.1;obtain⟨L,rfl,hL⟩:=ih q.2;refine⟨p::L,rfl,λx hx=>?_⟩;rcases Qz.mp hx with z | z
  ·rw[z];exact hp
  ·exact hL x z
theorem Qbb(L:List (Int×Int)):(L.map pairD).map toP=L:=by
 rw[Jr]
 conv=>rhs;rw[<- QnL L]
 rfl
theorem Qit(p:Int×Int):(pairD p).depth<=1:=by
 show Q4 [.int p.1,.int p.2]+1<=1;simp[Q4,Jx]
theorem Qcq{n:Nat}:∀{ds:List Qa},(∀d∈ds,d.depth<=n)->Q4 ds<=n
 |[],_=>Qw _
 |d::ds,h=>by
  show max d.depth (Q4 ds)<=n;exact Nat.max_le.mpr ⟨h d (.head _),Qcq λd hd=>h d (.tail _ hd)⟩
theorem Qhl(L:List (Int×Int)):QrY (L.map pairD):=λx hx=>by
 obtain⟨p,_,rfl⟩:=Qx.mp hx;refine⟨rfl,Q2 (Qit p) (by decide),λy hy=>?_⟩;obtain⟨q,_,rfl⟩:=Qx.mp hy;rfl
def stT(L:List (Int×Int)):Qa:=.tuple (L.map pairD)
def plt(p q:Int×Int):Prop:=p.1<q.1∨(p.1=q.1/\p.2<q.2)
instance plt_dec (p q:Int×Int):Decidable (plt p q):=by unfold plt;exact inferInstance
theorem Qjn(p q:Int×Int):ltD (pairD p) (pairD q)=decide (plt p q):=by
 show isL (thn (Qfr p.1 q.1) (thn (Qfr p.2 q.2) .eq))=_;unfold Qfr plt;by_cases h1:p.1<q.1
 ·rw[if_pos h1];exact(decide_eq_true (.inl h1)).symm
 ·rw[if_neg h1];by_cases h2:p.1=q.1
  ·rw[if_pos h2];by_cases h3:p.2<q.2
   ·rw[if_pos h3];exact(decide_eq_true (.inr ⟨h2,h3⟩)).symm
   ·rw[if_neg h3];have:decide (p.1<q.1∨p.1=q.1/\p.2<q.2)=false:=decide_eq_false (by omega);rw[this];split<;>rfl
  ·rw[if_neg h2];exact(decide_eq_false (by omega)).symm
theorem Qhg(p q:Int×Int):Jq (pairD p) (pairD q)=decide (p=q):=by
 show((p.1 == q.1)&&((p.2 == q.2)&&true))=_;obtain⟨a,b⟩:=p;obtain⟨c,d⟩:=q;by_cases h1:a=c
 ·by_cases h2:b=d
  ·subst h1 h2;simp
  ·simp[h1,h2]
 ·simp[h1]
theorem Qhx(cs:List (Int×Int))(p:Int×Int):((cs.map pairD).any λc=>Jq c (pairD p))=decide (p∈cs):=by
 rw[Qx3,Qab,Qb9,decide_eq_true_iff];constructor
 ·rintro⟨c,hc,h⟩;have:c=p:=of_decide_eq_true (by rw[<- Qhg];exact h);rw[<- this];exact hc
 ·intro h;refine⟨p,h,?_⟩;show Jq (pairD p) (pairD p)=true;rw[Qhg];simp
def QAD(h w:Int):Qa->Bool
 |.tuple ds=>ds.all (Qio h w)&&Qca ds
 |_=>false
def apB(L:List (Int×Int)):Bool:=decide (L.map (·.1)).Nodup&&decide (L.map (·.2)).Nodup
def bdD(h w:Int)(cs:List (Int×Int)):Qa:=.tuple [.int h,.int w,.tuple (cs.map pairD)]
def inC(cs:List (Int×Int))(e:Qa):Bool:=(cs.map pairD).any λc=>Jq c e
def QmJ(h w:Int)(cs:List (Int×Int)):Qa->Bool
 |.tuple ds=>(ds.all (Qio h w)&&Qca ds)&&(ds.all (inC cs)&&apB (ds.map toP))
 |_=>false
def QlP:DF:=λargs R _=>∃(h w:Int)(d:Qa),args=[.v (.int h),.v (.int w),.v d]/\R (.bool (Qio h w d))
def Qni:DF:=λargs R _=>∃(h w:Int)(d:Qa),args=[.v (.int h),.v (.int w),.v d]/\R (.bool (QAD h w d))
def Qny:DF:=λargs R _=>∃L:List (Int×Int),args=[.v (.tuple (L.map pairD))]/\L.length<=4000/\R (.bool (apB L))
def Qrf(d:Qa):Prop:=∀ds,d=.tuple ds->ds.length<=1000
def Qll:DF:=λargs R _=>∃(h w:Int)(cs:List (Int×Int))(d:Qa),args=[.v (bdD h w cs),.v d]/\Qrf d/\R (.bool (QmJ h w cs d))
theorem Qfs(ns:List Int):QdG (ns.map Qq)=some ns:=Dl.ints_map ns
def Qrh(r n:Nat)(f:Nat->Nat->Bool):List (Int×Int):=((QQ n).filter (f r)).map λ(c:Nat)=>((r:Int),(c:Int))
def QcR(h w:Nat)(f:Nat->Nat->Bool):List (Int×Int):=(QQ h).flatMap λr=>Qrh r w f
theorem QeA(h w:Nat)(f:Nat->Nat->Bool):QcR (h+1) w f=QcR h w f++Qrh h w f:=by
 unfold QcR;rw[Qct,Z3];simp
theorem Qf4{r n:Nat}{f:Nat->Nat->Bool}{p:Int×Int}:p∈Qrh r n f↔∃c:Nat,c<n/\f r c=true/\p=((r:Int),(c:Int)):=by
 unfold Qrh;rw[Qx];constructor
 ·rintro⟨c,hc,rfl⟩;have hc:=JY.mp hc;exact⟨c,YN.mp hc.1,hc.2,rfl⟩
 ·rintro⟨c,hc,hf,rfl⟩;exact⟨c,JY.mpr ⟨YN.mpr hc,hf⟩,rfl⟩
theorem Qfk{h w:Nat}{f:Nat->Nat->Bool}{p:Int×Int}:p∈QcR h w f↔∃r c:Nat,r<h/\c<w/\f r c=true/\p=((r:Int),(c:Int)):=by
 unfold QcR;rw[YV];constructor
 ·rintro⟨r,hr,hp⟩;obtain⟨c,hc,hf,rfl⟩:=Qf4.mp hp;exact⟨r,c,YN.mp hr,hc,hf,rfl⟩
 ·rintro⟨r,c,hr,hc,hf,rfl⟩;exact⟨r,YN.mpr hr,Qf4.mpr ⟨c,hc,hf,rfl⟩⟩
theorem Qnh{h w:Nat}{f:Nat->Nat->Bool}{p:Int×Int}(q:p∈QcR h w f):0<=p.1/\p.1<h/\0<=p.2/\p.2<w:=by
 obtain⟨r,c,hr,hc,_,rfl⟩:=Qfk.mp q;exact⟨Qd8 _,by show(r:Int)<h;omega,Qd8 _,by show(c:Int)<w;omega⟩
theorem Qof(r n:Nat)(f:Nat->Nat->Bool):(Qrh r n f).length<=n:=by
 unfold Qrh;rw[Qg];exact Q2 (Qaw _ _) (by rw[Jd];exact Qi _)
theorem QkJ(w:Nat)(f:Nat->Nat->Bool):∀h,(QcR h w f).length<=h*w
 |0=>Qw _
 |h+1=>by
  have:=QkJ w f h;have:=Qof h w f;rw[QeA,Qu,Qk3];omega
theorem QsO(r n:Nat)(f:Nat->Nat->Bool):(Qrh r n f).Pairwise plt:=by
 unfold Qrh;refine Qx5 (R:=λa b=>a<b) _ (λa b hab=>.inr ⟨rfl,by show(a:Int)<b;omega⟩) ?_
 exact Z9 _ List.pairwise_lt_range
theorem QgV(w:Nat)(f:Nat->Nat->Bool):∀h,(QcR h w f).Pairwise plt
 |0=>.nil
 |h+1=>by
  rw[QeA];refine Je.mpr ⟨QgV w f h,QsO h w f,λp hp q hq=>?_⟩;obtain⟨r,c,hr,_,_,rfl⟩:=Qfk.mp hp;obtain⟨c',_,_,rfl⟩:=Qf4.mp hq;exact .inl (by show(r:Int)<h;omega)
theorem QvC{p q:Int×Int}(h:plt p q):p≠q:=λe=>by subst e;rcases h with z | z<;>omega
def Qog(cs:List (Int×Int))(r:Int):List (Int×Int):=cs.filter λp=>decide (p.1=r)
def QpF(cells L:List (Int×Int)):List (List (Int×Int)):=(cells.filter λc => !decide (c.2∈L.map (·.2))).map λc=>L++[c]
def QgH(cs:List (Int×Int)):Nat->List (List (Int×Int))
 |0=>[[]]
 |i+1=>QgH cs i++(QgH cs i).flatMap (QpF (Qog cs i))
theorem QpE(cells L:List (Int×Int)):(QpF cells L).length<=cells.length:=by
 unfold QpF;rw[Qg];exact Qaw _ _
theorem Qjy{α β:Type}{f:α->List β}{k:Nat}:∀{xs:List α},(∀x∈xs,(f x).length<=k)->(xs.flatMap f).length<=xs.length*k
 |[],_=>Qw _
 |x::xs,h=>by
  have h1:=h x (.head _);have h2:=Qjy (xs:=xs) λy hy=>h y (.tail _ hy)
  rw[QeG,Qu,QJ,Qk3];omega
theorem Qn4{cs:List (Int×Int)}{k:Nat}(h:∀r,(Qog cs r).length<=k):∀i,(QgH cs i).length<=(k+1)^i
 |0=>Qi _
 |i+1=>by
  have h1:=Qn4 h i;have h2:=Qjy (xs:=QgH cs i) (k:=k) λL _=>Q2 (QpE (Qog cs i) L) (h i)
  show(QgH cs i++(QgH cs i).flatMap (QpF (Qog cs i))).length<=_;rw[Qu,Nat.pow_succ,Nat.mul_add,Nat.mul_one];have h3:(QgH cs i).length*k<=(k+1)^i*k:=Nat.mul_le_mul_right k h1;omega
theorem QcN{cells L M:List (Int×Int)}:M∈QpF cells L↔∃c∈cells,c.2∉L.map (·.2)/\M=L++[c]:=by
 unfold QpF;rw[Qx];constructor
 ·rintro⟨c,hc,rfl⟩;have hc:=JY.mp hc;exact⟨c,hc.1,by simpa using hc.2,rfl⟩
 ·rintro⟨c,hc,hn,rfl⟩;exact⟨c,JY.mpr ⟨hc,by simpa using hn⟩,rfl⟩
theorem Qlj(cs:List (Int×Int)):∀i,[]∈QgH cs i
 |0=>.head _
 |i+1=>Jo.mpr (.inl (Qlj cs i))
theorem Qup(ns:List Int)(i:Int):((ns.map Qq).any λe=>Jq e (.int i))=decide (i∈ns):=by
 rw[Qx3,Qab,Qb9,decide_eq_true_iff];constructor
 ·rintro⟨c,hc,h⟩;have:c=i:=by simpa [Jq] using h
  rw[<- this];exact hc
 ·intro h;refine⟨i,h,?_⟩;show(i == i)=true;simp
def toI:Qa->Int
 |.int i=>i
 |_=>0
theorem Qn1(ns:List Int):(ns.map Qq).map toI=ns:=by
 rw[Jr]
 conv=>rhs;rw[<- QnL ns]
 rfl
def tI(ns:List Int):Qa:=.tuple (ns.map Qq)
def QAB(L:List (Int×Int))(p:Int×Int):Bool := !(L.any λq=>(decide (q.2=p.2)&&decide (q.1≥p.1))||(decide (q.1=p.1)&&decide (q.2<p.2)))
theorem Qn5{h w:Int}{cs:List (Int×Int)}{d:Qa}(q:QmJ h w cs d=true):∃L,d=stT L/\∀p∈L,0<=p.1/\p.1<h/\0<=p.2/\p.2<w:=by
 cases d<;>first | (cases q;done) | skip
 rename_i ds
 have q:=Qs.mp (show((ds.all (Qio h w)&&Qca ds)&&(ds.all (inC cs)&&apB (ds.map toP)))=true from q);obtain⟨L,rfl,hL⟩:=QfW (Qs.mp q.1).1;exact⟨L,rfl,hL⟩
theorem Qlw:∀{L:List (Int×Int)},L.Pairwise plt->Qca (L.map pairD)=true
 |[],_=>rfl
 |[_],_=>rfl
 |p::q::L,h=>by
  have h:=Yg.mp h;show(ltD (pairD p) (pairD q)&&Qca ((q::L).map pairD))=true;rw[Qjn,decide_eq_true (h.1 q (.head _)),Qlw h.2];rfl
theorem Qsn{h w:Int}{cs L:List (Int×Int)}(hb:∀p∈cs,0<=p.1/\p.1<h/\0<=p.2/\p.2<w)(hin:∀p∈L,p∈cs)(ha:apB L=true)(hp:L.Pairwise plt):QmJ h w cs (stT L)=true:=by
 show(((L.map pairD).all (Qio h w)&&Qca (L.map pairD))&&((L.map pairD).all (inC cs)&&apB ((L.map pairD).map toP)))=true;have e1:(L.map pairD).all (Qio h w)=true:=Jz.mpr λd hd=>by
  obtain⟨p,hp,rfl⟩:=Qx.mp hd;have:=hb p (hin p hp);exact QwC this.1 this.2.1 this.2.2.1 this.2.2.2
 have e2:(L.map pairD).all (inC cs)=true:=Jz.mpr λd hd=>by
  obtain⟨p,hp,rfl⟩:=Qx.mp hd;unfold inC;rw[Qhx];exact decide_eq_true (hin p hp)
 rw[Qbb,ha,Qlw hp,e1,e2];rfl
theorem Qt2{α β:Type}{g:α->Option β}{p:α->Bool}{k:α->β}:∀{xs:List α},(∀x∈xs,g x=if p x=true then some (k x) else none)->xs.filterMap g=(xs.filter p).map k
 |[],_=>rfl
 |x::xs,h=>by
  have ih:=Qt2 (xs:=xs) λy hy=>h y (.tail _ hy)
  by_cases z:p x=true
  ·rw[List.filterMap_cons_some (by rw[h x (.head _),if_pos z]),ih,QiI z];rfl
  ·rw[List.filterMap_cons_none (by rw[h x (.head _),if_neg z]),ih,QiJ z]
theorem QtQ{ns:List Int}(h:1<=ns.length):atI (ns.map Qq) (-1)=some (.int (ns.getLastD 0)):=by
 cases e:ns.getLast? with
 |none=>rw[QhG] at e;subst e;exact absurd h (by decide)
 |some b=>
  obtain⟨xs,rfl⟩:=QhF.mp e;rw[Jp,List.getLastD_eq_getLast?,e];exact QjQ _ _
@[irreducible] def Qpm:List Qa->(Qa->Prop)->Prop:=QtM
theorem QpP:QcU (λxs H Q=>∃i j,xs=[.int i,.int j]/\Q (.int (if j<i then j else i)) H) Qpm:=by unfold Qpm;exact Qnj
theorem QtL{i j k:Int}{Q:Qa->Prop}(e:(if j<i then j else i)=k)(h:Q (.int k)):Qpm [.int i,.int j] Q:=by
 unfold Qpm;show Q (.int (if j<i then j else i));rw[e];exact h
theorem QpA(g:Int×Int->Bool)(cs:List (Int×Int)):(cs.map pairD).filterMap (λd=>if g (toP d)=true then some d else none)=(cs.filter g).map pairD:=by
 rw[Y9];exact Qt2 (p:=g) (k:=pairD) λp _=>rfl
theorem Qnf{items:List Qa}{wg wg2:DG}{wt wt2:DT}{wi2:DI}{we:DE}{δ:Sts}{Q:Qa->Prop}(G:Qa->List Qa)(k:Nat)(hl:(items.flatMap G).length<=k)
  (h:∀d∈items,∀(acc:List Qa)(N:List Qa->Prop),acc.length+(G d).length<=k->N (acc++G d)->wg d δ λδ4=>wt δ4 (λb=>if b=true then wi2 δ4 (λitems2=>InR items2 wg2 wt2 we δ4 acc N) XF else N acc) XF)(q:Q (.list (items.flatMap G))) :
  Qhz items wg wt wi2 wg2 wt2 we δ Q:=by
 unfold Qhz;refine⟨λi acc=>acc=(items.take i).flatMap G,by simp,λi acc d hd e=>?_,λacc e=>by rw[e,ZJ];exact q⟩;have e:acc=(items.take i).flatMap G:=e;have hs:(items.take (i+1)).flatMap G=(items.take i).flatMap G++G d:=by
  rw[YC,hd,Z3];simp
 refine h d (Q9 hd) acc _ ?_ (by show acc++G d=_;rw[hs,e])
 have h1:(items.flatMap G).length=((items.take (i+1)).flatMap G).length+((items.drop (i+1)).flatMap G).length:=by
  rw[<- Qu,<- Z3,JL]
 rw[hs,<- e,Qu] at h1;omega
end Rk
namespace Rv
theorem Qu3:isSubtype (.type "range_iterator") (.type "reversed")=pure false:=by rw[isSubtype_type];kernel_rfl
section
variable{prog:Qy}{w:Jg}{A:Q5}{E:Value->Shared->Prop}{s:Shared}
def QgS(a b:Int):Obj:={ cls:=.type "range_iterator",data:=.fields #[rawInt (a+(Js a b 1 - 1)*1),rawInt (Js a b 1),rawInt (-1)] }
theorem QkL{r:Addr}{j:Int}{t u v:Tok}{Q:Value->Shared->Prop}(hr:Qgz s.heap r 0 j 1 t u v)(h0 : -1000<=j)(h1:j<=1000)
  (h:Q (.ref s.heap.objs.size) { s with heap:=s.heap.push (QgS 0 j) }):wpAny (model prog w) A (call (.builtin "range.__reversed__") [.ref r]) Q E s:=by
 refine ZO Qc5 ⟨_,hr,rfl⟩ F.entry_range_reversed ?_ (F.args_range_reversed_1 _)
 unfold QcC.«range.__reversed__»;refine wpAny_bind (YM (a:=JF r) rfl ?_);refine wpAny_bind ?_
 unfold Qye;refine wpAny_bind (J7 hr rfl (x:=.int 0 t) rfl ?_);refine wpAny_bind (YM (a:=some 0) rfl ?_);refine wpAny_bind (J7 hr rfl (x:=.int j u) rfl ?_);refine wpAny_bind (YM (a:=some j) rfl ?_);refine wpAny_bind (J7 hr rfl (x:=.int 1 v) rfl ?_);refine wpAny_bind (YM (a:=some 1) rfl ?_);refine Qe ?_
 dsimp only
 have hz:Js 0 j 1=if 0<j then j else 0:=by rw[Qfv];split<;>omega
 have fit:∀x:Int,-2000<=x->x<=2000->JD x=true:=λx a b=>by
  unfold JD;simp only[JG,decide_eq_true_eq];omega
 have hs:(JD 0&&JD j&&JD 1&&JD (-1)&&JD (0 - 1)&&JD (Js 0 j 1))=true:=by
  rw[fit 0 (by decide) (by decide),fit j (by omega) (by omega),fit 1 (by decide) (by decide),fit (-1) (by decide) (by decide),fit (0 - 1) (by decide) (by decide),fit _ (by rw[hz];split<;>omega) (by rw[hz];split<;>omega)];rfl
 rw[hs,if_neg (by decide),if_pos rfl];exact wpAny_bind (JC (Qe ⟨_,rfl,h⟩))
theorem QpT{r:Addr}{j:Int}{t u v:Tok}{Q:Value->Shared->Prop}(hr:Qgz s.heap r 0 j 1 t u v)(h0 : -1000<=j)(h1:j<=1000)
  (h:Q (.ref s.heap.objs.size) { s with heap:=s.heap.push (QgS 0 j) }):codeAny (model prog w) A (.call (.builtin "reversed.__new__") ⟨[.type "reversed",.ref r],[]⟩) (wants Q E) s:=by
 have hT:s.TypeIs (.ref r) "range" := ⟨_,hr,rfl⟩;refine codeAny_of_tree ?_
 show wpAny _ A.in1 (do checkBuiltinCall "reversed.__new__" ⟨[.type "reversed",.ref r],[]⟩;again (.builtin "reversed.__new__" ⟨[.type "reversed",.ref r],[]⟩)) _ _ s;refine wpAny_bind (YM (F.newCall_reversed_1 _) (Qe ⟨plainId_quiet Qp4 _,QdH F.entry_reversed_new ?_⟩));rw[Qcy Qp4 _];unfold QcC.«reversed.__new__»;refine wpAny_bind (YM (newClass_reversed _) ?_)
 dsimp only
 refine wpAny_bind (YM (a:=()) (by first | rfl | kernel_rfl) ?_);refine wpAny_bind (YM (a:=()) (by first | rfl | kernel_rfl) ?_)
 try dsimp only
 refine wpAny_bind (wpAny_specialOf hT Qc5.lookup ?_)
 try dsimp only
 refine wpAny_bind (YM (Qc5.bind _) ?_)
 try dsimp only
 first
 |rw[if_neg (show ¬((Y6 "range.__reversed__" == Zd)=true) from QC)]
 |(show wpAny _ _ (if(Y6 "range.__reversed__" == Zd)=true then _ else _) _ _ _;rw[if_neg (show ¬((Y6 "range.__reversed__" == Zd)=true) from QC)])
 refine wpAny_bind (wpAny_rule ?_);refine wpAny_bind (m:=runValue (.call (.builtin "range.__reversed__") ⟨[.ref r],[]⟩)) (show wpAny _ _ (call (.builtin "range.__reversed__") [.ref r]) _ _ _ from QkL hr h0 h1 ?_)
 first
 |exact Qe h
 |exact wpAny_bind (Qe (Qe h))
theorem Qno{r:Addr}{j:Int}{t u v:Tok}{Q:Value->Shared->Prop}(hr:Qgz s.heap r 0 j 1 t u v)(h0 : -1000<=j)(h1:j<=1000)
  (h:Q (.ref s.heap.objs.size) { s with heap:=s.heap.push (QgS 0 j) }):wpAny (model prog w) A (call (.type "reversed") [.ref r]) Q E s:=by
 refine callType_other (U := "range_iterator") (Q₁:=λobj s₁=>obj=.ref s.heap.objs.size/\s₁={ s with heap:=s.heap.push (QgS 0 j) }) (by decide +kernel) F.create_reversed ⟨_,_,F.mro_reversed⟩ F.made_reversed Qu3 (F.typeCall_reversed_1 _) (QpT hr h0 h1 ⟨rfl,rfl⟩) ?_
 rintro obj s₁ ⟨rfl,rfl⟩;exact⟨⟨_,QB _ rfl,rfl⟩,h⟩
end
end Rv
namespace L2
def Itv(n:Nat):It:=⟨λi _=>i<n,λi H x H'=>H'=H/\x=.int ((n:Int) - 1 - i),λi _=>n<=i⟩
theorem Qlf{P:Qy}{w:Jg}{K:PySem.W.Frag}{tg:QP}(it:Addr)(n:Nat):Turn P w K tg (Itv n) [it] it (λi h=>QjZ h it ((n:Int) - 1+(i:Nat)*(-1)) ((n:Int) - (i:Nat)) (-1)) where
 mem:=by simp
 obj:=λi h st b hb=>by
  have e:b=it:=by simpa using hb
  subst e;exact⟨_,st,λv z=>by
   have z':Data.fields _=Data.cell v:=z;cases z'⟩
 keep:=λi h h' st k=>k it (by simp) _ st
 item:=by
  intro X hP hw hK hc i pins s σ H E I hf st hg;subst hP hw hK;obtain⟨f0,f1,f2,f3,f4,f5⟩:=hf it (by simp);have W:=QxO (prog:=X.prog) (w:=X.w) (I.ok.hd hc) it ((n:Int) - 1) (-1) n;refine W.item i s _ _ hg st λv h' tk hv st' kk=>?_
  obtain⟨t,rfl⟩:=hv;have I1:Inv X pins σ H { s with heap:=h',toks:=tk }:=I.turned (λb o hb e=>kk b o (by simpa using hb) e) f0 f1 f3 f4 f5;refine⟨_,rfl,Qpx (s:={ s with heap:=h',toks:=tk }) (n := "range_iterator") st' rfl rfl (by decide) ⟨.int ((n:Int) - 1 - i),H,I1,⟨t,?_⟩,⟨rfl,rfl⟩,st',λb hb=>(hf b hb).1⟩⟩;rw[show(n:Int) - 1+(i:Int)*(-1)=(n:Int) - 1 - i by omega]
 done:=by
  intro X hP hw hK hc i pins s σ H E I hf st hg;subst hP hw hK;obtain⟨f0,f1,f2,f3,f4,f5⟩:=hf it (by simp);exact QpV (I.ok.hd hc) st (by have:n<=i:=hg;omega) λh' eb=>⟨rfl,I.turned (t':=s.toks) (λb o hb e=>eb b o hb e) f0 f1 f3 f4 f5⟩
 self:=λ_ _ _ _ _ st h=>Qc1 st h
def Qy7(ta:TA):TI:=λσ H R=>ta σ H λvs H1=>∃(r:Addr)(j:Int),vs=[.ref r]/\H1 r=some (.rng 0 j) /\ -1000<=j/\j<=1000/\R (Itv j.toNat) H1
section
variable{X:Cx}{tg:QP}
theorem Qs0{a:QP}{ta:TA}{p pos:Pos}(hg:Gl X "reversed")(hm:X.mg "reversed" = none)(ha:PA X [a] ta)(hs:starEach [a] X.env=[(false,eval a X.env)]:=by rfl):PI X tg (.Call (.Name "reversed" p) [a] [] pos) (Qy7 ta):=by
 intro pins s σ H R I h;refine Call_ (Qch I hg hm boot_reversed (JE (thn (ha pos pins s σ H _ I h) λus s1 ⟨vs,H1,I1,r1,q1⟩=>?_) hs rfl));obtain⟨r,j,e,hr,q1,q2,q⟩:=q1;subst e;obtain⟨u,rfl,ru⟩:=vals1 r1;cases(show u=JF r from ru);obtain⟨t1,t2,t3,e⟩:=I1.hok r _ hr;refine Rv.Qno (show Qgz s1.heap r 0 j 1 t1 t2 t3 from e) q1 q2 ?_
 have hz:Js 0 j 1=((j.toNat:Nat):Int):=by rw[Qfv];split<;>omega
 have it0:QjZ (s1.heap.push (Rv.QgS 0 j)) s1.heap.objs.size (((j.toNat:Nat):Int) - 1+((0:Nat):Int)*(-1)) (((j.toNat:Nat):Int) - ((0:Nat):Int)) (-1):=by
  have:=QB (h:=s1.heap) (o:=Rv.QgS 0 j) rfl;unfold Rv.QgS at this;rw[hz,show(0:Int)+(((j.toNat:Nat):Int) - 1)*1=((j.toNat:Nat):Int) - 1+((0:Nat):Int)*(-1) by omega] at this;rw[show((j.toNat:Nat):Int) - ((0:Nat):Int)=((j.toNat:Nat):Int) by omega];unfold Rv.QgS;rw[hz,show(0:Int)+(((j.toNat:Nat):Int) - 1)*1=((j.toNat:Nat):Int) - 1+((0:Nat):Int)*(-1) by omega];exact this
 refine Qc1 it0 ?_
 refine⟨s1.heap.objs.size,[s1.heap.objs.size],_,_,H1,rfl,I1.kept (t':=s1.toks) λb o e=>Qc _ e,Qlf _ j.toNat,it0,λb hb=>?_,q⟩;have e:b=s1.heap.objs.size:=by simpa using hb
 subst e;exact I1.fpOk (Qi _) (I1.hok.fresh (Qi _))
end
section
variable{X:Cx}
def Qi4:V->List V->Hp->VK->Prop:=λx vs H Q=>∃l xs y,x=.ref l/\vs=[.int 0,y]/\H l=some (.lst xs)/\xs.length<sizeLine/\Q .non (upd H l (.lst (y::xs)))
theorem Qkq:MtM X "list.insert" Qi4:=by
 intro pins s σ H x vs v us Q I rx rv h;obtain⟨l,xs,y,rfl,rfl,hH,hz,q⟩:=h;cases rx;cases rv with
 |cons r0 rv=>
  obtain⟨u,rfl,ru⟩:=Vals.one rv;obtain⟨t,rfl⟩:=r0;obtain⟨z,its,n,r,hl,e⟩:=I.lstM hH;refine Qbo F.slot_list_insert ⟨_,e,rfl⟩ F.entry_list_insert (F.args_list_insert_3 _ _ _) (AutoSeq1.list_insert_list_int_val_1 l its.toArray n 0 t u (by decide) (by rw[Qr];omega)) ⟨e,?_⟩;refine⟨.non,_,I.lset (its':=u::its) hH e (by simp) (.cons ru r) ?_,rfl,q⟩;rw[QJ];omega
end
end L2
namespace Dl
open L2 _root_.Rd Rk
section
variable{X:Cx}{E:XK}{st:ZZ}{i:Nat}{we:DE}
def Qsv(n:Nat):List Qa:=(QQ n).map λ(i:Nat)=>.int ((n:Int) - 1 - i)
theorem QfQ(n:Nat):(Qsv n).length=n:=by unfold Qsv;rw[Qg,Jd]
theorem Qi1{n i:Nat}{d:Qa}(h:(Qsv n)[i]? = some d):i<n/\d=.int ((n:Int) - 1 - i):=by
 unfold Qsv at h;rw[QR] at h;by_cases z:i<n
 ·rw[Zl z] at h;exact⟨z,(Qv h).symm⟩
 ·rw[JZ (by rw[Jd];omega)] at h;cases h
def Qzk(w:DE):DI:=λδ Q EX=>w δ (λd=>match d with
 |.int j=>(-1000<=j/\j<=1000)/\Q (Qsv j.toNat)
 |_=>False) EX
theorem Qy0{A S:Addr->Prop}{n:Nat}{H1:Hp}(h:n<=sizeLine):ItD A S (Itv n) (Qsv n) H1:=by
 refine⟨by rw[QfQ];exact h,λH2 A' _ _ _=>⟨λi d hd=>?_,?_⟩⟩
 ·obtain⟨hi,rfl⟩:=Qi1 hd;refine⟨hi,λx H3 hy=>?_⟩;obtain⟨rfl,rfl⟩:=hy;exact⟨Same.refl _,.int _⟩
 ·show n<=(Qsv n).length;rw[QfQ];exact Qi _
theorem QsK{m:Md}{tg e:QP}{w:DE}{p p2 pos pos2:Pos}(hg:Gl X "reversed")(hm:X.mg "reversed" = none)(hg2:Gl X "range")(hm2:X.mg "range" = none)(h:QE .P X E e w)(hs:notStar e=true:=by rfl):QI m X E tg (.Call (.Name "reversed" p) [.Call (.Name "range" p2) [e] [] pos2] [] pos) (Qzk w):=⟨by
 refine PI.imp (Qs0 hg hm (Qcg (Qjd hg2 hm2 (Qcg h.h JQ hs) (by rw[Zv hs];rfl)) JQ)) λσ H R _ ⟨F,δ,R',EX,rel,hw,k,o⟩=>?_
 refine⟨F,δ,_,EX,rel,hw,λd hd v H' rel' kp vk=>?_,o⟩;cases d<;>first | exact(show False from hd).elim | skip
 obtain⟨⟨h1,h2⟩,hR⟩:=hd;rw[DP.int vk];exact⟨_,rfl,λr H2 s2 n2 e2=>⟨r,_,rfl,e2,h1,h2,k _ hR _ H2 (rel'.same s2) (kp.trans (Kp.same rel' s2)) (Qy0 (Z1 (Rk.Qbj (by omega))))⟩⟩⟩
def Qzi(i:Nat)(we:DE):DS:=λD δ=>match δ[i]? with
 |some (.own ds)=>we δ (λd=>ds.length<1000000/\D.nx (δ.set i (.own (d::ds)))) D.ex
 |_=>False
theorem Qtd(h:PS X st (Qlh (tBM X.K "list" Qi4 (QgF i) (QdM (tX .D X.K E (dC (.int 0))) (QdM (tX .D X.K E we) Qra))))):PS X st (tS X.K E (Qzi i we)):=by
 refine PS.imp h λD σ H ⟨F,δ,DD,rel,hw,en⟩=>?_
 unfold Qzi at hw;split at hw
 ·rename_i ds hd
  obtain⟨x,hx⟩:=rel.lt hd;obtain⟨l,xs,rfl,e,q,f⟩:=rel.sl i _ _ hx hd;have np:=rel.own_pot hd hx;refine⟨.ref l,hx,.inl ⟨rfl,_,SqL.of e⟩,F,δ,(λd=>d=.int 0),DD.ex,rel,rfl,λd hd0 v0 H0 rel0 kp0 vk0=>?_,en.ex⟩;subst hd0;cases vk0;refine⟨F,δ,_,DD.ex,rel0,hw,λd ⟨hl,hn⟩ v H' rel' kp vk=>?_,en.ex⟩;have kk:=kp0.trans kp;have q':=kk.das q;refine⟨l,xs,v,rfl,rfl,kk.1 _ _ np e,QL (by rw[q.length];exact hl) Qf6,?_⟩;obtain⟨r2,st⟩:=rel'.mut hd hx (.cons vk q');exact en.nx.go _ hn _ _ r2 ((Stp.kp kk).trans st)
 ·exact hw.elim
theorem Qvr{y:Str}{e e0:QP}{we:DE}{apos cpos pos npos:Pos}(i:Nat)(h0:QE .D X E e0 (dC (.int 0)))(he:QE .D X E e we)(hN:X.N[i]? = some y:=by rfl)(hv:Vis X.env.scope y:=by first | exact QV rfl | exact Q3 (QV rfl) | exact Q3 (Q3 rfl))(hd:(y == ("__debug__" : Str))=false:=by decide)(hcd:(y == ("__classdict__" : Str))=false:=by decide)(hs0:notStar e0=true:=by rfl)(hst:notStar e=true:=by rfl)(hbase:attributeBase (.Name y npos) "insert" X.env (eval (.Name y npos) X.env)=eval (.Name y npos) X.env:=by rfl)(hfew:((backTo cpos (starEach [e0,e] X.env)).all (λx => !x.1)&&(backToKw cpos (keywordEach [] X.env)).all (λx=>x.1.isSome)&&decide ([e0,e].length+([]:List QeK).length+(if([]:List QeK).isEmpty then 0 else 1)<30))=true:=by rfl)(hline:(apos.endLine == cpos.line)=true:=by rfl)(hsw:swapsWith (.Call (.Attribute (.Name y npos) "insert" apos) [e0,e] [] cpos) none pos.line X.env=pure false:=by rfl):QS X E (.Expr (.Call (.Attribute (.Name y npos) "insert" apos) [e0,e] [] cpos) pos) (Qzi i we):=⟨Qtd (QfU (QlY PySem.F.plainAttrs_list PySem.F.slot_list_insert PySem.F.type_list_insert Qkq (pv i hN hv hd hcd) (Qcg h0.h (Qcg he.h JQ hst) hs0) hbase hfew hline (Zv hs0) (by rw[Zv hst];rfl)) hsw)⟩
end
end Dl
namespace Rk
open L2 _root_.Rd Dl Rt
def Quz(B:Nat->Nat->Int)(t:Nat):List Nat->Nat->Int
 |[],_=>0
 |c::cs,k=>(if t.testBit c=true then 0 else B (t ||| 2^c) k)+Quz B t cs k
theorem Qef(B:Nat->Nat->Int)(t c k:Nat):∀cs:List Nat,Quz B t (cs++[c]) k=Quz B t cs k+(if t.testBit c=true then 0 else B (t ||| 2^c) k)
 |[]=>by show _+0=0+_;omega
 |d::cs=>by
  show _+Quz B t (cs++[c]) k=_+Quz B t cs k+_;rw[Qef B t c k cs];omega
def Qd0(h:Nat)(F:Nat->Int):List Qa:=(QQ (h+1)).map λ(k:Nat)=>.int (F k)
def Qj9(h w:Nat)(B:Nat->Nat->Int):List Qa:=(QQ (2^w)).map λ(t:Nat)=>.list (Qd0 h (B t))
def stepB(B:Nat->Nat->Int)(cols:List Nat)(t k:Nat):Int:=B t k+if k=0 then 0 else Quz B t cols (k - 1)
def QuC(cs:List (Int×Int))(r:Nat):List Nat:=(Qog cs r).map λp=>p.2.toNat
def Wc(cs:List (Int×Int))(h:Nat):Nat->Nat->Nat->Int
 |0,_,k=>if k=0 then 1 else 0
 |i+1,t,k=>stepB (Wc cs h i) (QuC cs (h - 1 - i)) t k
def Qp8(cs:List (Int×Int))(h w:Nat):Nat->List Qa
 |0=>[.list (Qj9 h w (Wc cs h 0))]
 |i+1=>.list (Qj9 h w (Wc cs h (i+1)))::Qp8 cs h w i
def QtX(ns:List Nat):List Qa:=ns.map λ(c:Nat)=>.int (c:Int)
def Qw7(cs:List (Int×Int))(h w:Nat):List Qa:=(QQ (min h w+1)).map λ(k:Nat)=>.int (Wc cs h h 0 k)
def Qpl:DF:=λargs R _=>∃(h w:Nat)(cs:List (Int×Int)),args=[.v (bdD h w cs)]/\R (.int ((min h w:Nat):Int))
def Qsd:DF:=λargs R _=>∃(h w:Nat)(B:Nat->Nat->Int)(cols:List Nat)(t:Nat),args=[.v (.list (Qj9 h w B)),.v (.list (QtX cols)),.v (.int t)]/\t<2^w/\(∀c∈cols,c<w)/\h<=6/\w<=6/\R (.list (Qd0 h (stepB B cols t)))
def Qsf:DF:=λargs R _=>∃(h w:Nat)(cs:List (Int×Int)),args=[.v (bdD h w cs)]/\h<=6/\w<=6/\(∀p∈cs,0<=p.2/\p.2<w)/\R (.list (Qp8 cs h w h))
def Qiv:DF:=λargs R _=>∃(h w:Nat)(cs:List (Int×Int)),args=[.v (bdD h w cs)]/\h<=6/\w<=6/\(∀p∈cs,0<=p.2/\p.2<w)/\R (.list (Qw7 cs h w))
theorem Qdd{h k:Nat}{F:Nat->Int}(hk:k<=h):(Qd0 h F)[k]? = some (.int (F k)):=by
 unfold Qd0;rw[QR,Zl (by omega)];rfl
theorem Qb2(h:Nat)(F:Nat->Int):(Qd0 h F).length=h+1:=by unfold Qd0;rw[Qg,Jd]
theorem QhX{h w t:Nat}{B:Nat->Nat->Int}(ht:t<2^w):(Qj9 h w B)[t]? = some (.list (Qd0 h (B t))):=by
 unfold Qj9;rw[QR,Zl ht];rfl
theorem Qba{h:Nat}{F G:Nat->Int}(e:∀k,k<=h->F k=G k):Qd0 h F=Qd0 h G:=by
 unfold Qd0;refine ZC λk hk=>?_
 rw[e k (by have:=YN.mp hk;omega)]
theorem Qoh{h j:Nat}{F:Nat->Int}{v:Int}(hj:j<=h):(Qd0 h F).set j (.int v)=Qd0 h (λk=>if k=j then v else F k):=by
 apply QbC
 intro k;rw[QeF];by_cases z:j=k
 ·subst z;rw[if_pos rfl,if_pos (by rw[Qb2];omega),Qdd hj,if_pos rfl]
 ·rw[if_neg z];by_cases z2:k<=h
  ·rw[Qdd z2,Qdd z2,if_neg (λe=>z e.symm)]
  ·rw[JZ (by rw[Qb2];omega),JZ (by rw[Qb2];omega)]
theorem cut_last(xs:List Qa):Dl.cutD xs none (some (-1))=xs.take (xs.length - 1):=by
 unfold Dl.cutD;rw[HT.QfP,Zn,Qk4]
 congr 1
 have e:HT.sIx xs.length xs.length (some (-1))=((-1:Int)+(xs.length:Int)).toNat:=by unfold HT.sIx;dsimp only;rw[if_pos (by decide)]
 rw[e];omega
theorem Quo:∀t:Fin 64,∀c:Fin 6,Jb ((t:Nat):Int) (1*2^((c:Nat):Int).toNat)=if(t:Nat).testBit c=true then 2^(c:Nat) else 0:=by decide +kernel
theorem Qxb:∀t:Fin 64,∀c:Fin 6,Qc6 ((t:Nat):Int) (1*2^((c:Nat):Int).toNat)=(((t:Nat) ||| 2^(c:Nat):Nat):Int):=by decide +kernel
theorem QyO{t c w:Nat}(ht:t<2^w)(hc:c<w):t ||| 2^c<2^w:=Nat.or_lt_two_pow ht (Nat.pow_lt_pow_right (by decide) hc)
theorem Qoj(h:Nat)(F:Nat->Int):Dl.cutD (Qd0 h F) none (some (-1))=(QQ h).map λ(k:Nat)=>Qq (F k):=by
 rw[cut_last,Qb2];unfold Qd0;rw[<- Qxt,Qd7,Qux,Yw (Nat.le_succ h)]
theorem Quq{t c w:Nat}(ht:t<2^w)(hc:c<w)(w6:w<=6):Jb (t:Int) (1*2^((c:Nat):Int).toNat)=if t.testBit c=true then 2^c else 0:=by
 have h64:2^w<=2^6:=QaT (by decide) w6;exact Quo ⟨t,by have e:2^6=64:=rfl;omega⟩ ⟨c,by omega⟩
theorem QvX{t c w:Nat}(ht:t<2^w)(hc:c<w)(w6:w<=6):Qc6 (t:Int) (1*2^((c:Nat):Int).toNat)=((t ||| 2^c:Nat):Int):=by
 have h64:2^w<=2^6:=QaT (by decide) w6;exact Qxb ⟨t,by have e:2^6=64:=rfl;omega⟩ ⟨c,by omega⟩
theorem QfV(w:Nat):(1*2^((w:Nat):Int).toNat:Int)=((2^w:Nat):Int):=by
 rw[Int.one_mul,QK];simp
theorem Qw6(cs:List (Int×Int))(r:Nat)(hb:∀p∈cs,0<=p.2):(cs.map pairD).filterMap (λd=>if(toP d).1=(r:Int) then some (.int (toP d).2) else none)=QtX (QuC cs r):=by
 unfold QtX QuC Qog;rw[Y9,Jr];refine Qt2 (p:=λp:Int×Int=>decide (p.1=(r:Int))) λp hp=>?_
 show(if p.1=(r:Int) then some (Qq p.2) else none)=if decide (p.1=(r:Int))=true then some (Qq ((p.2.toNat:Nat):Int)) else none
 rw[show((p.2.toNat:Nat):Int)=p.2 by have:=hb p hp;omega];by_cases z:p.1=(r:Int)
 ·rw[if_pos z,if_pos (decide_eq_true z)]
 ·rw[if_neg z,if_neg (by simpa using z)]
theorem Quf{cs:List (Int×Int)}{w r c:Nat}(hb:∀p∈cs,0<=p.2/\p.2<w)(h:c∈QuC cs r):c<w:=by
 unfold QuC Qog at h;obtain⟨p,hp,rfl⟩:=Qx.mp h;have:=hb p (JY.mp hp).1;omega
theorem QiR(cs:List (Int×Int))(h w:Nat):∀i,(Qp8 cs h w i).length=i+1
 |0=>rfl
 |i+1=>by show(Qp8 cs h w i).length+1=_;rw[QiR cs h w i]
theorem Qlg(cs:List (Int×Int))(h w:Nat):∀i,(Qp8 cs h w i)[0]? = some (.list (Qj9 h w (Wc cs h i)))
 |0=>rfl
 |_+1=>rfl
theorem Qoi(cs:List (Int×Int))(h t:Nat):Qd0 h (Wc cs h 0 t)=Qq 1::Jc h (.int 0):=by
 apply QbC
 intro k;cases k with
 |zero=>rw[Qdd (Qw _)];rfl
 |succ k=>
  by_cases z:k+1<=h
  ·rw[Qdd z,Y8,Z2,if_pos (by omega)];rfl
  ·rw[JZ (by rw[Qb2];omega),Y8,Z2,if_neg (by omega)]
theorem Qsw(h:Nat):(Jc h [Qq 0]).flatten=Jc h (.int 0):=by
 induction h with
 |zero=>rfl
 |succ h ih=>rw[Zk,ZQ,ih];rfl
theorem Qrr{w:Nat}(h:w<=6) : -1000000<=(1*2^((w:Nat):Int).toNat:Int)/\(1*2^((w:Nat):Int).toNat:Int)<=1000000:=by
 have p64:2^w<=64:=QaT (n:=2) (by decide) h;rw[QfV];generalize 2^w=x at p64;omega
end Rk
namespace L2
section
variable{X:Cx}
end
end L2
namespace Dl
open L2 _root_.Rd Rk
end Dl
namespace Rk
open L2 _root_.Rd Dl Rt
theorem Qfp{α β:Type}{f g:α->List β}:∀{xs:List α},(∀x∈xs,f x=g x)->xs.flatMap f=xs.flatMap g
 |[],_=>rfl
 |x::xs,h=>by rw[QeG,QeG,h x (.head _),Qfp λy hy=>h y (.tail _ hy)]
def Bds(h w:Nat)(cs:List (Int×Int)):Prop:=h<=6/\w<=6/\∀p∈cs,0<=p.1/\p.1<h/\0<=p.2/\p.2<w
theorem Bds.col{h w:Nat}{cs:List (Int×Int)}(b:Bds h w cs):∀p∈cs,0<=p.2/\p.2<(w:Int):=λp hp=>(b.2.2 p hp).2.2
theorem Bds.nn{h w:Nat}{cs:List (Int×Int)}(b:Bds h w cs):∀p∈cs,0<=p.2:=λp hp=>(b.2.2 p hp).2.2.1
def QrE:List (Int×Int)->List (Int×Int)->Prop
 |[],[]=>False
 |[],_::_=>True
 |_::_,[]=>False
 |p::L,q::M=>plt p q∨(p=q/\QrE L M)
theorem QmA:∀L:List (Int×Int),¬QrE L L
 |[],h=>h
 |p::L,h=>by
  rcases h with z | z
  ·rcases z with z | z<;>omega
  ·exact QmA L z.2
theorem QmB:∀{S T:List (Int×Int)}(c d:Int×Int),S.length=T.length->QrE S T->QrE (S++[c]) (T++[d])
 |[],[],_,_,_,h=>h.elim
 |[],_::_,_,_,e,_=>by cases e
 |_::_,[],_,_,e,_=>by cases e
 |p::S,q::T,c,d,e,h=>by
  rcases h with z | z
  ·exact .inl z
  ·exact .inr ⟨z.1,QmB c d (by simpa using e) z.2⟩
theorem Qjq:∀(S:List (Int×Int)){c d:Int×Int},plt c d->QrE (S++[c]) (S++[d])
 |[],c,d,h=>.inl h
 |p::S,c,d,h=>.inr ⟨rfl,Qjq S h⟩
def rbI(S:List (Int×Int)):Int:=match S.getLast? with
 |some c=>c.1+1
 |none=>0
def fol(cs S:List (Int×Int)):List (Int×Int):=cs.filter λc=>decide (rbI S<=c.1) && !decide (c.2∈S.map (·.2))
def evS(cs:List (Int×Int)):Nat->List (List (Int×Int))
 |0=>[[]]
 |k+1=>(evS cs k).flatMap λS=>(fol cs S).map λc=>S++[c]
structure Std (cs L:List (Int×Int)):Prop where
 sub:∀p∈L,p∈cs
 rows:L.Pairwise λp q=>p.1<q.1
 cols:(L.map (·.2)).Nodup
theorem Std.nil{cs:List (Int×Int)}:Std cs []:=⟨λp hp=>(nomatch hp),.nil,.nil⟩
theorem Std.init{cs S:List (Int×Int)}{c:Int×Int}(h:Std cs (S++[c])):Std cs S/\c∈cs/\(∀p∈S,p.1<c.1)/\c.2∉S.map (·.2):=by
 have r:=Je.mp h.rows;have k:=h.cols;rw[Jp] at k;have k:=YD.mp k;refine⟨⟨λp hp=>h.sub p (QaP _ hp),r.1,k.1⟩,h.sub c (by simp),λp hp=>r.2.2 p hp c (by simp),λz=>?_⟩;exact k.2.2 c.2 z c.2 (by simp) rfl
theorem Std.snoc{cs S:List (Int×Int)}{c:Int×Int}(h:Std cs S)(h1:c∈cs)(h2:∀p∈S,p.1<c.1)(h3:c.2∉S.map (·.2)):Std cs (S++[c]):=by
 refine⟨λp hp=>?_,Je.mpr ⟨h.rows,by simp,λp hp q hq=>?_⟩,?_⟩
 ·rcases Jo.mp hp with z | z
  ·exact h.sub p z
  ·rw[Jh.mp z];exact h1
 ·rw[Jh.mp hq];exact h2 p hp
 ·rw[Jp];refine YD.mpr ⟨h.cols,by simp,λa ha b hb e=>?_⟩;have hb:b=c.2:=by simpa using hb
  rw[e,hb] at ha;exact h3 ha
theorem Qpq{S:List (Int×Int)}(h:S.Pairwise λp q=>p.1<q.1){c:Int×Int}:(∀p∈S,p.1<c.1)∨¬rbI S<=c.1∨(S=[] ):=by
 by_cases z:S=[]
 ·exact .inr (.inr z)
 ·by_cases y:rbI S<=c.1
  ·refine .inl λp hp=>?_
   obtain⟨T,d,rfl⟩:∃T d,S=T++[d]:=⟨S.dropLast,S.getLast z,(QaV z).symm⟩
   have y:d.1+1<=c.1:=by unfold rbI at y;rw[List.getLast?_append] at y;simpa using y
   rcases Jo.mp hp with q | q
   ·have:=(Je.mp h).2.2 p q d (by simp);omega
   ·rw[Jh.mp q];omega
  ·exact .inr (.inl y)
theorem Qyt{S:List (Int×Int)}{c:Int×Int}(h:∀p∈S,p.1<c.1)(h0:0<=c.1):rbI S<=c.1:=by
 unfold rbI;cases e:S.getLast? with
 |none=>exact h0
 |some d=>
  have:=h d (List.mem_of_getLast? e);show d.1+1<=c.1;omega
theorem Qeo{cs:List (Int×Int)}(h0:∀p∈cs,0<=p.1):∀(k:Nat)(L:List (Int×Int)),L∈evS cs k↔Std cs L/\L.length=k
 |0,L=>by
  constructor
  ·intro h;rw[Jh.mp h];exact⟨.nil,rfl⟩
  ·rintro⟨_,h⟩;cases L with
   |nil=>exact .head _
   |cons a b=>cases h
 |k+1,L=>by
  show L∈(evS cs k).flatMap (λS=>(fol cs S).map λc=>S++[c])↔_;rw[YV];constructor
  ·rintro⟨S,hS,hL⟩;obtain⟨c,hc,rfl⟩:=Qx.mp hL;obtain⟨st,hl⟩:=(Qeo h0 k S).mp hS;have hc:=JY.mp hc;have hc2:=Qs.mp hc.2;refine⟨st.snoc hc.1 ?_ (by simpa using hc2.2),by rw[Qu,hl];rfl⟩;rcases Qpq st.rows (c:=c) with z | z | z
   ·exact z
   ·exact absurd (of_decide_eq_true hc2.1) z
   ·rw[z];exact λp hp=>(nomatch hp)
  ·rintro⟨st,hl⟩;have hne:L≠[]:=λe=>by rw[e] at hl;cases hl
   obtain⟨S,c,rfl⟩:∃T d,L=T++[d]:=⟨L.dropLast,L.getLast hne,(QaV hne).symm⟩
   obtain⟨s1,s2,s3,s4⟩:=st.init;refine⟨S,(Qeo h0 k S).mpr ⟨s1,by rw[Qu] at hl;exact Nat.succ.inj hl⟩,Qx.mpr ⟨c,JY.mpr ⟨s2,?_⟩,rfl⟩⟩;rw[JG];exact⟨decide_eq_true (Qyt s3 (h0 c s2)),by simpa using s4⟩
theorem Qhf{cs:List (Int×Int)}(hp:cs.Pairwise plt)(h0:∀p∈cs,0<=p.1):∀k,(evS cs k).Pairwise QrE
 |0=>Qb0 _ _
 |k+1=>by
  show((evS cs k).flatMap λS=>(fol cs S).map λc=>S++[c]).Pairwise QrE;rw[QkS];refine⟨λS _=>?_,?_⟩
  ·exact Qak.mpr ((Z9 _ hp).imp λh=>Qjq S h)
  ·refine QdT (λ{S T} hS hT h=>?_) (Qhf hp h0 k);intro x hx y hy;obtain⟨c,_,rfl⟩:=Qx.mp hx;obtain⟨d,_,rfl⟩:=Qx.mp hy;exact QmB c d (by rw[((Qeo h0 k S).mp hS).2,((Qeo h0 k T).mp hT).2]) h
theorem Qdm{cs:List (Int×Int)}(h0:∀p∈cs,0<=p.1):∀(i:Nat)(L:List (Int×Int)),L∈QgH cs i↔Std cs L/\∀p∈L,p.1<(i:Int)
 |0,L=>by
  constructor
  ·intro h;rw[Jh.mp h];exact⟨.nil,λp hp=>(nomatch hp)⟩
  ·rintro⟨s,h⟩;cases L with
   |nil=>exact .head _
   |cons a b=>
    have h1:=h a (.head _);have h2:=h0 a (s.sub a (.head _));exact absurd h1 (by show ¬a.1<0;omega)
 |i+1,L=>by
  show L∈QgH cs i++(QgH cs i).flatMap (QpF (Qog cs i))↔_;rw[Jo,YV];constructor
  ·rintro(h | ⟨S,hS,hL⟩)
   ·obtain⟨a,b⟩:=(Qdm h0 i L).mp h;exact⟨a,λp hp=>by have:=b p hp;omega⟩
   ·obtain⟨c,hc,hn,rfl⟩:=QcN.mp hL;obtain⟨a,b⟩:=(Qdm h0 i S).mp hS;have hc:=JY.mp hc;have hr:c.1=(i:Int):=of_decide_eq_true hc.2;refine⟨a.snoc hc.1 (λp hp=>by rw[hr];exact b p hp) hn,λp hp=>?_⟩;rcases Jo.mp hp with z | z
    ·have:=b p z;omega
    ·rw[Jh.mp z,hr];omega
  ·rintro⟨s,h⟩;by_cases z:L=[]
   ·left
    rw[z];exact Qlj cs i
   ·obtain⟨S,c,rfl⟩:∃T d,L=T++[d]:=⟨L.dropLast,L.getLast z,(QaV z).symm⟩
    obtain⟨s1,s2,s3,s4⟩:=s.init;have hc:=h c (by simp);by_cases y:c.1=(i:Int)
    ·right
     exact⟨S,(Qdm h0 i S).mpr ⟨s1,λp hp=>by have:=s3 p hp;omega⟩,QcN.mpr ⟨c,JY.mpr ⟨s2,decide_eq_true y⟩,s4,rfl⟩⟩
    ·left
     refine(Qdm h0 i _).mpr ⟨s,λp hp=>?_⟩;rcases Jo.mp hp with q | q
     ·have:=s3 p q;omega
     ·rw[Jh.mp q];omega
theorem Qrd{cs:List (Int×Int)}(nd:cs.Nodup)(h0:∀p∈cs,0<=p.1):∀i,(QgH cs i).Nodup
 |0=>by show[([]:List (Int×Int))].Nodup;simp
 |i+1=>by
  have ih:=Qrd nd h0 i;show(QgH cs i++(QgH cs i).flatMap (QpF (Qog cs i))).Nodup;refine YD.mpr ⟨ih,?_,λL hL M hM e=>?_⟩
  ·show List.Pairwise _ _;rw[QkS];refine⟨λS _=>?_,ih.imp λ{S T} hne x hx y hy e=>?_⟩
   ·unfold QpF;refine Qak.mpr ((Z9 _ (Z9 _ nd)).imp λ{c d} hne e=>hne ?_);have:=List.append_inj_right' e rfl
    simpa using this
   ·obtain⟨c,_,_,rfl⟩:=QcN.mp hx;obtain⟨d,_,_,rfl⟩:=QcN.mp hy;exact hne (List.append_inj_left' e rfl)
  ·obtain⟨S,hS,hM⟩:=YV.mp hM;obtain⟨c,hc,_,rfl⟩:=QcN.mp hM;have hr:c.1=(i:Int):=of_decide_eq_true (JY.mp hc).2;have:=((Qdm h0 i L).mp hL).2 c (by rw[e];simp);omega
end Rk
namespace Dl
open L2 _root_.Rd Rk
section
variable{X:Cx}{E:XK}{st:ZZ}{we:DE}
end
end Dl
namespace Rk
open L2 _root_.Rd Dl Rt
structure GB (h w:Nat) (cs:List (Int×Int)):Prop where
 bds:Bds h w cs
 srt:cs.Pairwise plt
 few:(QgH cs h).length<=200000
theorem GB.r0{h w:Nat}{cs:List (Int×Int)}(g:GB h w cs):∀p∈cs,0<=p.1:=λp hp=>(g.bds.2.2 p hp).1
theorem GB.rh{h w:Nat}{cs:List (Int×Int)}(g:GB h w cs):∀p∈cs,p.1<(h:Int):=λp hp=>(g.bds.2.2 p hp).2.1
theorem Qt4{h w:Nat}{cs:List (Int×Int)}(g:GB h w cs)(k:Nat):(evS cs k).Perm ((QgH cs h).filter λL=>L.length == k):=by
 have nd:=Qrd (g.srt.imp QvC) g.r0 h;have s2:=Qhf g.srt g.r0 k;have n2:(evS cs k).Nodup:=Qgy (R:=QrE) (S:=λa b=>a≠b) (λ{S T} z (e:S=T)=>QmA S (by rw[<- e] at z;exact z)) s2;refine(List.perm_ext_iff_of_nodup n2 (Z9 _ nd)).mpr λL=>?_
 rw[JY,Qeo g.r0,Qdm g.r0];constructor
 ·rintro⟨a,b⟩;exact⟨⟨a,λp hp=>g.rh p (a.sub p hp)⟩,by simpa using b⟩
 ·rintro⟨⟨a,_⟩,b⟩;exact⟨a,by simpa using b⟩
theorem QwM{h w:Nat}{cs:List (Int×Int)}(g:GB h w cs)(k:Nat):(evS cs k).length<=200000:=by
 rw[(Qt4 g k).length_eq];exact Q2 (Qaw _ _) g.few
def stL:Qa->List (Int×Int)
 |.tuple ds=>ds.map toP
 |_=>[]
theorem Qka(L:List (Int×Int)):stL (stT L)=L:=Qbb L
def Qlx(C:Addr):DF:=λargs R EX=>∃(h w:Nat)(cs:List (Int×Int))(d:Qa),args=[.v (bdD h w cs),.v d]/\(inW d 0 ((min h w:Nat):Int)=true->R .none)/\(inW d 0 ((min h w:Nat):Int)=false->EX C)
def Qsu:DF:=λargs R _=>∃S:List (Int×Int),args=[.v (stT S)]/\R (.int (rbI S))
def Qzb:DF:=λargs R _=>∃(h w:Nat)(cs S:List (Int×Int)),args=[.v (bdD h w cs),.v (stT S)]/\R (.list ((fol cs S).map pairD))
def evD:DF:=λargs R _=>∃(h w:Nat)(cs:List (Int×Int))(k:Nat),args=[.v (bdD h w cs),.v (.int k)]/\GB h w cs/\k<=6/\R (.list ((evS cs k).map stT))
def QhZ(CS CM:Addr):DF:=λargs R EX=>∃(h w:Nat)(cs:List (Int×Int))(d:Qa),args=[.v (bdD h w cs),.v d]/\GB h w cs/\(inW d 0 ((min h w:Nat):Int)=false->EX CS)/\(∀k:Nat,d=.int k->k<=min h w->300<Wc cs h h 0 k->EX CM)/\∀k:Nat,d=.int k->k<=min h w->Wc cs h h 0 k<=300->R (.list ((evS cs k).map stT))
theorem Qj8{h w:Nat}{cs:List (Int×Int)}(d:Qa):(inW d 0 ((min h w:Nat):Int)=false)∨∃k:Nat,d=.int k/\k<=min h w:=by
 cases e:inW d 0 ((min h w:Nat):Int) with
 |false=>exact .inl rfl
 |true=>
  obtain⟨i,rfl,a,b⟩:=QkB e;exact .inr ⟨i.toNat,by rw[show((i.toNat:Nat):Int)=i by omega],by omega⟩
theorem QtP{S:List (Int×Int)}{c:Int×Int}(h:S.getLast? = some c):atI (S.map pairD) (-1)=some (pairD c):=by
 obtain⟨xs,rfl⟩:=QhF.mp h;rw[Jp];exact QjQ _ _
def evG(cs:List (Int×Int))(d:Qa):List Qa:=(fol cs (stL d)).map λc=>stT (stL d++[c])
theorem QmW(cs:List (Int×Int))(k:Nat):((evS cs k).map stT).flatMap (evG cs)=(evS cs (k+1)).map stT:=by
 show _=((evS cs k).flatMap λS=>(fol cs S).map λc=>S++[c]).map stT;rw[List.flatMap_map,List.map_flatMap];refine Qfp λS _=>?_
 unfold evG;rw[Qka,Jr];rfl
end Rk
namespace L2
section
variable{X:Cx}
end
end L2
namespace Dl
open L2 _root_.Rd Rk Rt
end Dl
namespace Rk
open L2 _root_.Rd Dl Rt
def wt(cs L:List (Int×Int)):Nat:=(cs.filter (QAB L)).length
end Rk
namespace L2
open _root_.Rd
section
variable{X:Cx}
end
end L2
namespace Dl
open L2 _root_.Rd Rk Rt
section
variable{X:Cx}{E:XK}
end
end Dl
namespace Rk
open L2 _root_.Rd Dl Rt
theorem QvB{p q r:Int×Int}(h1:plt p q)(h2:plt q r):plt p r:=by
 rcases h1 with a | a<;>rcases h2 with b | b
 ·exact .inl (by omega)
 ·exact .inl (by omega)
 ·exact .inl (by omega)
 ·exact .inr (by omega)
theorem Qi2:∀{L:List (Int×Int)},Qca (L.map pairD)=true->L.Pairwise plt
 |[],_=>.nil
 |[p],_=>Qb0 _ _
 |p::q::L,h=>by
  have h:=Qs.mp (show(ltD (pairD p) (pairD q)&&Qca ((q::L).map pairD))=true from h);have ih:=Qi2 (L:=q::L) h.2;have h1:plt p q:=by have:=h.1;rw[Qjn] at this;exact of_decide_eq_true this
  refine Yg.mpr ⟨λr hr=>?_,ih⟩;rcases Qz.mp hr with z | z
  ·rw[z];exact h1
  ·exact QvB h1 ((Yg.mp ih).1 r z)
theorem Qu7{h w:Nat}{cs:List (Int×Int)}{d:Qa}(q:QmJ h w cs d=true):∃L,d=stT L/\Std cs L:=by
 obtain⟨L,rfl,hL⟩:=Qn5 q;refine⟨L,rfl,?_⟩;have q:=Qs.mp (show(((L.map pairD).all (Qio h w)&&Qca (L.map pairD))&&((L.map pairD).all (inC cs)&&apB ((L.map pairD).map toP)))=true from q);have q1:=Qs.mp q.1;have q2:=Qs.mp q.2;have pw:=Qi2 q1.2;have ap:=q2.2;rw[Qbb] at ap;have ap:=Qs.mp (show(decide (L.map (·.1)).Nodup&&decide (L.map (·.2)).Nodup)=true from ap);refine⟨λp hp=>?_,?_,of_decide_eq_true ap.2⟩
 ·have:=Jz.mp q2.1 (pairD p) (Qx.mpr ⟨p,hp,rfl⟩);unfold inC at this;rw[Qhx] at this;exact of_decide_eq_true this
 ·have nd1:L.Pairwise λp q=>p.1≠q.1:=Qak.mp (of_decide_eq_true ap.1)
  refine(List.pairwise_and_iff.mpr ⟨nd1,pw⟩).imp λ{a b} z=>?_
  rcases z.2 with y | y
  ·exact y
  ·exact absurd y.1 z.1
theorem Qu6{h w:Nat}{cs L:List (Int×Int)}(g:GB h w cs)(st:Std cs L):QmJ h w cs (stT L)=true:=by
 refine Qsn (λp hp=>g.bds.2.2 p hp) st.sub ?_ (st.rows.imp λz=>.inl z)
 show(decide (L.map (·.1)).Nodup&&decide (L.map (·.2)).Nodup)=true;rw[decide_eq_true st.cols,Bool.and_true];exact decide_eq_true (Qak.mpr (st.rows.imp λ{a b}(z:a.1<b.1)=>by show a.1≠b.1;omega))
end Rk
namespace L2
section
variable{κ:Type}[DecidableEq κ]
def QfG(kvs:List (κ×V))(k:κ):Option V:=(kvs.find? λkv=>decide (kv.1=k)).map (·.2)
def Qor(kvs:List (κ×V))(k:κ)(v:V):List (κ×V):=
 if(kvs.any λkv=>decide (kv.1=k))=true then kvs.map (λkv=>if kv.1=k then(kv.1,v) else kv) else kvs++[(k,v)]
theorem QdX{p:κ×V}{r:List (κ×V)}{k:κ}(e:p.1=k):QfG (p::r) k=some p.2:=by simp[QfG,ZR,e]
theorem QdY{p:κ×V}{r:List (κ×V)}{k:κ}(e:¬p.1=k):QfG (p::r) k=QfG r k:=by simp[QfG,ZR,e]
theorem QiM(k:κ):∀kvs:List (κ×V),(kvs.any λkv=>decide (kv.1=k))=(QfG kvs k).isSome
 |[]=>rfl
 |p::r=>by
  rw[Qb1];by_cases e:p.1=k
  ·simp only[QdX e,decide_eq_true e,Bool.true_or,Option.isSome_some]
  ·rw[QdY e,decide_eq_false e,QiK];exact QiM k r
theorem Qil(kvs:List (κ×V))(k:κ)(v:V):(Qor kvs k v).length<=kvs.length+1:=by
 unfold Qor;split
 ·rw[Qg];omega
 ·rw[Qu,QJ,Qa3];omega
theorem Qoq{kvs:List (κ×V)}{k:κ}(v:V)(h:QfG kvs k=none):Qor kvs k v=kvs++[(k,v)]:=by
 unfold Qor;rw[QiM,h];exact if_neg (by decide)
theorem RelO.isSome_eq{o:Option V}{u:Option Value}(r:RelO o u):o.isSome=u.isSome:=by
 cases o with
 |none=>cases u with
  |none=>rfl
  |some _=>exact(show False from r).elim
 |some _=>cases u with
  |none=>exact(show False from r).elim
  |some _=>rfl
theorem KV.val{kvs:List (κ×V)}{vs:List (κ×Value)}(r:KV kvs vs)(k:κ):RelO (QfG kvs k) (valueAt vs k):=by
 unfold KV at r;induction r with
 |nil=>exact Z8
 |@cons p q ps qs h t ih=>
  obtain⟨h1,h2⟩:=h;by_cases e:p.1=k
  ·have e':q.1=k:=h1.symm.trans e;have b:valueAt (q::qs) k=some q.2:=by simp[valueAt,ZR,e']
   rw[QdX e,b];exact h2
  ·have e':¬q.1=k:=λz=>e (h1.trans z)
   have b:valueAt (q::qs) k=valueAt qs k:=by simp[valueAt,ZR,e']
   rw[QdY e,b];exact ih
theorem KV.any{kvs:List (κ×V)}{vs:List (κ×Value)}(r:KV kvs vs)(k:κ):(kvs.any λkv=>decide (kv.1=k))=vs.any λkv=>decide (kv.1=k):=by
 unfold KV at r;induction r with
 |nil=>rfl
 |cons h t ih=>rw[Qb1,Qb1,ih,h.1]
theorem KV.repl{kvs:List (κ×V)}{vs:List (κ×Value)}(r:KV kvs vs)(k:κ){y:V}{u:Value}(ry:RelV y u) :
  KV (kvs.map λkv=>if kv.1=k then(kv.1,y) else kv) (vs.map λkv=>if kv.1=k then(kv.1,u) else kv):=by
 unfold KV at r ⊢;induction r with
 |nil=>exact .nil
 |@cons p q ps qs h t ih=>
  rw[JN,JN];refine .cons ?_ ih
  obtain⟨h1,h2⟩:=h;by_cases e:p.1=k
  ·rw[if_pos e,if_pos (h1.symm.trans e)];exact⟨h1,ry⟩
  ·rw[if_neg e,if_neg (λz=>e (h1.trans z))];exact⟨h1,h2⟩
theorem KV.put{kvs:List (κ×V)}{vs:List (κ×Value)}(r:KV kvs vs)(k:κ){y:V}{u:Value}(ry:RelV y u):KV (Qor kvs k y) (stored vs k u):=by
 unfold Qor stored;rw[r.any k];by_cases e:(vs.any λkv=>decide (kv.1=k))=true
 ·rw[if_pos e,if_pos e];exact r.repl k ry
 ·rw[if_neg e,if_neg e];exact Paired.snoc r ⟨rfl,ry⟩
theorem KV.length{kvs:List (κ×V)}{vs:List (κ×Value)}(r:KV kvs vs):kvs.length=vs.length:=QhE r
end
theorem Qpr{P:Qy}{w:Jg}{k:Key}{u:Value}(r:RelV (kV k) u):(mixKind P w).is k u=true:=by
 cases k with
 |inl i=>obtain⟨t,e⟩:=(show ∃t,u=Qbx i t from r);subst e;exact Qih P w i t
 |inr x=>obtain⟨t,e⟩:=(show ∃t,u=Qfw x t from r);subst e;exact Qig P w x t
theorem Qhd{P:Qy}{w:Jg}:∀{ks:List Key}{us:List Value},Vals (ks.map kV) us->ItemsAre (mixKind P w) ks us
 |[],_,r=>by rw[QkT] at r;cases r;exact .nil
 |k::ks,_,r=>by
  rw[JN] at r;cases r with
  |cons h t=>exact .cons (Qpr h) (Qhd t)
abbrev KT (H:Hp):List (List Key×V)->List (List Key×Addr×Value)->Prop:=Z6 λp q=>p.1=q.1/\H q.2.1=some (.tup (p.1.map kV))/\RelV p.2 q.2.2
theorem KT.val{H:Hp}{kvs:List (List Key×V)}{xs:List (List Key×Addr×Value)}(r:KT H kvs xs)(k:List Key):RelO (QfG kvs k) ((atKey xs k).map (·.2)):=by
 induction r with
 |nil=>exact Z8
 |@cons p q ps qs h t ih=>
  obtain⟨h1,_,h2⟩:=h;by_cases e:p.1=k
  ·have e':q.1=k:=h1.symm.trans e;have b:atKey (q::qs) k=some q.2:=by simp[atKey,ZR,e']
   rw[QdX e,b];exact h2
  ·have e':¬q.1=k:=λz=>e (h1.trans z)
   have b:atKey (q::qs) k=atKey qs k:=by simp[atKey,ZR,e']
   rw[QdY e,b];exact ih
section
variable{P:Qy}{w:Jg}{H:Hp}{h:J5}{a:Addr}
theorem Qvh{u:HO}(ok:HOk P w H h)(e:Rd H a u):ObjOk P w H h a u:=e.ok ok
theorem QpI{kvs:List (Key×V)}(ok:HOk P w H h)(e:Rd H a (.dK kvs)):kvs.length<=sizeLine/\(a == sysModules)=false/\∃vs,KV kvs vs/\h.DictOf (mixKind P w) a vs:=
 show ObjOk P w H h a (.dK kvs) from Qvh ok e
theorem Qze{kvs:List (Key×V)}(ok:HOk P w H h)(e:H a=some (.dK kvs)):kvs.length<=sizeLine/\(a == sysModules)=false/\∃vs,KV kvs vs/\h.DictOf (mixKind P w) a vs:=QpI ok (.inl e)
theorem Qir{ks:List Key}(ok:HOk P w H h)(e:H a=some (.tup (ks.map kV))):(tupleKind (mixKind P w)).is h ks a:=by
 obtain⟨_,its,r,o,h1,h2,n,h3⟩:=(show ObjOk P w H h a (.tup (ks.map kV)) from ok a _ e);exact⟨o,its.toArray,n,h1,h2,h3,by simpa using Qhd r⟩
theorem Qt5{kvs:List (List Key×V)}(ok:HOk P w H h)(e:Rd H a (.dT kvs)):kvs.length<=sizeLine/\(a == sysModules)=false /\
  ∃xs,KT H kvs xs/\h.DictOfH (tupleKind (mixKind P w)) a xs:=by
 obtain⟨z,y,xs,r,o,es,ep,h1,h2,h3,h4,h5⟩:=(show ObjOk P w H h a (.dT kvs) from Qvh ok e);refine⟨z,y,xs,r,o,es,ep,h1,h2,h3,h4,λx hx=>?_,h5⟩;have all:∀{l:List (List Key×V)}{m:List (List Key×Addr×Value)},KT H l m->∀x∈m,(tupleKind (mixKind P w)).is h x.1 x.2.1:=by
  intro l m q;induction q with
  |nil=>intro x hx;exact nomatch hx
  |@cons p q ps qs hq t ih=>
   intro x hx;rcases Qz.mp hx with e | hx
   ·subst e;exact Qir ok (by rw[<- hq.1];exact hq.2.1)
   ·exact ih x hx
 exact all r x hx
end
def DGet(H:Hp)(a:Addr)(y:V)(r:Option V):Prop:=
 (∃kvs k,Rd H a (.dK kvs)/\y=kV k/\r=QfG kvs k)∨∃kvs k b,Rd H a (.dT kvs)/\y=.ref b/\H b=some (.tup (k.map kV))/\r=QfG kvs k
theorem DGet.k{H:Hp}{a:Addr}{kvs:List (Key×V)}{k:Key}(e:H a=some (.dK kvs)):DGet H a (kV k) (QfG kvs k):=.inl ⟨kvs,k,.inl e,rfl,rfl⟩
section
variable{X:Cx}{pins:List (Addr×Obj)}{σ:St}{H:Hp}{s:Shared}{a:Addr}{y v:V}{u r:Value}{o:Option V}{A:Q5}{E:Value->Shared->Prop}
theorem Inv.big(I:Inv X pins σ H s):sysModules<s.heap.objs.size:=by
 have h:mainGlobals<s.heap.objs.size:=(I.mod.glob.keeps I.bk).lt;exact Nat.lt_trans (by decide) h
theorem Qna{Q:Value->Shared->Prop}(hu:A.units+1<cLine)(I:Inv X pins σ H s)(g:DGet H a y (some v))(ry:RelV y u)(h:∀w' s',Inv X pins σ H s'->RelV v w'->Q w' s') :
  wpAny (model X.prog X.w) A (getItem (.ref a) u) Q E s:=by
 rcases g with⟨kvs,k,e,ey,l⟩ | ⟨kvs,k,b,e,ey,eb,l⟩
 ·subst ey;obtain⟨z,hd,vs,rel,dd⟩:=QpI I.hok e;obtain⟨w',hw,rw'⟩:=RelO.some_of (v:=v) (o:=valueAt vs k) (by rw[l];exact rel.val k);exact wpAny_getItem_of (Qpr ry) dd.mapOf hw (h w' _ (I.tok _) rw')
 ·subst ey;cases(show u=JF b from ry);obtain⟨z,hd,xs,rel,dd⟩:=Qt5 I.hok e;obtain⟨w',hw,rw'⟩:=RelO.some_of (v:=v) (o:=(atKey xs k).map (·.2)) (by rw[l];exact rel.val k);obtain⟨p,hp,hp2⟩:=JS.mp hw;refine wpAny_getItem_heap (Qxl hu) (Qir I.hok eb) dd hp ?_
  rw[hp2];exact h w' _ (I.tok _) rw'
theorem QAJ{Q:Value->Shared->Prop}(hu:A.units+1<cLine)(I:Inv X pins σ H s)(g:DGet H a y o)(ry:RelV y u)(h:∀s',Inv X pins σ H s'->Q (.bool o.isSome) s') :
  wpAny (model X.prog X.w) A (compareOp .In u (.ref a)) Q E s:=by
 rcases g with⟨kvs,k,e,ey,l⟩ | ⟨kvs,k,b,e,ey,eb,l⟩
 ·subst ey;obtain⟨z,hd,vs,rel,dd⟩:=QpI I.hok e;refine wpAny_in_of (Qpr ry) hd dd.mapOf ?_
  rw[<- (rel.val k).isSome_eq,<- l];exact h _ (I.tok _)
 ·subst ey;cases(show u=JF b from ry);obtain⟨z,hd,xs,rel,dd⟩:=Qt5 I.hok e;refine wpAny_in_heap (Qxl hu) (Qir I.hok eb) hd dd ?_
  have q:=(rel.val k).isSome_eq;rw[QnK] at q;rw[<- q,<- l];exact h _ (I.tok _)
theorem Qt8{h':J5}{t':Nat}{ob:HO}(I:Inv X pins σ H s)(mu:Mut (H a))(hs:Qax a s.heap h')(he:∃q,h'.get? a=some q)(new:ObjOk X.prog X.w (upd H a ob) h' a ob) :
  Inv X pins σ (upd H a ob) { s with heap:=h',toks:=t' }:=
 I.write (x:=a) (e:=a) mu (.inl rfl) (λb q hb z=>(hs.2 b hb).trans z) he new
theorem QwO{P:Qy}{w:Jg}{H':Hp}{h':J5}{kvs:List (Key×V)}{vs:List (Key×Value)}(z:kvs.length<=sizeLine)(hd:(a == sysModules)=false)(rel:KV kvs vs)(dd:h'.DictOf (mixKind P w) a vs) :
  ObjOk P w H' h' a (.dK kvs):=⟨z,hd,vs,rel,dd⟩
end
section
variable{X:Cx}{pins:List (Addr×Obj)}{σ:St}{H:Hp}{s:Shared}{a:Addr}{kvs:List (Key×V)}{k:Key}{u:Value}{A:Q5}{E:Value->Shared->Prop}
end
theorem Qis{X:Cx}{pins:List (Addr×Obj)}{σ:St}{H:Hp}{s:Shared}{a:Addr}{y:V}{o:Option V}(I:Inv X pins σ H s)(g:DGet H a y o):s.TypeIs (.ref a) "dict" := by
 rcases g with⟨kvs,k,e,_,_⟩ | ⟨kvs,k,b,e,_,_,_⟩
 ·obtain⟨_,_,vs,_,dd⟩:=QpI I.hok e;exact dd.typeIs
 ·obtain⟨_,_,xs,_,dd⟩:=Qt5 I.hok e;exact dd.typeIs
section
variable{X:Cx}{o i e value:QP}{pos pos' tpos:Pos}{td ty tv:TE}
end
theorem QpJ{P:Qy}{w:Jg}{H:Hp}(h:J5)(hb:sysModules<h.objs.size):ObjOk P w H (h.push { cls:=.type "dict",data:=.dict #[] }) h.objs.size (.dK []):=
 ⟨Qw _,beq_eq_false_iff_ne.mpr (QcZ (QD hb)),[],.nil,Qj1 h⟩
section
variable{X:Cx}{pos:Pos}
end
section
variable{X:Cx}{pins:List (Addr×Obj)}{σ:St}{H:Hp}{s:Shared}{a:Addr}{y d:V}{u r:Value}{o:Option V}{A:Q5}{E:Value->Shared->Prop}
end
section
variable{X:Cx}{o e f:QP}{apos cpos:Pos}{td ty tx:TE}
end
section
variable{X:Cx}{pins:List (Addr×Obj)}{σ:St}{H:Hp}{s:Shared}{a:Addr}{kvs:List (Key×V)}{A:Q5}{E:Value->Shared->Prop}
end
section
variable{X:Cx}{pins:List (Addr×Obj)}{σ:St}{H:Hp}{s:Shared}{a:Addr}{y:V}{u:Value}{A:Q5}{E:Value->Shared->Prop}
end
theorem QeP(kx vx target iter:QP)(ifs:List QP)(scope:Z5)(pos:Pos)(it:Value)(D:Addr)(env:Env) :
  compTurn (.DictComp kx vx [⟨target,iter,ifs,0⟩] scope pos) 0 it (.ref D) env=(do
   standAt iter.pos
   let r <- pyNext it
   match r with
   |none=>pure (.done .next)
   |some v=>
    letOwnedTupleGo target it v
    assign target env v
    let ok <- QhW ifs env
    if ok then
     (do let kv <- eval kx env;let vv <- holding [kv] (eval vx env);standAt { kx.pos with endLine:=vx.pos.endLine,endCol:=vx.pos.endCol };holding [kv,vv] (dictSet D kv vv))
    again (.compLoop (.DictComp kx vx [⟨target,iter,ifs,0⟩] scope pos) 0 it (.ref D) env)):=by rfl
def QnC(Y:Cx)(elt elv:QP)(D:Addr):Act:=λQ s=>wpAny (model Y.prog Y.w) Y.A (eval elt Y.env) (λk s6=>wpAny (model Y.prog Y.w) Y.A (eval elv Y.env) (λv s7=>wpAny (model Y.prog Y.w) Y.A (dictSet D k v) (λ_ s8=>Q s8) (λ_ _=>False) s7) (λ_ _=>False) s6) (λ_ _=>False) s
def Qxd(p:Addr)(te tv:TE):St->Hp->(Hp->Prop)->Prop:=λσ H k=>te σ H λx H5=>tv σ H5 λv H6=>∃kvs ky,x=kV ky/\H6 p=some (.dK kvs)/\kvs.length<sizeLine/\k (upd H6 p (.dK (Qor kvs ky v)))
theorem Qnu{Y:Cx}{σ:St}{elt elv:QP}{te tv:TE}{D:Addr}(hx:Y.xe=λ_ _=>False)(he:PE Y elt te)(hv:PE Y elv tv):BodyOk Y σ (QnC Y elt elv D) (Qxd D te tv σ):=by
 intro pins s H k Q I h hQ;have hx':∀(v:Value)(s':Shared),Y.xe v s'->False:=λv s' z=>by rw[hx] at z;exact z
 refine wpAny_mono (he pins s σ H _ I h) (λu s5 ⟨x,H5,I5,r5,q5⟩=>?_) hx';refine wpAny_mono (hv pins s5 σ H5 _ I5 q5) (λr s6 ⟨v,H6,I6,r6,kvs,ky,ex,eD,hl,q⟩=>?_) hx';subst ex;obtain⟨z,hd,vs,rel,dd⟩:=Qze I6.hok eD;have hz:vs.length<=sizeLine:=by rw[<- rel.length];exact z
 have hl:(Qor kvs ky v).length<=sizeLine:=by have:=Qil kvs ky v;omega
 refine wpAny_dictSet_pairs (hsz:=hz) (Qpr r5) dd λh' dd' hs=>hQ _ _ ?_ q
 have hq:∃q,h'.get? D=some q:=let ⟨q,_,_,hq,_⟩:=dd';⟨q,hq⟩
 exact Qt8 I6 (by rw[eD];exact Z8) hs hq (QwO hl hd (rel.put ky r6) dd')
def tCompD(cap:List (Option Nat))(wi:TI)(g:TG)(tc:TT)(te tv:TE):TE:=λσ H Q=>wi σ H λJ H1=>∀p,H1 p=none->QgG J (bOf (Qc0 cap σ) g tc (Qxd p te tv)) (Q (.ref p)) (upd H1 p (.dK []))
theorem QkG{Y:Cx}{σ:St}{tg:QP}{elt elv:QP}{gens:List QcB}{scope:Z5}{cpos:Pos}{d:Nat}{it D:Addr}{fp:List Addr}{tn:Nat->J5->Prop}{J:It}{pins:List (Addr×Obj)}{s:Shared}{H:Hp}{body:V->Hp->(Hp->Prop)->Prop}{Qn:Hp->Prop}{R:Qr4->Shared->Prop}{act:Value->Act}
  (hc:Y.calm=true)(T:Turn Y.prog Y.w Y.K tg J fp it tn)(st:tn 0 s.heap)(hf:∀b∈fp,FpOk Y pins H b)
  (hturn:∀(Q:PySem.Fin->Shared->Prop)(E:Value->Shared->Prop)(s:Shared),wpAny (model Y.prog Y.w) Y.A (pyNext (.ref it)) (λr s1=>match r with
   |none=>Q (.done .next) s1
   |some v=>wpAny (model Y.prog Y.w) Y.A (letOwnedTupleGo tg (.ref it) v) (λ_ s2=>act v (λs3=>Q (.again (.compLoop (.DictComp elt elv gens scope cpos) d (.ref it) (.ref D) Y.env)) s3) s2) E s1) E s ->
   wpAny (model Y.prog Y.w) Y.A (compTurn (.DictComp elt elv gens scope cpos) d (.ref it) (.ref D) Y.env) Q E s)
  (hact:∀(x:V)(u:Value),RelV x u->BodyOk Y σ (act u) (body x))
  (I:Inv Y pins σ H s)(h:QgG J body Qn H)(hR:∀s' H',Inv Y pins σ H' s'->Qn H'->R (.ok .next) s') :
  codeAny (model Y.prog Y.w) Y.A (.compLoop (.DictComp elt elv gens scope cpos) d (.ref it) (.ref D) Y.env) R s:=by
 obtain⟨W,⟨m0,w0⟩,turn⟩:=h;have stat:∀{H':Hp},(∀b∈fp,H' b=none)->∀b∈fp,FpOk Y pins H' b:=λhn b hb=>⟨hn b hb,(hf b hb).2⟩
 refine codeAny_loop rfl (λn s'=>∃i H',Inv Y pins σ H' s'/\tn i s'.heap/\(∀b∈fp,H' b=none)/\W i n H') (λn s3 hI=>?_) m0 ⟨0,H,I,st,λb hb=>(hf b hb).1,w0⟩;show wpAny _ Y.A ((compTurn (.DictComp elt elv gens scope cpos) d (.ref it) (.ref D) Y.env).onRaise (λx=>do noteFrame x Y.env;theTreesLotGoes x)) _ _ s3;refine wpAny_noted (hturn _ _ _ ?_);obtain⟨i,H3,I3,st3,fr3,w3⟩:=hI;rcases turn i n H3 w3 with⟨stop,qn⟩ | ⟨go,step⟩
 ·refine thn (T.done Y rfl rfl rfl hc i pins s3 σ H3 _ I3 (stat fr3) st3 stop) λr s4 ⟨hr,I4⟩=>?_
  subst hr;exact hR s4 H3 I4 qn
 ·refine thn (T.item Y rfl rfl rfl hc i pins s3 σ H3 _ I3 (stat fr3) st3 go) λr s4 ⟨u,hr,h4⟩=>?_
  subst hr;refine thn h4 λ_ s5 ⟨x,H5,I5,r5,y5,st5,fr5⟩=>?_
  have I5':=I5.pinned (stat fr5) (T.obj _ _ st5);refine hact x u r5 _ s5 H5 _ _ I5' (step x H5 y5) λs7 H7 I7 ⟨m',hm,w7⟩=>?_
  refine⟨rfl,m',hm,i+1,H7,I7.unpinned,T.keep _ _ _ st5 λb hb o e=>(I7.pin (b,o) (Q6 _ (Q6 _ (Qaz hb e)))).1,λb hb=>?_,w7⟩;obtain⟨o,e,dd⟩:=T.obj _ _ st5 b hb;exact(I7.pin (b,o) (Q6 _ (Q6 _ (Qaz hb e)))).2.1
theorem Qm2{Y:Cx}{elt elv tg iter:QP}{ifs:List QP}{scope:Z5}{cpos:Pos}{it D:Addr}(Q:PySem.Fin->Shared->Prop)(E:Value->Shared->Prop)(s:Shared)
  (h:wpAny (model Y.prog Y.w) Y.A (pyNext (.ref it)) (λr s1=>match r with
   |none=>Q (.done .next) s1
   |some v=>wpAny (model Y.prog Y.w) Y.A (letOwnedTupleGo tg (.ref it) v) (λ_ s2=>QnA Y tg ifs (QnC Y elt elv D) v (λs3=>Q (.again (.compLoop (.DictComp elt elv [⟨tg,iter,ifs,0⟩] scope cpos) 0 (.ref it) (.ref D) Y.env)) s3) s2) E s1) E s) :
  wpAny (model Y.prog Y.w) Y.A (compTurn (.DictComp elt elv [⟨tg,iter,ifs,0⟩] scope cpos) 0 (.ref it) (.ref D) Y.env) Q E s:=by
 rw[QeP];refine wpAny_bind (wpAny_standAt (wpAny_bind (thn h λr s1 h1=>?_)));cases r with
 |none=>exact Qe h1
 |some v=>
  refine wpAny_bind (thn h1 λ_ s2 h2=>?_);refine wpAny_bind (wpAny_mono h2 (λ_ s4 h4=>wpAny_bind (wpAny_mono h4 (λok s5 h5=>?_) λ_ _ f=>f.elim)) λ_ _ f=>f.elim);cases ok with
  |false=>exact Qe h5
  |true=>exact wpAny_bind (wpAny_bind (wpAny_mono h5 (λx s6 h6=>wpAny_bind (Zg (wpAny_mono h6 (λy s7 h7=>wpAny_bind (wpAny_standAt (Zg (wpAny_mono h7 (λ_ s8 h8=>Qe h8) λ_ _ f=>f.elim)))) λ_ _ f=>f.elim))) λ_ _ f=>f.elim))
theorem QoA{X:Cx}{M:List Str}{cap:List (Option Nat)}{elt elv tg iter:QP}{ifs:List QP}{scope:Z5}{pos:Pos}{wi:TI}{g:TG}{tc:TT}{te tv:TE}(hc:X.calm=true)(ok:Qcr X.N X.env.scope M scope cap=true)
  (hi:PI X tg iter wi)(hb:∀cl ex s3 H3 C,PG (blk X M scope cl ex s3 H3 C) tg g/\PTs (blk X M scope cl ex s3 H3 C) ifs tc/\PE (blk X M scope cl ex s3 H3 C) elt te/\PE (blk X M scope cl ex s3 H3 C) elv tv)
  (hs:∀x,foldedSetIterable iter X.env x=pure x:=by intro _;rfl):PE X (.DictComp elt elv [⟨tg,iter,ifs,0⟩] scope pos) (tCompD cap wi g tc te tv):=by
 intro pins s σ H Q I h;have c:=CapOk.of ok;show wpAny _ X.A (comprehension (.DictComp elt elv [⟨tg,iter,ifs,0⟩] scope pos) scope X.env _ newDict false (eval iter X.env)) _ _ s;refine Z4 (use:=none) rfl hs (Qez (I.ok.cells c)) c.kind c.loc ?_
 refine thn (hi pins s σ H _ I h) λv s1 h1=>thn h1 λitv s2 h2=>?_
 obtain⟨it,fp,tn,J,H2,e,I2,T,st2,f2,hW⟩:=h2;subst e;refine JC (Y2 c.cell (by intro y hy;simp at hy) (λh₁ hns₁ hsb₁=>?_) c.kind);have I3:Inv X pins σ (upd H2 s2.heap.objs.size (.dK [])) { s2 with heap:=s2.heap.push { cls:=.type "dict",data:=.dict #[] } }:=I2.laid (t':=s2.toks) (λb x e=>Qc _ e) (Qi _) (QpJ s2.heap I2.big);have lt2:∀b∈fp,b<s2.heap.objs.size:=λb hb=>by obtain⟨o,e,_⟩:=T.obj _ _ st2 b hb;exact Qp e
 have f3:∀b∈fp,FpOk X pins (upd H2 s2.heap.objs.size (.dK [])) b:=λb hb=>(f2 b hb).upd (QD (lt2 b hb))
 generalize hs3:({ s2 with heap:=s2.heap.push { cls:=.type "dict",data:=.dict #[] } }:Shared)=s3 at I3;have e3:s3.heap=s2.heap.push { cls:=.type "dict",data:=.dict #[] }:=by rw[<- hs3]
 have z3:s3.heap.objs.size=s2.heap.objs.size+1:=by rw[e3,ZN]
 have hk:∀b o,s3.heap.get? b=some o->h₁.get? b=some o:=λb o e=>hsb₁.extBut b o (by
  have:=Qp e;rw[e3] at this;exact QD this) (Qc _ (e3 ▸ e))
 have hn₁:h₁.Ns s3.heap.objs.size λ_=>none:=by rw[e3];exact hns₁
 have B:=QbX (t4:=s3.toks+([]:List (Str×Value)).length) (fp:=fp) I3 c f3 (λb hb=>by rw[z3];exact Qap (lt2 b hb)) hn₁ hk;have st4:tn 0 h₁:=T.keep _ _ _ st2 λb hb o e=>hk b o (by rw[e3];exact Qc _ e)
 have fp4:∀b∈fp,FpOk (blk X M scope (Qa4 X.env scope.names []) fp s3 (upd H2 s2.heap.objs.size (.dK [])) s3.heap.objs.size) [] (upd H2 s2.heap.objs.size (.dK [])) b:=λb hb=>by
  refine⟨(f3 b hb).1,(B.ok.exf b hb).1,B.ok.exfs b hb,.inl hb,(B.ok.exf b hb).2,λp hp=>(nomatch hp)⟩
 obtain⟨hg,ht,he,hv⟩:=hb (Qa4 X.env scope.names []) fp s3 (upd H2 s2.heap.objs.size (.dK [])) s3.heap.objs.size;have loop:codeAny (model X.prog X.w) X.A (.compLoop (.DictComp elt elv [⟨tg,iter,ifs,0⟩] scope pos) 0 (.ref it) (.ref s2.heap.objs.size) (compEnvC scope (Qa4 X.env scope.names []) s3.heap.objs.size X.env))
   (compPost (model X.prog X.w) X.A X.xe none (EP X pins σ Q) (.ref s2.heap.objs.size) s3.heap.objs.size) { s3 with heap:=h₁,toks:=s3.toks+([]:List (Str×Value)).length }:=by
  refine QkG (Y:=blk X M scope (Qa4 X.env scope.names []) fp s3 (upd H2 s2.heap.objs.size (.dK [])) s3.heap.objs.size) (gens:=[⟨tg,iter,ifs,0⟩]) (d:=0) hc T st4 fp4
   (λQ E s h=>Qm2 Q E s h) (λx u r=>Qdw rfl hg ht (λσ4=>Qnu rfl he hv) x u r) B (hW _ (I2.hok.fresh (Qi _))) λs' H' I' q=>?_
  obtain⟨m,hn,_⟩:=I'.loc;exact⟨m,hn,λh' hs'=>⟨.ref s2.heap.objs.size,H',Qgj I3 f3 I' hs',rfl,q⟩⟩
 exact codeAny_compStart_dict loop (T.self _ 0 _ _ _ st4 loop)
end L2
namespace Dl
open L2 _root_.Rd Rk
theorem QfF(i:Int):∀kvs:List (Int×Int),QfG (dkV kvs) (.inl i)=((kvs.find? λp=>decide (p.1=i)).map λp=>V.int p.2)
 |[]=>rfl
 |p::kvs=>by
  have ih:=QfF i kvs;by_cases z:p.1=i
  ·rw[show QfG (dkV (p::kvs)) (.inl i)=some (V.int p.2) from QdX (p:=(Qby p.1,V.int p.2)) (by rw[z])];simp[ZR,z]
  ·rw[show QfG (dkV (p::kvs)) (.inl i)=QfG (dkV kvs) (.inl i) from QdY (p:=(Qby p.1,V.int p.2)) (λe=>z (QjV e)),ih];simp[ZR,z]
theorem Qt6{kvs:List (Int×Int)}{a b:Int}(h:∀p∈kvs,p.1≠a):Qor (dkV kvs) (.inl a) (.int b)=dkV (kvs++[(a,b)]):=by
 rw[Qoq,dkV,dkV,Jp]
 ·rfl
 ·rw[QfF,List.find?_eq_none.mpr λp hp=>by simpa using h p hp];rfl
@[irreducible] def QjR(items:List Qa)(wg:DG)(wt:DT)(wk wv:DE)(δ:Sts)(Q:Qa->Prop):Prop:=∃Iv:Nat->List (Int×Int)->Prop,Iv 0 [] /\
 (∀(i:Nat) acc d,items[i]? = some d->Iv i acc->wg d δ λδ4=>wt δ4 (λb=>if b=true then wk δ4 (λk=>∃a,k=.int a/\wv δ4 (λv=>∃b,v=.int b/\acc.length<1000000/\(∀p∈acc,p.1≠a)/\Iv (i+1) (acc++[(a,b)])) XF) XF else Iv (i+1) acc) XF)/\∀acc,Iv items.length acc->Q (.dict (dkD acc))
def dCompD(cap:List (Option Nat))(wi:DI)(wg:DG)(wt:DT)(wk wv:DE):DE:=λδ Q EX=>wi δ (λitems=>QjR items wg wt wk wv (QdO cap δ) Q) EX
theorem QkF{K:PySem.W.Frag}{E:XK}{cap:List (Option Nat)}{ix:List Nat}{wi:DI}{wg:DG}{wt:DT}{wk wv:DE}(hf:QaR cap ix=true)(σ:L2.St)(H:Hp)(Q:VK)(h:tX .D K E (dCompD cap wi wg wt wk wv) σ H Q) :
  tCompD cap (tI .P K E wi) (tG ix K wg) (tT K E0 wt) (tX .D K E0 wk) (tX .D K E0 wv) σ H Q:=by
 obtain⟨F,δ,R,EX,rel,hw,k,o⟩:=h;refine⟨F,δ,_,EX,rel,hw,λitems hC J H1 rel1 kp1 ⟨ln,it⟩ p hp=>?_,o⟩;unfold QjR at hC;obtain⟨Iv,i0,step,fin⟩:=hC;have hpn:¬ZK σ δ p:=λz=>by obtain⟨xs,e⟩:=rel1.isl (Yq (F:=F) z);rw[hp] at e;cases e
 have hpa:¬Av F σ δ p:=λz=>by obtain⟨xs,e⟩:=rel1.isl z;rw[hp] at e;cases e
 refine QbP items.length (λi H2=>i<=items.length/\∃acc,Iv i acc/\Kp σ δ H1 H2/\H2 p=some (.dK (dkV acc))) ⟨Qw _,[],i0,Kp.same rel1 (Ji hp),Jl⟩ (λi H2 hi ⟨_,acc,iv,k2,e2⟩=>?_) λH2 ⟨_,acc,iv,k2,e2⟩=>?_
 ·obtain⟨go,_⟩:=it H2 (Av F σ δ) (λb o n e=>k2.1 b o n e) (λa z=>.inl z) (λa z=>(rel1.kp k2).isl z);have hd:items[i]? = some items[i]:=Ql hi;obtain⟨g1,g2⟩:=go i _ hd;refine⟨g1,λx H3 y kk hk=>?_⟩;obtain⟨s3,dx⟩:=g2 x H3 y;have k3:Kp σ δ H1 H3:=k2.trans (Kp.same (rel1.kp k2) s3);have e3:=s3 _ _ e2;refine QhV (A1:=Av F σ δ) hf rel1 (λa z=>z) (λa z=>.inl z) (λa z=>(rel1.kp k3).isl z) k3 dx (step i acc _ hd iv) (λσ4 δ4 H5 h5 r5 k5 pots=>?_) λh5 H5 k5=>hk _ ⟨hi,acc,h5,k3.trans k5,k5.1 _ _ hpn e3⟩
  have lift:∀{Ha Hb:Hp},Kp σ δ H1 Ha->Kp σ4 δ4 Ha Hb->Kp σ δ Ha Hb:=λ{Ha Hb} ka kb=>by
   refine⟨λb o n e=>kb.1 b o (λz=>n (pots b z)) e,λb hb=>?_⟩;by_cases z:ZK σ4 δ4 b
   ·exact kb.2 b z
   ·obtain⟨n,e⟩:=ka.2 b hb;exact⟨n,kb.1 _ _ z e⟩
  have k15:=k3.trans k5;refine⟨inF (Av F σ δ) cap σ δ H3,δ4,_,XF,r5,h5,λd he v H6 r6 kp6 dv=>?_,Qjf⟩;obtain⟨a,rfl,h6⟩:=he;cases(show DA _ H6 v (.int a) from dv);have k56:=lift k15 kp6;refine⟨inF (Av F σ δ) cap σ δ H3,δ4,_,XF,r6,h6,λd he v H7 r7 kp7 dv=>?_,Qjf⟩;obtain⟨b,rfl,hl,ne,h7⟩:=he;cases(show DA _ H7 v (.int b) from dv);have k67:=lift (k15.trans k56) kp7;have e7:H7 p=some (.dK (dkV acc)):=k67.1 _ _ hpn (k56.1 _ _ hpn (k5.1 _ _ hpn e3));have k17:Kp σ δ H1 H7:=(k15.trans k56).trans k67;refine⟨dkV acc,.inl a,rfl,e7,QL (by rw[dkV,Qg];exact hl) Qf6,hk _ ⟨hi,acc++[(a,b)],h7,⟨λc o n e=>?_,λc hc=>?_⟩,by rw[Qt6 ne];exact Jl⟩⟩
  ·rw[JO (λz=>by rw[z,hp] at e;cases e)];exact k17.1 c o n e
  ·rw[JO (λz=>hpn (by rw[<- z];exact hc))];exact k17.2 c hc
 ·obtain⟨_,st⟩:=it H2 (Av F σ δ) (λb o n e=>k2.1 b o n e) (λa z=>.inl z) (λa z=>(rel1.kp k2).isl z);exact⟨st,k _ (fin acc iv) (.ref p) H2 (rel1.kp k2) (kp1.trans k2) (.dct hpa e2 rfl)⟩
theorem Qyg{n:Nat}(h:n+60<cLine):n+1<cLine:=by omega
theorem Qyf{n:Nat}(h:n+60<cLine):n+2<cLine:=by omega
section
variable{X:Cx}{E:XK}
theorem QsM(M:List Str)(cap:List (Option Nat)){elt elv tg iter:QP}{ifs:List QP}{scope:Z5}{pos:Pos}{ix:List Nat}{wi:DI}{wg:DG}{wt:DT}{wk wv:DE}(hi:QI .P X E tg iter wi)(hb:∀cl ex s3 H3 C,QG ix (blk X M scope cl ex s3 H3 C) tg wg/\QTs (blk X M scope cl ex s3 H3 C) E0 ifs wt/\QE .D (blk X M scope cl ex s3 H3 C) E0 elt wk/\QE .D (blk X M scope cl ex s3 H3 C) E0 elv wv)(hc:X.calm=true:=by rfl)(ok:Qcr X.N X.env.scope M scope cap=true:=by rfl)(hf:QaR cap ix=true:=by rfl)(hs:∀x,foldedSetIterable iter X.env x=pure x:=by intro _;rfl):QE .D X E (.DictComp elt elv [⟨tg,iter,ifs,0⟩] scope pos) (dCompD cap wi wg wt wk wv):=
 ⟨PE.imp (QoA hc ok hi.h (λcl ex s3 H3 C=>⟨(hb cl ex s3 H3 C).1.h,(hb cl ex s3 H3 C).2.1.h,(hb cl ex s3 H3 C).2.2.1.h,(hb cl ex s3 H3 C).2.2.2.h⟩) hs) λσ H Q q=>QkF (E:=E) hf σ H Q q⟩
def QzI:R2:=λx y H Q=>∃a i kvs,x=.int i/\y=.ref a/\H a=some (.dK kvs)/\Q (.bl (QfG kvs (.inl i)).isSome) H
theorem Qv5(hu:X.A.units+1<cLine):OpR X (compareOp .In) QzI:=by
 intro pins s σ H x y v u Q I rx ry h;obtain⟨a,i,kvs,rfl,rfl,e,q⟩:=h;cases ry;exact QAJ hu I (DGet.k (k:=.inl i) e) rx λs' I'=>⟨.bl (QfG kvs (.inl i)).isSome,H,I',rfl,q⟩
def QAF:Qa->Qa->(Qa->Prop)->Prop
 |.int i,.dict ds,Q=>∃kvs,ds=dkD kvs/\Q (.bool (kvs.find? λp=>decide (p.1=i)).isSome)
 |_,_,_=>False
theorem Qm5:∀{a b:List (Int×Int)},dkD a=dkD b->a=b
 |[],[],_=>rfl
 |[],_::_,h=>by cases h
 |_::_,[],h=>by cases h
 |p::a,q::b,h=>by
  have h:=QnX (show(Qq p.1,Qq p.2)::dkD a=(Qq q.1,Qq q.2)::dkD b from h);have h1:=QuJ h.1;rw[Qm5 h.2,Qxq (QaS h1.1) (QaS h1.2)]
theorem DP.dict{A P:Addr->Prop}{H:Hp}{v:V}{kvs:List (Int×Int)}(h:DP A P H v (.dict (dkD kvs))):∃l,v=.ref l/\H l=some (.dK (dkV kvs)):=by
 rcases h with h | ⟨l,xs,ds',rfl,e,_⟩
 ·cases h with
  |dct n e q=>rw[Qm5 q];exact⟨_,rfl,e⟩
 ·cases e
theorem Qwi:OpD QzI QAF:=λA P H x y d1 d2 R Q ln dm hx hy h k=>by
 cases d1<;>cases d2<;>first | exact h.elim | skip
 obtain⟨kvs,rfl,hR⟩:=h;rw[hx.int];obtain⟨l,rfl,e⟩:=hy.dict;refine⟨l,_,_,rfl,rfl,e,k _ hR _ H (Same.refl H) ?_ Qad⟩;rw[QfF,QnK];exact .bl _
def QzG:R2:=λx y H Q=>∃a i kvs v,x=.ref a/\y=.int i/\H a=some (.dK kvs)/\QfG kvs (.inl i)=some v/\Q v H
theorem QyX(hu:X.A.units+2<cLine):IxR X QzG:=by
 intro value slice pins s σ H x y v u Q I rx ry h hs;obtain⟨a,i,kvs,z,rfl,rfl,e,hv,q⟩:=h;cases rx;have g:DGet H a (.int i) (some z):=by rw[<- hv];exact DGet.k (k:=.inl i) e
 have hT:=Qis I g;have h₂:wpAny (model X.prog X.w) X.A (getItem (.ref a) u) (EP X pins σ Q) X.xe s:=Qna (by omega) I g ry λw' s3 I3 rw'=>⟨z,H,I3,rw',q⟩
 unfold subscriptTail;refine wpAny_bind ?_
 rw[getitemInPython_of_ne hT.not_modules];refine wpAny_bind (wpAny_specialOf hT PySem.F.slot_dict_getitem.lookup ?_);have fin:wpAny (model X.prog X.w) X.A (subscripted slice false (.ref a) u) (λr s₃=>wpAny (model X.prog X.w) X.A (letTemporaryGo value (.ref a) r >>= λ_=>pure r) (EP X pins σ Q) X.xe s₃) X.xe s:=by
  rw[hs];exact wpAny_operating (wpAny_mono h₂ (λr s₃ h₃=>wpAny_bind (wpAny_letTemporaryGo (Qe h₃))) λ_ _ x=>x)
 first
  |exact Qe (wpAny_bind fin)
  |exact wpAny_bind (Qe (wpAny_bind fin))
  |exact wpAny_bind fin
def ixKD:Qa->Qa->(Qa->Prop)->Prop
 |.dict ds,.int i,Q=>∃kvs b,ds=dkD kvs/\((kvs.find? λp=>decide (p.1=i)).map (·.2))=some b/\Q (.int b)
 |_,_,_=>False
theorem Qwh:QrX QzG ixKD:=λA P H x y d1 d2 R Q ln dm hx hy h k=>by
 cases d1<;>cases d2<;>first | exact h.elim | skip
 obtain⟨kvs,b,rfl,hf,hR⟩:=h;rw[hy.int];obtain⟨l,rfl,e⟩:=hx.dict;refine⟨l,_,_,.int b,rfl,rfl,e,?_,k _ hR _ H (Same.refl H) (.int _)⟩;rw[QfF];obtain⟨p,hp,hb⟩:=JS.mp hf;rw[hp,<- hb];rfl
end
end Dl
namespace Rk
open L2 _root_.Rd Dl Rt
def oth(n:Nat)(o:List Nat):List Nat:=(QQ n).filter λx => !decide (x∈o)
end Rk
namespace HT
section
open PySem.SeqAt
open PySem.AutoSeq1 (wpAny_loadPart')
open PySem.MeetsSeq PySem.MeetsSeq2 PySem.MeetsSeq3
end
section
variable{prog:Qy}{w:Jg}{A:Q5}{E:Value->Shared->Prop}{s:Shared}
end
end HT
namespace L2
end L2
namespace Rk
open L2 _root_.Rd Dl Rt
end Rk
namespace Dl
open L2 _root_.Rd Rk Rt
end Dl
namespace Rk
open L2 _root_.Rd Dl Rt
end Rk
namespace Zt
def f5(M x:Nat):Nat:=(x*5+1) % M
def it5(M:Nat):Nat->Nat->Nat
 |0,x=>x
 |n+1,x=>it5 M n (f5 M x)
def Qz6(M:Nat):Nat->Nat->Nat->Nat
 |0,_,acc=>acc
 |n+1,x,acc=>Qz6 M n (f5 M x) (acc ||| 2^x)
def Qy8(M:Nat):Bool:=decide (Qz6 M M 0 0=2^M - 1)&&decide (it5 M M 0=0)
def stps(t:YR):Nat->Qa2->Qa2
 |0,p=>p
 |n+1,p=>stps t n (t.advance p)
structure Tab (t:YR):Prop where
 pw:t.place.toList.Pairwise (· < ·)
 le:∀x∈t.place.toList,x<=t.mask
 dm:t.dummies=#[]
 gd:Qy8 (t.mask+1)=true
 pl:t.plain=true
 od:t.mask % 2=1
structure PIn (t:YR) (p:Qa2):Prop where
 a:p.j+p.more<=t.mask
 b:p.i<=t.mask
theorem QgR{mask i:Nat}(h:i<=mask):i+(QnG mask i - i)<=mask:=by unfold QnG;split<;>omega
theorem PIn.adv{t:YR}{p:Qa2}(x:PIn t p):PIn t (t.advance p):=by
 unfold SetTable.advance;split
 ·exact⟨by show p.j+1+(p.more - 1)<=_;have:=x.a;omega,x.b⟩
 ·have:(SetTable.leap t.mask p.i p.perturb).1<=t.mask:=Qr7 (Nat.mod_lt _ (Nat.succ_pos _));exact⟨QgR this,this⟩
theorem PIn.stps{t:YR}:∀(n:Nat){p:Qa2},PIn t p->PIn t (stps t n p)
 |0,_,x=>x
 |n+1,_,x=>PIn.stps n x.adv
theorem PIn.start(t:YR)(h:Int):PIn t (t.probeStart h):=by
 have:SetTable.bits h % (t.mask+1)<=t.mask:=Qr7 (Nat.mod_lt _ (Nat.succ_pos _));exact⟨QgR this,this⟩
def Rch(t:YR)(j:Nat)(h:Int):Prop:=∃n,(stps t n (t.probeStart h)).j=j/\∀m,m<n->(stps t m (t.probeStart h)).j∈t.place.toList
structure Qzq (h:J5) (a:Addr) (es:Array (Int×Value)) (ep:Nat) (t:YR):Prop where
 at_:∃o,h.get? a=some o/\o.ExactSet/\o.data=.set es ep t
 ft:t.fits es.size=true
section
variable{prog:Qy}{w:Jg}{A:Q5}{E:Value->Shared->Prop}{s:Shared}
end
section
variable{prog:Qy}{w:Jg}{A:Q5}{E:Value->Shared->Prop}{s:Shared}
end
section
variable{prog:Qy}{w:Jg}{A:Q5}{E:Value->Shared->Prop}{s:Shared}
structure TS (prog:Qy) (w:Jg) (h:J5) (a:Addr) (es:Array (Int×Value)) (ep:Nat) (t:YR) (ps:List (List Int×Addr)):Prop where
 at_:Qzq h a es ep t
 tab:Tab t
 ent:es.toList=ps.map λp=>(tupleKeyHash (intKind prog w) p.1,JF p.2)
 key:∀p∈ps,IsTupleKey (intKind prog w) h p.1 p.2
 nd:(ps.map (·.1)).Nodup
 rch:∀(i j:Nat)(e:Int×Value),t.place[i]? = some j->es[i]? = some e->Rch t j e.1
 mks:t.mask=7∨t.mask=31∨t.mask=127∨t.mask=511∨t.mask=2047
 few:t.place.size*5<t.mask*3
variable{a:Addr}{es:Array (Int×Value)}{ep:Nat}{t:YR}{ps:List (List Int×Addr)}
theorem TS.size(x:TS prog w s.heap a es ep t ps):es.size=ps.length:=by rw[<- Qj,x.ent,Qg]
end
def Sm(m:Nat):List Nat:=(QQ 6).filter m.testBit
def tb(m:Nat)(led:Bool):YR:={ mask:=if 5<=(Sm m).length then 31 else 7,place:=(Sm m).toArray,dummies:=#[],finger:=0,led:=led,moves:=if 5<=(Sm m).length then 1 else 0,plain:=true }
def tp(m v:Nat)(led:Bool):YR:={ tb m led with place:=(Sm (m ||| 2^v)).toArray }
def EsOk(es:Array (Int×Value))(S:List Nat):Prop:=∃tks:List Tok,tks.length=S.length/\es.toList=Qx2 (λ(v:Nat)(tk:Tok)=>((v:Int),Qbx (v:Int) tk)) S tks
theorem EsOk.size{es:Array (Int×Value)}{S:List Nat}(h:EsOk es S):es.size=S.length:=by
 obtain⟨tks,hl,e⟩:=h;rw[<- Qj,e,QnM,hl,Qbq]
section
variable{prog:Qy}{w:Jg}{A:Q5}{E:Value->Shared->Prop}{s:Shared}
end
def bits(val:Nat->Nat):Nat->Nat
 |0=>0
 |i+1=>bits val i ||| 2^val i
section
variable{prog:Qy}{w:Jg}{A:Q5}{R:Qr4->Shared->Prop}{I:Addr}{fp wr:List Addr}{n:Nat}{P:Nat->Value->Prop}{St:Nat->J5->Prop}
end
section
variable{prog:Qy}{w:Jg}{A:Q5}{E:Value->Shared->Prop}{s:Shared}{a:Addr}{es:Array (Int×Value)}{ep:Nat}{t:YR}{ps:List (List Int×Addr)}
theorem TS.other(x:TS prog w s.heap a es ep t ps){ks:List Int}{b:Addr}(hk:IsTupleKey (intKind prog w) s.heap ks b):b≠a:=λe=>by
 subst e;obtain⟨o,ho,hex,hd⟩:=x.at_.at_;obtain⟨o',it,n,ho',hc,_⟩:=hk;rw[ho] at ho';cases ho';rw[hex.1] at hc;exact absurd hc (by decide)
end
section
variable{prog:Qy}{w:Jg}{A:Q5}{E:Value->Shared->Prop}{s:Shared}{a:Addr}{es:Array (Int×Value)}{ep:Nat}{t:YR}{ps:List (List Int×Addr)}
end
section
variable{prog:Qy}{w:Jg}{A:Q5}{E:Value->Shared->Prop}{s:Shared}
end
section
variable{prog:Qy}{w:Jg}{s:Shared}{a:Addr}{es:Array (Int×Value)}{ep:Nat}{t:YR}{ps:List (List Int×Addr)}
variable{A:Q5}{R:Qr4->Shared->Prop}{I:Addr}{fp wr:List Addr}{n:Nat}{P:Nat->Value->Prop}{St:Nat->J5->Prop}
end
section
variable{prog:Qy}{w:Jg}{A:Q5}{E:Value->Shared->Prop}{s:Shared}
end
section
variable{prog:Qy}{w:Jg}{A:Q5}{E:Value->Shared->Prop}{s:Shared}
end
end Zt
namespace Zt
open PySem.W PySem.Calls Rs
section
variable{prog:Qy}{w:Jg}{A:Q5}{E:Value->Shared->Prop}{s:Shared}
end
end Zt
namespace L2
open Zt
section
variable{X:Cx}
end
end L2
namespace Dl
open L2 _root_.Rd Rk Zt
section
variable{X:Cx}{E:XK}
end
end Dl
namespace L2
open PySem.Calls _root_.Rd _root_.Rk _root_.Rs Rt Dl
section
variable{X:Cx}
end
end L2
namespace Zt
section
variable{prog:Qy}{w:Jg}{A:Q5}{E:Value->Shared->Prop}{s:Shared}
end
end Zt
namespace Rk
open L2 _root_.Rd Dl Rt
end Rk
namespace L2
open Zt _root_.Rd _root_.Rk Dl Rt
section
variable{X:Cx}
end
end L2
namespace Dl
open L2 _root_.Rd Rk Zt Rt
section
variable{X:Cx}{E:XK}
end
end Dl
namespace Rk
open L2 _root_.Rd Dl Rt
mutual
theorem Qwf:∀(x y:Qa),okK x=true->okK y=true->QbV x y=.eq->x=y
 |.int i,.int j,_,_,h=>by
  have h:Qfr i j=.eq:=h;unfold Qfr at h;by_cases z:i<j
  ·rw[if_pos z] at h;cases h
  ·rw[if_neg z] at h;by_cases y:i=j
   ·rw[y]
   ·rw[if_neg y] at h;cases h
 |.int _,.tuple _,_,_,h=>by cases h
 |.tuple _,.int _,_,_,h=>by cases h
 |.tuple a,.tuple b,h1,h2,h=>by rw[QrA a b h1 h2 h]
 |.none,_,h,_,_=>by cases h
 |.bool _,_,h,_,_=>by cases h
 |.str _,_,h,_,_=>by cases h
 |.list _,_,h,_,_=>by cases h
 |.dict _,_,h,_,_=>by cases h
 |.int _,.none,_,h,_=>by cases h
 |.int _,.bool _,_,h,_=>by cases h
 |.int _,.str _,_,h,_=>by cases h
 |.int _,.list _,_,h,_=>by cases h
 |.int _,.dict _,_,h,_=>by cases h
 |.tuple _,.none,_,h,_=>by cases h
 |.tuple _,.bool _,_,h,_=>by cases h
 |.tuple _,.str _,_,h,_=>by cases h
 |.tuple _,.list _,_,h,_=>by cases h
 |.tuple _,.dict _,_,h,_=>by cases h
theorem QrA:∀(xs ys:List Qa),Qdk xs=true->Qdk ys=true->Qbn xs ys=.eq->xs=ys
 |[],[],_,_,_=>rfl
 |[],_::_,_,_,h=>by cases h
 |_::_,[],_,_,h=>by cases h
 |x::xs,y::ys,h1,h2,h=>by
  have h1:=Qs.mp (show(okK x&&Qdk xs)=true from h1);have h2:=Qs.mp (show(okK y&&Qdk ys)=true from h2);have h:thn (QbV x y) (Qbn xs ys)=.eq:=h;cases e:QbV x y with
  |eq=>rw[e] at h;rw[Qwf x y h1.1 h2.1 e,QrA xs ys h1.2 h2.2 h]
  |lt=>rw[e] at h;cases h
  |gt=>rw[e] at h;cases h
end
theorem QtD{x y:Qa}(h1:okK x=true)(h2:okK y=true)(a:ltD y x=false)(b:ltD x y=false):x=y:=by
 refine Qwf x y h1 h2 ?_
 rw[Qmx] at a;unfold ltD at b;cases e:QbV x y with
 |eq=>rfl
 |lt=>rw[e] at b;cases b
 |gt=>rw[e] at a;cases a
theorem QgL{es fs:List Qa}(p:es.Perm fs)(hk:∀d∈fs,okK d=true)(h1:es.Pairwise λa b=>ltD b a=false)(h2:fs.Pairwise λa b=>ltD b a=false):es=fs:=
 List.Perm.eq_of_pairwise (le:=λa b=>ltD b a=false) (λa b ha hb x y=>QtD (hk a (p.mem_iff.mp ha)) (hk b hb) x y) h1 h2 p
def QiS(n:Nat):List (Int×Int):=QcR n n λr c=>decide (c<r)
def QAm(n:Nat):Qa:=bdD n n (QiS n)
def Qcb(l:List Int):Qa:=.tuple (l.map Qq)
def QaH(L:List (List Int)):Qa:=.tuple (L.map Qcb)
def QnQ(L:List (Int×Int))(lots:List (List Int))(t:Int):List (List Int):=
 match L.find? λp=>decide (p.1=t) with
 |some p=>lots.map λl=>if l.getLast? = some p.2 then l++[t] else l
 |none=>lots++[[t]]
def ptN(L:List (Int×Int)):Nat->List (List Int)
 |0=>[]
 |k+1=>QnQ L (ptN L k) k
theorem Qro(L:List (Int×Int)):∀k,∀l∈ptN L k,l≠[]
 |0,l,h=>nomatch h
 |k+1,l,h=>by
  have ih:=Qro L k;have h:l∈QnQ L (ptN L k) k:=h;unfold QnQ at h;split at h
  ·obtain⟨m,hm,rfl⟩:=Qx.mp h;split
   ·simp
   ·exact ih m hm
  ·rcases Jo.mp h with h | h
   ·exact ih l h
   ·rw[Jh.mp h];simp
theorem QlM(L:List (Int×Int)):∀k,(ptN L k).length<=k/\∀l∈ptN L k,l.length<=k
 |0=>⟨Qi _,λl h=>nomatch h⟩
 |k+1=>by
  obtain⟨ih1,ih2⟩:=QlM L k;show(QnQ L (ptN L k) k).length<=k+1/\∀l∈QnQ L (ptN L k) k,l.length<=k+1
  unfold QnQ;split
  ·refine⟨by rw[Qg];omega,λl h=>?_⟩;obtain⟨m,hm,rfl⟩:=Qx.mp h;have:=ih2 m hm;split
   ·rw[Qu];show _+1<=_;omega
   ·omega
  ·refine⟨by rw[Qu];show _+1<=_;omega,λl h=>?_⟩;rcases Jo.mp h with h | h
   ·have:=ih2 l h;omega
   ·rw[Jh.mp h];show 1<=_;omega
theorem Qg4:∀l:List Int,Qdk (l.map Qq)=true
 |[]=>rfl
 |x::l=>by show(true&&Qdk (l.map Qq))=true;rw[Qg4 l];rfl
def QuB(x:List (List Int)):List (List (List Int))->List (List (List Int))
 |[]=>[x]
 |y::r=>if ltD (QaH y) (QaH x)=true then y::QuB x r else x::y::r
def QnP:List (List (List Int))->List (List (List Int))
 |[]=>[]
 |x::r=>QuB x (QnP r)
theorem Qet(x:List (List Int)):∀l,(QuB x l).Perm (x::l)
 |[]=>.refl _
 |y::r=>by
  show(if ltD (QaH y) (QaH x)=true then y::QuB x r else x::y::r).Perm _;split
  ·exact((Qet x r).cons y).trans (.swap x y r)
  ·exact .refl _
theorem Qa7:∀l,(QnP l).Perm l
 |[]=>.refl _
 |x::r=>(Qet x (QnP r)).trans ((Qa7 r).cons x)
theorem QmO(x:List (List Int)):∀l,((l.map QaH).Pairwise λa b=>ltD b a=false)->((QuB x l).map QaH).Pairwise λa b=>ltD b a=false
 |[],_=>Qb0 _ _
 |y::r,h=>by
  have h':=Yg.mp (show(QaH y::r.map QaH).Pairwise _ from h);show((if ltD (QaH y) (QaH x)=true then y::QuB x r else x::y::r).map QaH).Pairwise _;by_cases z:ltD (QaH y) (QaH x)=true
  ·rw[if_pos z];refine Yg.mpr ⟨λd hd=>?_,QmO x r h'.2⟩;have hd:=((Qet x r).map QaH).mem_iff.mp hd;rcases Qz.mp (show d∈QaH x::r.map QaH from hd) with e | e
   ·rw[e];exact Qjo _ _ z
   ·exact h'.1 d e
  ·rw[if_neg z];refine Yg.mpr ⟨λd hd=>?_,h⟩;have z:ltD (QaH y) (QaH x)=false:=by simpa using z
   rcases Qz.mp (show d∈QaH y::r.map QaH from hd) with e | e
   ·rw[e];exact z
   ·exact QrD _ _ _ z (h'.1 d e)
theorem Qh0:∀l,((QnP l).map QaH).Pairwise λa b=>ltD b a=false
 |[]=>.nil
 |x::r=>QmO x _ (Qh0 r)
def QgP(r:List Int)(bits:Nat)(b:Int):List Int:=(QQ r.length).filterMap λk=>if Jb ((bits:Int) / 2^k) 1=b then some (r.getD k 0) else none
def QcM(t:Int)(r:List Int)(go:List Int->List (List (List Int)))(bits:Nat):List (List (List Int)):=(go (QgP r bits 0)).map λmore=>(t::QgP r bits 1)::more
def ZI:Nat->List Int->List (List (List Int))
 |0,[]=>[[]]
 |_+1,[]=>[]
 |0,_::_=>[]
 |m+1,t::r=>QnP ((QQ (2^r.length)).flatMap (QcM t r (ZI m)))
def Qvb(l bits:Nat)(b:Int):Nat:=((QQ l).filter λk=>decide (Jb ((bits:Int) / 2^k) 1=b)).length
def QxB:Nat->Nat->Nat
 |0,0=>1
 |_+1,0=>0
 |0,_+1=>0
 |m+1,l+1=>((QQ (2^l)).map λbits=>QxB m (Qvb l bits 0)).sum
theorem Qiq{α β:Type}(p:α->Bool)(f:α->β):∀l:List α,(l.filterMap λk=>if p k=true then some (f k) else none).length=(l.filter p).length
 |[]=>rfl
 |x::l=>by
  rw[Y1];cases h:p x with
  |true=>rw[QiI h];simp[Qiq p f l]
  |false=>rw[QiJ (by rw[h];decide)];simp[Qiq p f l]
theorem QcH(r:List Int)(bits:Nat)(b:Int):(QgP r bits b).length=Qvb r.length bits b:=by
 unfold QgP Qvb;rw[<- Qiq (λk=>decide (Jb ((bits:Int) / 2^k) 1=b)) (λk=>r.getD k 0)]
 congr 1
 refine congrArg (λf=>QuN f _) (funext λk=>?_);by_cases z:Jb ((bits:Int) / 2^k) 1=b
 ·rw[if_pos z,if_pos (decide_eq_true z)]
 ·rw[if_neg z,if_neg (by simpa using z)]
theorem QfN(l bits:Nat)(b:Int):Qvb l bits b<=l:=by
 have:=Qaw (λk=>decide (Jb ((bits:Int) / 2^k) 1=b)) (QQ l);rw[Jd] at this;exact this
theorem Qe9:∀(m:Nat)(ts:List Int),(ZI m ts).length=QxB m ts.length
 |0,[]=>rfl
 |_+1,[]=>rfl
 |0,_::_=>rfl
 |m+1,t::r=>by
  show(QnP ((QQ (2^r.length)).flatMap (QcM t r (ZI m)))).length=((QQ (2^r.length)).map λbits=>QxB m (Qvb r.length bits 0)).sum;rw[(Qa7 _).length_eq,List.length_flatMap]
  congr 1
  refine ZC λbits _=>?_
  unfold QcM;rw[Qg,Qe9 m,QcH]
theorem Qo0:∀m l:Fin 7,QxB m.val l.val<=100:=by decide +kernel
theorem Qfa{m:Nat}{ts:List Int}(hm:m<=6)(ht:ts.length<=6):(ZI m ts).length<=100:=by
 rw[Qe9];exact Qo0 ⟨m,by omega⟩ ⟨ts.length,by omega⟩
def Qi0(n:Nat):List Int:=(QQ n).map λ(i:Nat)=>(i:Int)
def QvA(n k:Nat):List (List (List Int)):=(evS (QiS n) k).map λL=>ptN L n
theorem QpO:∀n m:Fin 7,(m.val == 0||decide (n.val<m.val)||((ZI m.val (Qi0 n.val)).isPerm (QvA n.val (n.val - m.val))))=true:=by decide +kernel
theorem Qmm(L:List (List Int)):okK (QaH L)=true:=by
 show Qdk (L.map Qcb)=true;induction L with
 |nil=>rfl
 |cons l L ih=>show(Qdk (l.map Qq)&&Qdk (L.map Qcb))=true;rw[Qg4,ih];rfl
theorem Qo1{n m:Nat}{es:List Qa}(hn:n<=6)(m1:1<=m)(hm:m<=n)(p:es.Perm ((QvA n (n - m)).map QaH))(pw:es.Pairwise λa b=>ltD b a=false):es=(ZI m (Qi0 n)).map QaH:=by
 have c:=QpO ⟨n,by omega⟩ ⟨m,by omega⟩;have c:(m == 0||decide (n<m)||((ZI m (Qi0 n)).isPerm (QvA n (n - m))))=true:=c;rw[show(m == 0)=false from by simp;omega,decide_eq_false (by omega),QiK,QiK] at c;refine QgL (p.trans ((List.isPerm_iff.mp c).symm.map QaH)) (λd hd=>?_) pw ?_
 ·obtain⟨L,_,rfl⟩:=Qx.mp hd;exact Qmm L
 ·cases m with
  |zero=>omega
  |succ m=>
   cases e:Qi0 n with
   |nil=>exact .nil
   |cons t r=>exact Qh0 _
theorem Qu5:∀n:Fin 7,decide ((QgH (QiS n.val) n.val).length<=200000)=true:=by decide +kernel
theorem Qu4:∀n k:Fin 7,decide (Wc (QiS n.val) n.val n.val 0 k.val<=300)=true:=by decide +kernel
end Rk
namespace L2
section
variable{X:Cx}{pins:List (Addr×Obj)}{σ:St}{H H3:Hp}{s3:Shared}{M:List Str}{scope:Z5}{cap:List (Option Nat)}{fp:List Addr}{h4:J5}{t4:Nat}
end
section
variable{X:Cx}{pins:List (Addr×Obj)}{σ:St}{H:Hp}
end
end L2
namespace Rk
open L2 _root_.Rd Dl
end Rk
namespace Dl
open L2
section
variable{X:Cx}{E:XK}
end
end Dl
namespace Rk
open L2 _root_.Rd
def top(i:Nat):ZZ:=PySem.Challenge.pw_rooklands_k83_partings_told.main.body.getD i (.Pass ⟨0,0,0,0⟩)
abbrev QeY:ZZ:=top 22
abbrev Qda:ZZ:=top 23
abbrev Qdb:ZZ:=top 24
abbrev Qe5:ZZ:=top 27
abbrev Qe2:ZZ:=top 28
abbrev Qe0:ZZ:=top 31
abbrev Qe6:ZZ:=top 32
abbrev Qdc:ZZ:=top 33
abbrev Qkf:ZZ:=top 34
abbrev Qa9:ZZ:=top 35
abbrev Qe4:ZZ:=top 36
abbrev Qe1:ZZ:=top 37
abbrev sFol:ZZ:=top 38
abbrev Qkd:ZZ:=top 39
abbrev Qkc:ZZ:=top 40
abbrev sRow:ZZ:=top 41
abbrev Qke:ZZ:=top 43
abbrev QeZ:ZZ:=top 44
abbrev sPOf:ZZ:=top 45
abbrev Qe3:ZZ:=top 46
abbrev Qdo:ZZ:=top 48
abbrev lPot:ZZ:=top 49
abbrev Qku:ZZ:=top 50
abbrev lNoT:ZZ:=top 51
abbrev Qkw:ZZ:=top 52
abbrev QdF:ZZ:=top 53
abbrev Qkv:ZZ:=top 54
abbrev Qkt:ZZ:=top 55
abbrev Qbk:ZZ:=top 56
abbrev sLaw:ZZ:=top 57
section
variable{P:Qy}{w:Jg}{K:PySem.W.Frag}{mg:Str->Option Value}{base:J5}
theorem Qoe:Jw ["_law_script", "_law_k"] ["_law_script", "_law_k"] (Qt Qdo):=⟨rfl,rfl,rfl,by decide +kernel,rfl,by decide +kernel,by decide +kernel⟩
theorem Qml{f:Addr}{fd:QN}(F:Fun K "_law_cell_at" "_law_cell_at" Qdo f fd)(T:GlbA mg):FnOk P w K mg base CX0 1 f fd ["_law_script", "_law_k"] (QcG K):=by
 refine F.ok Qoe (λvs H Q E h=>?_) (λcdv A outer s H vs Q E hr h=>?_)
 ·obtain⟨a,ns,k,rfl,_⟩:=h;rfl
 ·obtain⟨a,ns,n,rfl,hs,hl,h0,k⟩:=h;refine⟨_,Zq (Qh5 (Qcn QyQ (pv 1) (Zh Qae (by rfl) T.len QaY (JA (pv 0) JQ)) (Zu _)) (YY (QaG (QlW Qer (pv 0) (pv 1) (λ_ _=>rfl)))) Qco) (YY (QaG Yy)),?_⟩;refine⟨_,rfl,_,rfl,a,_,rfl,.inl hs,_,_,rfl,rfl,_,rfl,?_⟩;refine QzR (λhlt=>?_) (λ_=>k 0);have hlt':n<(ns.map V.int).length:=of_decide_eq_true hlt;rw[Qg] at hlt';obtain⟨j,rfl⟩:=Int.eq_ofNat_of_zero_le h0;have hj:j<ns.length:=by omega
  refine⟨_,rfl,_,rfl,a,_,_,.int ns[j],rfl,rfl,hs,ZY ?_,k _⟩;rw[QR,Ql hj];rfl
theorem Qkb:Jw ["_law_cell", "_law_number", "_law_j", "_law_more"] ["_law_cell"] (Qt lPot):=⟨rfl,rfl,rfl,by decide +kernel,rfl,by decide +kernel,by decide +kernel⟩
theorem Qwa{f:Addr}{fd:QN}(F:Fun K "_law_pot" "_law_pot" lPot f fd)(T:GlbA mg):FnOk P w K mg base CX0 1 f fd ["_law_cell"] Qu8:=by
 refine F.ok Qkb (λvs H Q E h=>?_) (λcdv A outer s H vs Q E hr h=>?_)
 ·obtain⟨c,rfl,_⟩:=h;rfl
 ·obtain⟨c,rfl,k⟩:=h;refine⟨_,Zq (Qh5 (Qcn Qv8 (pv 0) (Qas Qjh Yy Yy) (Zu _)) (YY (QaG (Qrx (JA (Qas Qfd (pv 0) (Qas Qjh Yy Yy)) JQ)))) Qco)
   (Zq (QaF (i:=1) Qkb.nd rfl (QV rfl) Yy)
   (Zq (Qrp J4 rfl (QgY (by rfl) T.range (JA Yy JQ)) (Qeg (i:=2) Qkb.nd rfl (QV rfl))
    (Zq (QaF (i:=3) Qkb.nd rfl (QV rfl) (Qas Qjj (Qas Qfe (Qas Qff (Qas Qff (Qas Qjj (pv 0) Yy) (Qas Qfe Yy (pv 2))) Yy) Yy) Yy))
    (Zq (QaF (i:=3) Qkb.nd rfl (QV rfl) (Qas Qjj (Qas Qff (Qas Qff (Qas Qfe (pv 3) (pv 3)) (Qas Qfe Yy (pv 2))) Yy) Yy))
    (YY (QaF (i:=1) Qkb.nd rfl (QV rfl) (Qas Qff (Qas Qfe (pv 1) Yy) (pv 3)))))))
   (YY (QaG (Qrx (JA (pv 1) JQ)))))),?_⟩
  refine⟨_,rfl,_,_,rfl,rfl,⟨by decide,by decide,by decide⟩,_,_,rfl,rfl,_,rfl,?_⟩;refine QzR (λ_=>?_) (λ_=>?_)
  ·exact⟨_,rfl,_,_,rfl,rfl,⟨by decide,by decide,by decide⟩,_,_,rfl,rfl,by show 1<=sizeLine;decide,λp hp=>k p _ hp⟩
  ·refine⟨64,rfl,by decide,by decide,QmS (n:=64) (λi σ H2=>∃n v u,σ=[some (.int c),some (.int n),v,u]/\H2=H) ⟨0,none,none,rfl,rfl⟩ ?_ ?_⟩
   ·rintro i σ H2 hi ⟨n,v,u,rfl,rfl⟩;have b1:=QjB ((c % 2147483629+7919*(0+(i:Int))+1)*48271) (m:=2147483647) (by decide);refine⟨_,rfl,_,_,rfl,rfl,by show(0:Int)<2147483629;decide,_,rfl,_,_,rfl,rfl,.inl ⟨by decide,by decide⟩,_,_,rfl,rfl,_,_,rfl,rfl,_,_,rfl,rfl,.inr ⟨by decide,by decide⟩,_,_,rfl,rfl,by show(0:Int)<2147483647;decide,?_⟩;refine⟨_,rfl,_,rfl,_,_,rfl,rfl,.inl ⟨by omega,by omega⟩,_,rfl,_,_,rfl,rfl,.inl ⟨by decide,by decide⟩,_,_,rfl,rfl,_,_,rfl,rfl,_,_,rfl,rfl,by show(0:Int)<2147483587;decide,?_⟩;exact⟨_,rfl,_,_,rfl,rfl,.inr ⟨by decide,by decide⟩,_,rfl,_,_,rfl,rfl,_,_,_,rfl,rfl⟩
   ·rintro σ H2 ⟨n,v,u,rfl,rfl⟩;exact⟨_,rfl,by show 1<=sizeLine;decide,λp hp=>k p _ hp⟩
theorem Qrg:Jw ["_law_pot_here", "_law_far", "_law_found"] ["_law_pot_here", "_law_far"] (Qt Qku):=⟨rfl,rfl,rfl,by decide +kernel,rfl,by decide +kernel,by decide +kernel⟩
theorem Qty{f:Addr}{fd:QN}(F:Fun K "_law_take" "_law_take" Qku f fd)(T:GlbA mg):FnOk P w K mg base CX0 1 f fd ["_law_pot_here", "_law_far"] QiU:=by
 refine F.ok Qrg (λvs H Q E h=>?_) (λcdv A outer s H vs Q E hr h=>?_)
 ·obtain⟨p,n,m,rfl,_⟩:=h;rfl
 ·obtain⟨p,n,m,rfl,hp,h0,h1,k⟩:=h;refine⟨_,Zq (QaF (i:=2) Qrg.nd rfl (QV rfl) (Qas Qjj (QlW Qer (pv 0) Yy (λ_ _=>rfl)) (pv 1)))
   (Zq (Qrq (Qas Qo4 (QlW Qer (pv 0) Yy (λ_ _=>rfl)) (pv 1)) (QvE (pv 0) Yy QiX))
   (YY (QaG (pv 2)))),?_⟩
  have b:=QjB n h0;exact⟨_,rfl,p,_,_,_,rfl,rfl,SqL.of hp,rfl,_,rfl,_,_,rfl,rfl,h0,_,rfl,p,_,_,_,rfl,rfl,SqL.of hp,rfl,_,rfl,_,_,rfl,rfl,⟨h0,h1⟩,_,rfl,p,_,_,_,rfl,rfl,hp,rfl,_,rfl,k _ _ b.1 b.2⟩
end
end Rk
namespace Rk
open L2 _root_.Rd
open Dl
open Rt
def Qsx(C:Addr):DF:=λargs R EX=>∃d,args=[.v d]/\(inW d 1 6=true->R .none)/\(inW d 1 6=false->EX C)
def Qpn:Qa->List Int
 |.tuple ds=>ds.map toI
 |_=>[]
def QyW:DF:=λargs R _=>args=[.pot]/\∀d,inW d 1 6=false->R d
def Qzy:Qa->List Qa
 |.int r=>(QhL 0 r.toNat).map λd=>match d with | .int c=>pairD (r,c) | _=>.none
 |_=>[]
theorem Qre:∀n:Nat,n<=6->(QhL 0 n).flatMap Qzy=(QiS n).map pairD
 |0,_=>rfl
 |1,_=>rfl
 |2,_=>rfl
 |3,_=>rfl
 |4,_=>rfl
 |5,_=>rfl
 |6,_=>rfl
theorem Qsm:∀n:Fin 7,(QiS n.val).length<=15:=by decide +kernel
def QiT(CN:Addr):DF:=λargs R EX=>∃a,args=[.v a]/\(inW a 1 6=false->EX CN)/\∀n:Nat,a=.int n->1<=n->n<=6->R (QAm n)
def QyE(CN CS:Addr):DF:=λargs R EX=>∃a d,args=[.v a,.v d]/\Qrf d/\(inW a 1 6=false->EX CN)/\(∀n:Nat,a=.int n->1<=n->n<=6->QmJ n n (QiS n) d=false->EX CS)/\∀(n:Nat) L,a=.int n->1<=n->n<=6->d=stT L->QmJ n n (QiS n) d=true->R (QaH (ptN L n))
theorem Qw8{items:List Qa}{wg:DG}{wk wv:DE}{δ:Sts}{Q:Qa->Prop}(G:Qa->Int×Int)(h:∀d∈items,∀(k:Int×Int->Prop),k (G d)->wg d δ λδ4=>wk δ4 (λx=>∃a,x=.int a/\wv δ4 (λv=>∃b,v=.int b/\k (a,b)) XF) XF)(nd:((items.map G).map (·.1)).Nodup)(hl:items.length<1000000)(q:Q (.dict (dkD (items.map G)))):QjR items wg QrP wk wv δ Q:=by
 unfold QjR;refine⟨λi acc=>acc=(items.take i).map G,by simp,λi acc d hd e=>?_,λacc e=>by rw[e,ZJ];exact q⟩;have hs:(items.take (i+1)).map G=(items.take i).map G++[G d]:=by rw[YC,hd,Jp];simp
 have e:acc=(items.take i).map G:=e;have hi:=(QY.mp hd).1;simp only[QrP,if_true];have hh:=h d (Q9 hd) (λp=>acc.length<1000000/\(∀q∈acc,q.1≠p.1)/\acc++[p]=(items.take (i+1)).map G) ⟨by rw[e,Qg,J8];omega,λq hq z=>?_,by rw[hs,e]⟩
 ·exact hh
 ·have ht:((items.take (i+1)).map G).Sublist (items.map G):=(Qp1 _ _).map G;have nd2:=(ht.map (·.1)).nodup nd;rw[hs,Jp,YD] at nd2;rw[e] at hq;exact nd2.2.2 q.1 (List.mem_map_of_mem hq) (G d).1 (by simp) z
theorem Qha(l:List Int):Qpn (Qcb l)=l:=Qn1 l
theorem QrF{l:List Int}{b:Int}(h:l≠[]):(l.getLast? = some b)↔l.getLastD 0=b:=by
 cases l with
 |nil=>exact absurd rfl h
 |cons x r=>rw[List.getLast?_cons,List.getLastD_cons];simp
theorem Qot{L:List (Int×Int)}{lots:List (List Int)}{t:Int}{p:Int×Int}(h:(L.find? λp=>decide (p.1=t))=some p):(lots.map Qcb).map (λd=>if(Qpn d).getLast? = some p.2 then Qcb (Qpn d++[t]) else d)=(QnQ L lots t).map Qcb:=by
 unfold QnQ;rw[h,Jr,Jr];refine ZC λl _=>?_
 show(if(Qpn (Qcb l)).getLast? = some p.2 then Qcb (Qpn (Qcb l)++[t]) else Qcb l)=Qcb (if l.getLast? = some p.2 then l++[t] else l);rw[Qha];split<;>rfl
section
variable{P:Qy}{w:Jg}{K:PySem.W.Frag}{mg:Str->Option Value}{base:J5}
theorem Qn7:Jw ["thing"] ["thing"] (Qt QeY):=⟨rfl,rfl,rfl,by decide +kernel,rfl,by decide +kernel,by decide +kernel⟩
theorem Qo5{f   : Addr}{fd  : QN}(F:Fun K "is_whole" "is_whole" QeY f fd)(T:GlbA mg) :
  FnOk P w K mg base CX0 1 f fd ["thing"] (Zj false QgC):=by
 refine okQ false F Qn7 (λargs R EX h=>?_) (λcdv A outer s H E hr=>?_)
 ·obtain⟨d,rfl,_⟩:=h;rfl
 ·have hU:=Room.u60 hr;have hI:=Room.i60 hr;refine⟨_,Jf (Qan (QfT (QZ (Qe7 .int (by rfl) T.isinstance (qp 0) (by rfl) T.int Qhr)) (QfS (Qvt (QZ (Qe7 .bool (by rfl) T.isinstance (qp 0) (by rfl) T.bool Qdv)))))),λargs R EX h=>?_⟩;obtain⟨d,rfl,hR⟩:=h;cases d<;>exact hR
theorem Qls:Jw ["_law_thing"] ["_law_thing"] (Qt QdF):=⟨rfl,rfl,rfl,by decide +kernel,rfl,by decide +kernel,by decide +kernel⟩
theorem Qmj{f   : Addr}{fd  : QN}(F:Fun K "_law_whole" "_law_whole" QdF f fd)(T:GlbA mg) :
  FnOk P w K mg base CX0 1 f fd ["_law_thing"] (Zj false QgC):=by
 refine okQ false F Qls (λargs R EX h=>?_) (λcdv A outer s H E hr=>?_)
 ·obtain⟨d,rfl,_⟩:=h;rfl
 ·have hU:=Room.u60 hr;have hI:=Room.i60 hr;refine⟨_,Jf (Qan (QfT (QZ (Qe7 .int (by rfl) T.isinstance (qp 0) (by rfl) T.int Qhr)) (QfS (Qvt (QZ (Qe7 .bool (by rfl) T.isinstance (qp 0) (by rfl) T.bool Qdv)))))),λargs R EX h=>?_⟩;obtain⟨d,rfl,hR⟩:=h;cases d<;>exact hR
theorem Qlp:Jw ["thing", "least", "most"] ["thing", "least", "most"] (Qt Qda):=⟨rfl,rfl,rfl,by decide +kernel,rfl,by decide +kernel,by decide +kernel⟩
theorem Qme{f f1  : Addr}{fd fd1:QN}(F:Fun K "is_whole_within" "is_whole_within" Qda f fd)(T:GlbA mg)
  (m1:mg "is_whole" = some (.ref f1))(G1:FnOk P w K mg base CX0 1 f1 fd1 ["thing"] (Zj false QgC))(b1:Binds K fd1 ["thing"] [])(k1:PySem.W.keepIn K (.ref f1)=true) :
  FnOk P w K mg base CX0 2 f fd ["thing", "least", "most"] (Zj false Qc8):=by
 refine okQ false F Qlp (λargs R EX h=>?_) (λcdv A outer s H E hr=>?_)
 ·obtain⟨d,a,b,rfl,_⟩:=h;rfl
 ·have hU:=Room.u60 hr;have hI:=Room.i60 hr;refine⟨_,Jf (Qan (QfT (Jm (Yp G1 (hr.mono (by decide)) (by rfl) m1 k1 b1 Yk (Yr (qv 0) Za))) (QfS (Zm (QAr Qv2 Qv2 (qp 1) (qp 0) (qp 2)))))),λargs R EX h=>?_⟩;obtain⟨d,a,b,rfl,hR⟩:=h;refine⟨d,rfl,?_⟩;cases d with
  |int i=>exact Qf7 (Qxf hR)
  |_=>exact hR
theorem Qfi:(["one", "other"]:List Str).Nodup:=by decide +kernel
theorem Qlr:Jw ["things"] ["things"] (Qt Qdb):=⟨rfl,rfl,rfl,by decide +kernel,rfl,by decide +kernel,by decide +kernel⟩
theorem Qmh{f   : Addr}{fd  : QN}(F:Fun K "is_rising" "is_rising" Qdb f fd)(T:GlbA mg) :
  FnOk P w K mg base CX0 1 f fd ["things"] (Zj false Qh3):=by
 refine okQ false F Qlr (λargs R EX h=>?_) (λcdv A outer s H E hr=>?_)
 ·obtain⟨ds,rfl | rfl,_⟩:=h<;>rfl
 ·have hU:=Room.u60 hr;have hI:=Room.i60 hr;refine⟨_,Jf (Qaj (ZX Qd5 (Qnk rfl) (by rfl) T.all QjP (Qcf (QZ (QaE ["one", "other"] [none,none] (QyA (QsH (by rfl) T.zip (qp 0) (QZ (QbM (qp 0) (QbJ (Jm JI)) QbK))) (QsI (by rfl) T.zip (qp 0) (QZ (QbM (qp 0) (QbJ (Jm JI)) QbK)))) (λcl ex s3 H3 C=>⟨(QdD rfl (ZW 0 (ZW 1 QdE Qfi rfl (QV rfl) (Q3 rfl)) Qfi rfl (QV rfl) (Q3 rfl))),Ya,(Zm (QgU (Qv1 hU) Qwg (qp 0) (qp 1) (Zu _)))⟩))) Jt))),λargs R EX h=>?_⟩;obtain⟨ds,h,hc,hR⟩:=h;have go:∀d∈Qj4 ds (Dl.cutD ds (some 1) none),∃a b,d=.tuple [a,b]/\(okK a=true/\okK b=true/\QhN a b=true/\a.depth<=20):=λd hd=>by
   obtain⟨i,hi⟩:=JM.mp hd;obtain⟨a,b,ha,hb,rfl⟩:=Dl.zip_get hi;have ma:=Q9 ha;have mb:=QpM (Q9 hb);exact⟨a,b,rfl,(hc a ma).1,(hc b mb).1,(hc a ma).2.2 b mb,(hc a ma).2.1⟩
  rcases h with rfl | rfl
  ·refine .inl (Qbt (λd=>.bool (Qwq d)) (λd hd k2 hk=>?_) (Qgl (items:=Qj4 ds (Dl.cutD ds (some 1) none)) rfl (by rw[Qea];exact hR)));obtain⟨a,b,rfl,q⟩:=go d hd;exact⟨rfl,q,hk⟩
  ·refine .inr (Qbt (λd=>.bool (Qwq d)) (λd hd k2 hk=>?_) (Qgl (items:=Qj4 ds (Dl.cutD ds (some 1) none)) rfl (by rw[Qea];exact hR)));obtain⟨a,b,rfl,q⟩:=go d hd;exact⟨rfl,q,hk⟩
theorem Qoa:Jw ["high", "wide", "thing"] ["high", "wide", "thing"] (Qt Qe2):=⟨rfl,rfl,rfl,by decide +kernel,rfl,by decide +kernel,by decide +kernel⟩
theorem Qo9{f f1  : Addr}{fd fd1:QN}(F:Fun K "is_place" "is_place" Qe2 f fd)(T:GlbA mg)
  (m1:mg "is_whole_within" = some (.ref f1))(G1:FnOk P w K mg base CX0 2 f1 fd1 ["thing", "least", "most"] (Zj false Qc8))(b1:Binds K fd1 ["thing", "least", "most"] [])(k1:PySem.W.keepIn K (.ref f1)=true) :
  FnOk P w K mg base CX0 3 f fd ["high", "wide", "thing"] (Zj false QlP):=by
 refine okQ false F Qoa (λargs R EX h=>?_) (λcdv A outer s H E hr=>?_)
 ·obtain⟨h,w,d,rfl,_⟩:=h;rfl
 ·have hU:=Room.u60 hr;have hI:=Room.i60 hr;refine⟨_,Q7 (Qcm (Qvs (Qol (QcJ (QdB (QZ (Qe7 .tuple (by rfl) T.isinstance (qp 2) (by rfl) T.tuple YF)))) (Qi5 (Y5 Qji (Qpd hU) (QZ (ZX Y0 QcS (by rfl) T.len QaY (Qcf (qp 2) Jt))) (Jm JI) (Zu _))))) (Jf (Qan QlJ)) YW)
   (Jf (Qan (QfT (Jm (Yp G1 (hr.mono (by decide)) (by rfl) m1 k1 b1 Yk (Yr (Qd1 Yb QaI (qp 2) (Jm JI) (λ_ _=>rfl)) (Yr JI (Yr (Zm (ZT Qfd QbO (qp 0) (Jm JI))) Za))))) (QfS (Yp G1 (hr.mono (by decide)) (by rfl) m1 k1 b1 Yk (Yr (Qd1 Yb QaI (qp 2) (Jm JI) (λ_ _=>rfl)) (Yr JI (Yr (Zm (ZT Qfd QbO (qp 1) (Jm JI))) Za)))))))),λargs R EX h=>?_⟩
  obtain⟨h,w,d,rfl,hR⟩:=h;cases d with
  |tuple ds=>
   match ds,hR with
   |[a,b],hR=>
    refine⟨a,rfl,_,_,_,rfl,?_⟩;refine Qgk hR λ_ hR=>?_
    exact⟨b,rfl,_,_,_,rfl,hR⟩
   |[],hR=>exact hR
   |[_],hR=>exact hR
   |a::b::c::r,hR=>
    exact hR
  |_=>exact hR
theorem Qmv:(["part", "high", "wide"]:List Str).Nodup:=by decide +kernel
theorem Qoc:Jw ["high", "wide", "thing"] ["high", "wide", "thing"] (Qt Qe5):=⟨rfl,rfl,rfl,by decide +kernel,rfl,by decide +kernel,by decide +kernel⟩
theorem Qpb{f f1 f2  : Addr}{fd fd1 fd2:QN}(F:Fun K "is_cells" "is_cells" Qe5 f fd)(T:GlbA mg)
  (m1:mg "is_place" = some (.ref f1))(G1:FnOk P w K mg base CX0 3 f1 fd1 ["high", "wide", "thing"] (Zj false QlP))(b1:Binds K fd1 ["high", "wide", "thing"] [])(k1:PySem.W.keepIn K (.ref f1)=true)
  (m2:mg "is_rising" = some (.ref f2))(G2:FnOk P w K mg base CX0 1 f2 fd2 ["things"] (Zj false Qh3))(b2:Binds K fd2 ["things"] [])(k2:PySem.W.keepIn K (.ref f2)=true) :
  FnOk P w K mg base CX0 4 f fd ["high", "wide", "thing"] (Zj false Qni):=by
 refine okQ false F Qoc (λargs R EX h=>?_) (λcdv A outer s H E hr=>?_)
 ·obtain⟨h,w,d,rfl,_⟩:=h;rfl
 ·have hU:=Room.u60 hr;have hI:=Room.i60 hr;refine⟨_,Q7 (Qcm (QcJ (QdB (QZ (Qe7 .tuple (by rfl) T.isinstance (qp 2) (by rfl) T.tuple YF)))) (Jf (Qan QlJ)) YW)
   (Jf (Qan (QfT (QZ (ZX Qd5 (Qnk rfl) (by rfl) T.all QjP (Qcf (QZ (QaE ["part", "high", "wide"] [none,some 0,some 1] (QdC (qp 2)) (λcl ex s3 H3 C=>⟨(Zc 0 Qmv rfl (QV rfl) (Q3 rfl)),Ya,(Yp G1 (hr.mono (by decide)) (by rfl) m1 k1 b1 Yk (Yr (qv 1) (Yr (qv 2) (Yr (qv 0) Za))))⟩))) Jt))) (QfS (Yp G2 (hr.mono (by decide)) (by rfl) m2 k2 b2 Yk (Yr (qv 2) Za)))))),λargs R EX h=>?_⟩
  obtain⟨h,w,d,rfl,hR⟩:=h;cases d with
  |tuple ds=>
   refine Qbt (λd=>.bool (Qio h w d)) (λd hd k2 hk=>⟨_,_,_,rfl,hk⟩) (Qgl (items:=ds) rfl ?_);refine Qgk hR λha hR=>?_
   obtain⟨L,rfl,_⟩:=QfW ha;exact⟨_,.inl rfl,Qhl L,hR⟩
  |_=>exact hR
theorem Qg8:(["row", "column"]:List Str).Nodup:=by decide +kernel
theorem Qg7:(["row", "column"]:List Str).Nodup:=by decide +kernel
theorem QfO:Jw ["cells", "rows", "columns"] ["cells"] (Qt Qe6):=⟨rfl,rfl,rfl,by decide +kernel,rfl,by decide +kernel,by decide +kernel⟩
theorem Qpc{f   : Addr}{fd  : QN}(F:Fun K "are_apart" "are_apart" Qe6 f fd)(T:GlbA mg) :
  FnOk P w K mg base CX0 1 f fd ["cells"] (Zj false Qny):=by
 refine okQ false F QfO (λargs R EX h=>?_) (λcdv A outer s H E hr=>?_)
 ·obtain⟨L,rfl,_⟩:=h;rfl
 ·have hU:=Room.u60 hr;have hI:=Room.i60 hr;refine⟨_,Q7 (QlH ["row", "column"] [none,none] 1 QfO.nd (QdC (qp 0)) (λcl ex s3 H3 C=>⟨(QdD rfl (ZW 0 (ZW 1 QdE Qg8 rfl (QV rfl) (Q3 rfl)) Qg8 rfl (QV rfl) (Q3 rfl))),Ya,(qv 0)⟩))
   (Q7 (QlH ["row", "column"] [none,none] 2 QfO.nd (QdC (qp 0)) (λcl ex s3 H3 C=>⟨(QdD rfl (ZW 0 (ZW 1 QdE Qg7 rfl (QV rfl) (Q3 rfl)) Qg7 rfl (QV rfl) (Q3 rfl))),Ya,(qv 1)⟩))
   (Jf (Qan (QfT (QZ (QgU Qao (Qcc hU) (QZ (Qi6 (by rfl) T.len (by rfl) T.set (qp 1))) (QZ (ZX Y0 QcS (by rfl) T.len QaY (Qcf (qp 1) Jt))) (Zu _))) (QfS (Zm (QgU Qao (Qcc hU) (QZ (Qi6 (by rfl) T.len (by rfl) T.set (qp 2))) (QZ (ZX Y0 QcS (by rfl) T.len QaY (Qcf (qp 2) Jt))) (Zu _)))))))),λargs R EX h=>?_⟩
  obtain⟨L,rfl,hl,hR⟩:=h;have e1:(L.map pairD).map (λd=>Qq (toP d).1)=(L.map (λp=>p.1)).map Qq:=by rw[Jr,Jr];rfl
  have e2:(L.map pairD).map (λd=>Qq (toP d).2)=(L.map (λp=>p.2)).map Qq:=by rw[Jr,Jr];rfl
  refine Qbt (λd=>.int (toP d).1) (λd hd k2 hk=>?_) ?_
  ·obtain⟨p,_,rfl⟩:=Qx.mp hd;exact⟨rfl,hk⟩
  ·refine Qbt (λd=>.int (toP d).2) (λd hd k2 hk=>?_) ?_
   ·obtain⟨p,_,rfl⟩:=Qx.mp hd;exact⟨rfl,hk⟩
   ·rw[e1,e2];refine⟨_,Qfs _,by rw[Qg];exact hl,?_⟩;have c1:∀ns:List Int,decide (((ddI ns).length:Int)=(((ns.map Qq).length:Nat):Int))=decide ns.Nodup:=λns=>by
     rw[Qg];refine decide_eq_decide.mpr ⟨λz=>(QjC ns).mp (by omega),λz=>by have:=(QjC ns).mpr z;omega⟩
    show if decide _=true then _ else _
    rw[c1];refine Qgk hR λ_ hR=>?_
    refine⟨_,Qfs _,by rw[Qg];exact hl,?_⟩;show R (.bool (decide _));rw[c1];exact hR
theorem Qms:(["cell", "cells"]:List Str).Nodup:=by decide +kernel
theorem QdZ:Jw ["board", "thing", "high", "wide", "cells"] ["board", "thing"] (Qt Qe0):=⟨rfl,rfl,rfl,by decide +kernel,rfl,by decide +kernel,by decide +kernel⟩
theorem Qo7{f f1 f2  : Addr}{fd fd1 fd2:QN}(F:Fun K "is_stand" "is_stand" Qe0 f fd)(T:GlbA mg)
  (m1:mg "is_cells" = some (.ref f1))(G1:FnOk P w K mg base CX0 4 f1 fd1 ["high", "wide", "thing"] (Zj false Qni))(b1:Binds K fd1 ["high", "wide", "thing"] [])(k1:PySem.W.keepIn K (.ref f1)=true)
  (m2:mg "are_apart" = some (.ref f2))(G2:FnOk P w K mg base CX0 1 f2 fd2 ["cells"] (Zj false Qny))(b2:Binds K fd2 ["cells"] [])(k2:PySem.W.keepIn K (.ref f2)=true) :
  FnOk P w K mg base CX0 5 f fd ["board", "thing"] (Zj false Qll):=by
 refine okQ false F QdZ (λargs R EX h=>?_) (λcdv A outer s H E hr=>?_)
 ·obtain⟨h,w,cs,d,rfl,_⟩:=h;rfl
 ·have hU:=Room.u60 hr;have hI:=Room.i60 hr;refine⟨_,Q7 (Qrk (qv 0) (QdD rfl (ZW 2 (ZW 3 (ZW 4 QdE QdZ.nd rfl (by first | exact QV rfl | exact Q3 rfl)) QdZ.nd rfl (by first | exact QV rfl | exact Q3 rfl)) QdZ.nd rfl (by first | exact QV rfl | exact Q3 rfl))))
   (Q7 (Qcm (QcJ (QdB (Jm (Yp G1 (hr.mono (by decide)) (by rfl) m1 k1 b1 Yk (Yr (qv 2) (Yr (qv 3) (Yr (qv 1) Za))))))) (Jf (Qan QlJ)) YW)
   (Jf (Qan (QfT (QZ (ZX Qd5 (Qnk rfl) (by rfl) T.all QjP (Qcf (QZ (QaE ["cell", "cells"] [none,some 4] (QdC (qp 1)) (λcl ex s3 H3 C=>⟨(Zc 0 Qms rfl (QV rfl) (Q3 rfl)),Ya,(Zm (QgU Qv7 (Qwj hI) (qp 0) (qp 1) (by rfl)))⟩))) Jt))) (QfS (Yp G2 (hr.mono (by decide)) (by rfl) m2 k2 b2 Yk (Yr (qv 1) Za))))))),λargs R EX h=>?_⟩
  obtain⟨h,w,cs,d,rfl,hs,hR⟩:=h;refine⟨rfl,_,_,_,rfl,?_⟩;cases d with
  |tuple ds=>
   show if(!(ds.all (Qio h w)&&Qca ds))=true then _ else _
   cases hc:(ds.all (Qio h w)&&Qca ds) with
   |false=>
    rw[show QmJ h w cs (.tuple ds)=false by show((ds.all (Qio h w)&&Qca ds)&&_)=false;rw[hc];rfl] at hR;exact hR
   |true=>
    rw[show QmJ h w cs (.tuple ds)=(ds.all (inC cs)&&apB (ds.map toP)) by show((ds.all (Qio h w)&&Qca ds)&&_)=_;rw[hc];rfl] at hR;obtain⟨L,rfl,hL⟩:=QfW (Qs.mp hc).1;have hl:=hs _ rfl;rw[Qg] at hl;refine Qbt (λd=>.bool (inC cs d)) (λd hd k2 hk=>?_) (Qgl (items:=L.map pairD) rfl ?_)
    ·obtain⟨p,_,rfl⟩:=Qx.mp hd;exact⟨⟨Qmr cs,rfl,by have:=QkE p;omega⟩,hk⟩
    ·rw[Qbb] at hR;refine Qgk hR λ_ hR=>⟨L,rfl,by omega,hR⟩
  |_=>exact hR
theorem Qsr:Jw ["n"] ["n"] (Qt Qke):=⟨rfl,rfl,rfl,by decide +kernel,rfl,by decide +kernel,by decide +kernel⟩
theorem QtA{f f1 CS:Addr}{fd fd1:QN}(hA:∃t,mg "MOST_LINES" = some (.int 6 t))(F:Fun K "refuse_no_number" "refuse_no_number" Qke f fd)(T:GlbA mg)
  (m1:mg "is_whole_within" = some (.ref f1))(G1:FnOk P w K mg base CX0 2 f1 fd1 ["thing", "least", "most"] (Zj false Qc8))(b1:Binds K fd1 ["thing", "least", "most"] [])(k1:PySem.W.keepIn K (.ref f1)=true)
  (mCS:mg "NoNumber" = some (.ref CS))(qCS:PySem.W.excIn K CS Rx.mroV "ValueError.__new__" = true) :
  FnOk P w K mg base (Rx.CXE P w) 3 f fd ["n"] (Zj false (Qsx CS)):=by
 refine QuA false F Qsr (λargs R EX h=>?_) (λcdv A outer s H E hr=>?_)
 ·obtain⟨d,rfl,_⟩:=h;rfl
 ·obtain⟨tA,mA⟩:=hA;have hU:=Room.u60 hr;have hI:=Room.i60 hr;refine⟨_,Jf (Qcm (QcJ (QdB (Jm (Yp G1 (hr.mono (by decide)) (by rfl) m1 k1 b1 Yk (Yr (qv 0) (Yr JI (Yr (Qrm 6 (by rfl) mA ⟨_,rfl⟩) Za))))))) (Jf (QcK (λ_ _ h=>h) mCS qCS (Jm QeN))) YW),λargs R EX h=>?_⟩;obtain⟨d,rfl,hR,hX⟩:=h;refine⟨_,_,_,rfl,?_⟩;cases ha:inW d 1 6 with
  |false=>exact hX ha
  |true=>exact hR ha
theorem Qvc:Jw ["_law_pot_here"] ["_law_pot_here"] (Qt lNoT):=⟨rfl,rfl,rfl,by decide +kernel,rfl,by decide +kernel,by decide +kernel⟩
theorem Qwc{f f1  : Addr}{fd fd1:QN}(F:Fun K "_law_no_things" "_law_no_things" lNoT f fd)(T:GlbA mg)
  (m1:mg "_law_take" = some (.ref f1))(G1:FnOk P w K mg base CX0 1 f1 fd1 ["_law_pot_here", "_law_far"] (Zj true Qn2))(b1:Binds K fd1 ["_law_pot_here", "_law_far"] [])(k1:PySem.W.keepIn K (.ref f1)=true) :
  FnOk P w K mg base CX0 2 f fd ["_law_pot_here"] (Zj false QyW):=by
 refine okQ false F Qvc (λargs R EX h=>?_) (λcdv A outer s H E hr=>?_)
 ·obtain⟨rfl,_⟩:=h;rfl
 ·have hU:=Room.u60 hr;have hI:=Room.i60 hr;refine⟨_,Jf (Qan (Qd1 Yb QaI (QZ (QcL (Qa1 JI (Qa1 JI (Qa1 (Zm (QlI (Jm JI))) (Qa1 (Zm (ZT Qjh Qel (Jm JI) (Jm JI))) (Qa1 QlJ (Qa1 QlJ (Qa1 Qvu (Qa1 QeN (Qa1 (Zm (QbB (Qa1 JI Jt))) (Qa1 (Zm (QcL (Qa1 JI Jt))) Jt)))))))))))) (QZ (Ys G1 (hr.mono (by decide)) (by rfl) m1 k1 b1 Yk (QgT 0 (Yr JI Za)))) (λ_ _=>rfl))),λargs R EX h=>?_⟩;obtain⟨rfl,hR⟩:=h;refine⟨⟨by decide,by decide,by decide⟩,_,rfl,by decide,by decide,λr r0 r1=>Qwz r0 r1 λd hd=>hR d ?_⟩;exact Zy (p:=λd=>inW d 1 6=false) rfl (Zy (rfl) (Zy (rfl) (Zy (by decide +kernel) (Zy (rfl) (Zy (rfl) (Zy (rfl) (Zy (rfl) (Zy (rfl) (Zy (rfl) (Qnz)))))))))) d hd
theorem Qg6:(["row", "column"]:List Str).Nodup:=by decide +kernel
theorem Qn8:Jw ["n"] ["n"] (Qt QeZ):=⟨rfl,rfl,rfl,by decide +kernel,rfl,by decide +kernel,by decide +kernel⟩
theorem Qo6{f f1  : Addr}{fd fd1:QN}{CN:Addr}(F:Fun K "steps" "steps" QeZ f fd)(T:GlbA mg)
  (m1:mg "refuse_no_number" = some (.ref f1))(G1:FnOk P w K mg base (Rx.CXE P w) 3 f1 fd1 ["n"] (Zj false (Qsx CN)))(b1:Binds K fd1 ["n"] [])(k1:PySem.W.keepIn K (.ref f1)=true) :
  FnOk P w K mg base (Rx.CXE P w) 4 f fd ["n"] (Zj false (QiT CN)):=by
 refine QuA false F Qn8 (λargs R EX h=>?_) (λcdv A outer s H E hr=>?_)
 ·obtain⟨a,rfl,_⟩:=h;rfl
 ·have hU:=Room.u60 hr;have hI:=Room.i60 hr;refine⟨_,Q7 (QlF (Jm (Yp G1 (hr.mono (by decide)) (by rfl) m1 k1 b1 (Rx.Ql8 (E:=E) (λ_ _ h=>h) rfl rfl rfl) (Yr (qv 0) Za))))
   (Jf (Qaj (QbB (Qa1 (qv 0) (Qa1 (qv 0) (Qa1 (Zm (Qar ZV Qb5 (by rfl) T.tuple YF (Qcf (QZ (QsN ["row", "column"] [none,none] (Qjv 0) (YX (by rfl) T.range (qp 0)) (λcl ex s3 H3 C=>⟨(Zc 0 Qg6 rfl (QV rfl) (Q3 rfl)),Ya,(YX (by rfl) T.range (qp 0)),(Zc 1 Qg6 rfl (QV rfl) (Q3 rfl)),Ya,(Zm (QbB (Qa1 (qv 0) (Qa1 (qv 1) Jt))))⟩))) Jt))) Jt)))))),λargs R EX h=>?_⟩
  obtain⟨a,rfl,hX,hR⟩:=h;refine⟨_,rfl,λha=>?_,hX⟩;obtain⟨m,rfl,n1,n6⟩:=QkB ha;obtain⟨n,rfl⟩:∃n:Nat,m=n:=⟨m.toNat,by omega⟩
  have hR:=hR n rfl (by omega) (by omega);have hl:=Qsm ⟨n,by omega⟩;refine⟨⟨by omega,by omega⟩,Qnf Qzy 15 (by rw[QK,Qre n (by omega),Qg];exact hl) (λd hd acc N hb hN=>?_) ?_⟩
  ·obtain⟨i,hi⟩:=JM.mp hd;obtain⟨hi,rfl⟩:=QbH hi;refine⟨⟨by omega,by omega⟩,QrJ (λd=>match d with | .int c=>pairD (0+(i:Int),c) | _=>.none) ?_ (λd hd k2 hk=>?_) hN⟩
   ·have hb:acc.length+((QhL 0 (0+(i:Int)).toNat).map λd=>match d with | .int c=>pairD (0+(i:Int),c) | _=>.none).length<=15:=hb;rw[Qg] at hb;exact Yn hb (by decide)
   ·obtain⟨c,hc⟩:=JM.mp hd;obtain⟨hc,rfl⟩:=QbH hc;exact hk
  ·rw[QK,Qre n (by omega)];exact hR
theorem Qmt:(["row", "column"]:List Str).Nodup:=by decide +kernel
theorem QtH:(["lot", "ahead", "thing"]:List Str).Nodup:=by decide +kernel
theorem QgQ:Jw ["n", "stand", "ahead", "lots", "thing"] ["n", "stand"] (Qt sPOf):=⟨rfl,rfl,rfl,by decide +kernel,rfl,by decide +kernel,by decide +kernel⟩
theorem Qwb{f f1 f2 CS:Addr}{fd fd1 fd2:QN}{CN:Addr}(F:Fun K "parting_of" "parting_of" sPOf f fd)(T:GlbA mg)
  (m1:mg "steps" = some (.ref f1))(G1:FnOk P w K mg base (Rx.CXE P w) 4 f1 fd1 ["n"] (Zj false (QiT CN)))(b1:Binds K fd1 ["n"] [])(k1:PySem.W.keepIn K (.ref f1)=true)
  (m2:mg "is_stand" = some (.ref f2))(G2:FnOk P w K mg base CX0 5 f2 fd2 ["board", "thing"] (Zj false Qll))(b2:Binds K fd2 ["board", "thing"] [])(k2:PySem.W.keepIn K (.ref f2)=true)
  (mCS:mg "NoStand" = some (.ref CS))(qCS:PySem.W.excIn K CS Rx.mroV "ValueError.__new__" = true) :
  FnOk P w K mg base (Rx.CXE P w) 6 f fd ["n", "stand"] (Zj false (QyE CN CS)):=by
 refine QuA false F QgQ (λargs R EX h=>?_) (λcdv A outer s H E hr=>?_)
 ·obtain⟨a,d,rfl,_⟩:=h;rfl
 ·have hU:=Room.u60 hr;have hI:=Room.i60 hr;refine⟨_,Q7 (Qcm (QcJ (QdB (Jm (Yp G2 (hr.mono (by decide)) (by rfl) m2 k2 b2 Yk (Yr (Yp G1 (hr.mono (by decide)) (by rfl) m1 k1 b1 (Rx.Ql8 (E:=E) (λ_ _ h=>h) rfl rfl rfl) (Yr (qv 0) Za)) (Yr (qv 1) Za)))))) (Jf (QcK (λ_ _ h=>h) mCS qCS (Jm QeN))) YW)
   (Q7 (QaD 2 (QsM ["row", "column"] [none,none] (QdC (qp 1)) (λcl ex s3 H3 C=>⟨(QdD rfl (ZW 0 (ZW 1 QdE Qmt rfl (QV rfl) (Q3 rfl)) Qmt rfl (QV rfl) (Q3 rfl))),Ya,(qv 0),(qv 1)⟩)) QgQ.nd)
   (Q7 (Qcl 3 (QcL Jt) QgQ.nd)
   (Q7 (Qvq (QbI J4 rfl (YX (by rfl) T.range (qp 0)) (Zc 4 QgQ.nd rfl (by first | exact QV rfl | exact Q3 rfl))
    (Jf (Qcm (Y5 (Qv5 (Qyg hU)) Qwi (qp 4) (qp 2) (by rfl)) (Jf (Qom ["lot", "ahead", "thing"] [none,some 2,some 4] 3 QgQ.nd (QbL (qp 3)) (λcl ex s3 H3 C=>⟨(Zc 0 QtH rfl (QV rfl) (Q3 rfl)),Ya,(Qvw (Y5 Qao (Qcc hU) (Jm (Qd1 Yb QaI (qp 0) (QZ (QlI (Jm JI))) (λ_ _=>rfl))) (Jm (Qd1 (QyX (Qyf hU)) Qwh (qp 1) (qp 2) (λ_ _=>rfl))) (Zu _)) (Zm (ZT Y7 Qbc (qp 0) (QZ (QbB (Qa1 (qv 2) Jt))))) (qv 0))⟩))) (Jf (Qrl 3 (Zm (QbB (Qa1 (qv 4) Jt)))))))))
   (Jf (Qaj (Qar ZV Qb5 (by rfl) T.tuple YF (Qcf (qp 3) Jt))))))),λargs R EX h=>?_⟩
  obtain⟨a,d,rfl,hs,hN,hS,hR⟩:=h;refine⟨_,rfl,hN,λn ea n1 n6=>?_⟩;subst ea;refine⟨_,_,_,_,rfl,hs,?_⟩;show if(!QmJ n n (QiS n) d)=true then _ else _
  cases hb:QmJ n n (QiS n) d with
  |false=>exact hS n rfl n1 n6 hb
  |true=>
   obtain⟨L,rfl,hL⟩:=Qu7 hb;have hR:=hR n L rfl n1 n6 rfl hb;refine Qw8 toP (λd hd k hk=>?_) ?_ ?_ ?_
   ·obtain⟨p,_,rfl⟩:=Qx.mp hd;exact⟨rfl,_,rfl,_,rfl,hk⟩
   ·rw[Qbb];exact Qak.mpr (hL.rows.imp λ{a b}(z:a.1<b.1)=>by show a.1≠b.1;omega)
   ·have:=hs _ rfl;omega
   rw[Qbb];refine⟨⟨by omega,by omega⟩,Qev (λi δ=>∃x4,δ=[.v (.int n),.v (stT L),.v (.dict (dkD L)),.own ((ptN L i).map Qcb),x4]) ⟨_,rfl⟩ ?_ ?_⟩
   ·rintro i δ hi ⟨x4,rfl⟩;rw[QK] at hi;obtain⟨pl1,pl2⟩:=QlM L i;have ne:=Qro L i;refine⟨L,rfl,?_⟩;show if(L.find? λp=>decide (p.1=0+(i:Int))).isSome=true then _ else _
    rw[show(0:Int)+(i:Int)=(i:Int) by omega];cases hf:L.find? λp=>decide (p.1=(i:Int)) with
    |some p=>
     refine Qf7 (Qbt (λd=>if(Qpn d).getLast? = some p.2 then Qcb (Qpn d++[(i:Int)]) else d) (λd hd k2 hk=>?_) ⟨.v (.int (i:Int)),?_⟩)
     ·obtain⟨l,hl,rfl⟩:=Qx.mp hd;have l1:=pl2 l hl;have hk:k2 (if(Qpn (Qcb l)).getLast? = some p.2 then Qcb (Qpn (Qcb l)++[(i:Int)]) else Qcb l):=hk;rw[Qha] at hk;refine⟨_,QtQ (List.length_pos_iff.mpr (ne l hl)),L,p.2,rfl,by rw[hf];rfl,?_⟩;show if decide (l.getLastD 0=p.2)=true then _ else _
      by_cases z:l.getLastD 0=p.2
      ·rw[if_pos ((QrF (ne l hl)).mpr z)] at hk;rw[if_pos (decide_eq_true z)];refine⟨by rw[Qg];show _+1<=_;omega,?_⟩;rw[show l.map Qq++[Qq (i:Int)]=(l++[(i:Int)]).map Qq by rw[Jp];rfl];exact hk
      ·rw[if_neg (λe=>z ((QrF (ne l hl)).mp e))] at hk;rw[if_neg (by simpa using z)];exact hk
     ·rw[Qot hf];rfl
    |none=>
     refine Qin ⟨by rw[Qg];omega,.v (.int (i:Int)),?_⟩;have e:ptN L (i+1)=ptN L i++[[(i:Int)]]:=by
      show QnQ L (ptN L i) i=_;unfold QnQ;rw[hf]
     rw[e,Jp];rfl
   ·rintro δ ⟨x4,rfl⟩;rw[QK];exact hR
theorem Qss:Jw ["board"] ["board"] (Qt Qkf):=⟨rfl,rfl,rfl,by decide +kernel,rfl,by decide +kernel,by decide +kernel⟩
theorem QtB{f   : Addr}{fd  : QN}(F:Fun K "most_size" "most_size" Qkf f fd)(T:GlbA mg) :
  FnOk P w K mg base CX0 1 f fd ["board"] (Zj false Qpl):=by
 refine okQ false F Qss (λargs R EX h=>?_) (λcdv A outer s H E hr=>?_)
 ·obtain⟨h,w,cs,rfl,_⟩:=h;rfl
 ·have hU:=Room.u60 hr;have hI:=Room.i60 hr;refine⟨_,Jf (Qaj (ZX (Qhn rfl) QpP (by rfl) T.min QrU (Qcf (Jm (Qd1 Yb QaI (qp 0) (Jm JI) (λ_ _=>rfl))) (Qcf (Jm (Qd1 Yb QaI (qp 0) (Jm JI) (λ_ _=>rfl))) Jt)))),λargs R EX h=>?_⟩;obtain⟨h,w,cs,rfl,hR⟩:=h;exact⟨_,ZY (j:=0) rfl,_,ZY (j:=1) rfl,QtL (by split<;>omega) hR⟩
theorem Qc9:Jw ["below", "columns", "taken", "ways", "column", "bit", "size", "many"] ["below", "columns", "taken"] (Qt sRow):=⟨rfl,rfl,rfl,by decide +kernel,rfl,by decide +kernel,by decide +kernel⟩
theorem Qtv{f   : Addr}{fd  : QN}(F:Fun K "ways_with_row" "ways_with_row" sRow f fd)(T:GlbA mg) :
  FnOk P w K mg base CX0 1 f fd ["below", "columns", "taken"] (Zj true Qsd):=by
 refine okQ true F Qc9 (λargs R EX h=>?_) (λcdv A outer s H E hr=>?_)
 ·obtain⟨h,w,B,cols,t,rfl,_⟩:=h;rfl
 ·have hU:=Room.u60 hr;have hI:=Room.i60 hr;refine⟨_,Q7 (Qcl 3 (Qar Qgg Quk (by rfl) T.list Qgh (Qcf (Jm (Qd1 Yb QaI (qp 0) (qp 2) (λ_ _=>rfl))) Jt)) Qc9.nd)
   (Q7 (QbI J4 rfl (QbL (qv 1)) (Zc 4 Qc9.nd rfl (by first | exact QV rfl | exact Q3 rfl))
    (Q7 (QaD 5 (Zm (ZT Qg2 Qel (Jm JI) (qp 4))) Qc9.nd)
   (Jf (Qcm (QcJ (Qri (QZ (ZT Qg3 QbO (qp 2) (qp 5))))) (Jf (QbI J4 rfl (Qon (by rfl) T.enumerate (Zm (QbM (Jm (Qd1 Yb QaI (qp 0) (QZ (ZT QyP QbO (qp 2) (qp 5))) (λ_ _=>rfl))) QbK (QbJ (QZ (QlI (Jm JI))))))) (QdD rfl (ZW 6 (ZW 7 QdE Qc9.nd rfl (by first | exact QV rfl | exact Q3 rfl)) Qc9.nd rfl (by first | exact QV rfl | exact Q3 rfl)))
    (Jf (QsG 3 QwF QtF (QZ (ZT Y7 Qbc (qp 6) (Jm JI))) (qp 7))))) YW))))
   (Jf (Qh4 3))),λargs R EX h=>?_⟩
  obtain⟨h,w,B,cols,t,rfl,ht,hc,h6,w6,hR⟩:=h;refine⟨_,ZY (QhX ht),?_⟩;refine QbS (λj δ=>∃ds x4 x5 x6 x7,δ=[.v (.list (Qj9 h w B)),.v (.list (QtX cols)),.v (.int t),.own ds,x4,x5,x6,x7]/\ds=Qd0 h (stepB B (cols.take j) t)) ⟨_,_,_,_,_,rfl,Qba λk _=>?_⟩ ?_ ?_
  ·show B t k=B t k+if k=0 then 0 else 0
   split<;>omega
  ·rintro j d δ hd ⟨ds,x4,x5,x6,x7,rfl,rfl⟩;unfold QtX at hd;rw[QR] at hd;obtain⟨c,ec,rfl⟩:∃c:Nat,cols[j]? = some c/\d=.int (c:Int):=by
    cases e:cols[j]? with
    |none=>rw[e] at hd;cases hd
    |some p=>rw[e] at hd;cases hd;exact⟨p,rfl,rfl⟩
   have hcw:=hc c (Q9 ec);have et:cols.take (j+1)=cols.take j++[c]:=by rw[YC,ec];rfl
   refine⟨⟨by omega,by omega,by decide⟩,trivial,?_⟩;show if(!tru (.int (Jb (t:Int) (1*2^((c:Nat):Int).toNat))))=true then _ else _
   rw[Quq ht hcw w6];cases hb:t.testBit c with
   |true=>
    have np:(2:Int)^c≠0:=by
     have:(0:Int)<2^c:=Int.pow_pos (by decide);omega
    rw[if_pos rfl];refine ifF ?_ ⟨_,_,_,_,_,rfl,Qba λk _=>?_⟩
    ·show(!((2:Int)^c != 0))=false;simp[np]
    ·unfold stepB;rw[et,Qef,if_pos hb,Qk7]
   |false=>
    refine ifT rfl ?_
    have olt:=QyO ht hcw;refine⟨.list (Qd0 h (B (t ||| 2^c))),?_,?_⟩
    ·show atI (Qj9 h w B) (Qc6 (t:Int) (1*2^((c:Nat):Int).toNat))=_;rw[QvX ht hcw w6];exact ZY (QhX olt)
    ·show Qut (QkD (Dl.cutD (Qd0 h (B (t ||| 2^c))) none (some (-1)))) _ _ _ _;rw[Qoj];refine QbS (λi δ=>∃ds x6 x7,δ=[.v (.list (Qj9 h w B)),.v (.list (QtX cols)),.v (.int t),.own ds,.v (.int c),.v (.int (1*2^((c:Nat):Int).toNat)),x6,x7]/\ds=Qd0 h (λk=>stepB B (cols.take j) t k+if 1<=k/\k<=i then B (t ||| 2^c) (k - 1) else 0)) ⟨_,_,_,rfl,Qba λk _=>?_⟩ ?_ ?_
     ·rw[if_neg (by omega),Qk7]
     ·rintro i d δ hd ⟨ds,x6,x7,rfl,rfl⟩;obtain⟨e,he,rfl⟩:=QjA hd;rw[QR] at he;have hi:i<h:=by
       by_cases z:i<h
       ·exact z
       ·rw[JZ (by rw[Jd];omega)] at he;cases he
      rw[Zl hi] at he;cases he;refine⟨rfl,i+1,_,?_,Qdd (by omega),_,_,_,rfl,?_⟩
      ·rw[Qb2];exact QtU (k:=i+1) (by omega)
      ·rw[Qoh (by omega)];refine Qba λk hk=>?_
       show(if k=i+1 then(stepB B (cols.take j) t (i+1)+if 1<=i+1/\i+1<=i then B (t ||| 2^c) (i+1 - 1) else 0)+B (t ||| 2^c) i else stepB B (cols.take j) t k+if 1<=k/\k<=i then B (t ||| 2^c) (k - 1) else 0)=stepB B (cols.take j) t k+if 1<=k/\k<=i+1 then B (t ||| 2^c) (k - 1) else 0
       by_cases z:k=i+1
       ·subst z;rw[if_pos rfl,if_neg (by omega),if_pos (by omega),Qd7,Qk7]
       ·rw[if_neg z];by_cases z2:1<=k/\k<=i
        ·rw[if_pos z2,if_pos (by omega)]
        ·rw[if_neg z2,if_neg (by omega)]
     ·rintro δ ⟨ds,x6,x7,rfl,rfl⟩;rw[Qf9,Qg,Jd];refine⟨_,_,_,_,_,rfl,Qba λk hk=>?_⟩;unfold stepB;rw[et];by_cases z:k=0
      ·subst z;rw[if_pos rfl,if_neg (by omega),if_pos rfl];omega
      ·rw[if_neg z,if_neg z,if_pos (by omega),Qef,if_neg (by rw[hb];decide)];omega
  ·rintro δ ⟨ds,x4,x5,x6,x7,rfl,rfl⟩;unfold QtX;rw[Qg,ZJ];exact hR
theorem Qpi:(["taken", "high"]:List Str).Nodup:=by decide +kernel
theorem Qjm:(["at", "column", "row"]:List Str).Nodup:=by decide +kernel
theorem Qph:(["taken", "columns", "table"]:List Str).Nodup:=by decide +kernel
theorem Qck:Jw ["board", "high", "wide", "cells", "table", "row", "columns"] ["board"] (Qt Qkc):=⟨rfl,rfl,rfl,by decide +kernel,rfl,by decide +kernel,by decide +kernel⟩
theorem Qtw{f f1  : Addr}{fd fd1:QN}(F:Fun K "ways_to_go_on" "ways_to_go_on" Qkc f fd)(T:GlbA mg)
  (m1:mg "ways_with_row" = some (.ref f1))(G1:FnOk P w K mg base CX0 1 f1 fd1 ["below", "columns", "taken"] (Zj true Qsd))(b1:Binds K fd1 ["below", "columns", "taken"] [])(k1:PySem.W.keepIn K (.ref f1)=true) :
  FnOk P w K mg base CX0 2 f fd ["board"] (Zj true Qsf):=by
 refine okQ true F Qck (λargs R EX h=>?_) (λcdv A outer s H E hr=>?_)
 ·obtain⟨h,w,cs,rfl,_⟩:=h;rfl
 ·have hU:=Room.u60 hr;have hI:=Room.i60 hr;refine⟨_,Q7 (Qrk (qv 0) (QdD rfl (ZW 1 (ZW 2 (ZW 3 QdE Qck.nd rfl (by first | exact QV rfl | exact Q3 rfl)) Qck.nd rfl (by first | exact QV rfl | exact Q3 rfl)) Qck.nd rfl (by first | exact QV rfl | exact Q3 rfl))))
   (Q7 (Qcl 4 (QcL (Qa1 (Zm (QaE ["taken", "high"] [none,some 1] (YX (by rfl) T.range (QZ (ZT Qg2 Qel (Jm JI) (qp 2)))) (λcl ex s3 H3 C=>⟨(Zc 0 Qpi rfl (QV rfl) (Q3 rfl)),Ya,(Zm (ZT Y7 Qbc (QZ (QcL (Qa1 JI Jt))) (QZ (ZT Qia Qmo (QZ (QcL (Qa1 JI Jt))) (qp 1)))))⟩))) Jt)) Qck.nd)
   (Q7 (QbI J4 rfl (QsK (by rfl) T.reversed (by rfl) T.range (qp 1)) (Zc 5 Qck.nd rfl (by first | exact QV rfl | exact Q3 rfl))
    (Q7 (QaD 6 (Zm (QaE ["at", "column", "row"] [none,none,some 5] (QdC (qp 3)) (λcl ex s3 H3 C=>⟨(QdD rfl (ZW 0 (ZW 1 QdE Qjm rfl (QV rfl) (Q3 rfl)) Qjm rfl (QV rfl) (Q3 rfl))),(Qdg (Y5 Qao (Qcc hU) (qp 0) (qp 2) (Zu _))),(qv 1)⟩))) Qck.nd)
   (Jf (Qvr 4 JI (Zm (QaE ["taken", "columns", "table"] [none,some 6,some 4] (YX (by rfl) T.range (QZ (ZT Qg2 Qel (Jm JI) (qp 2)))) (λcl ex s3 H3 C=>⟨(Zc 0 Qph rfl (QV rfl) (Q3 rfl)),Ya,(Zm (Ys G1 (hr.mono (by decide)) (by rfl) m1 k1 b1 Yk (Yr (Qd1 Yb QaI (qp 2) (Jm JI) (λ_ _=>rfl)) (Yr (qv 1) (Yr (qv 0) Za)))))⟩)))))))
   (Jf (Qh4 4)))),λargs R EX h=>?_⟩
  obtain⟨h,w,cs,rfl,h6,w6,hb,hR⟩:=h;refine⟨rfl,⟨by omega,by omega,by decide⟩,?_,Qbt (λ_=>.list (Qq 1::Jc h (.int 0))) (λd hd k2 hk=>?_) ?_⟩
  ·exact Qrr w6
  ·refine⟨⟨by omega,by omega,by rw[QK];show 1*h<=_;omega⟩,?_⟩;rw[QK,Qsw];refine⟨by rw[Qav];show 1+h<=_;omega,hk⟩
  ·have e0:(QhL 0 (1*2^((w:Nat):Int).toNat:Int).toNat).map (λ_=>Qag (Qq 1::Jc h (.int 0)))=Qj9 h w (Wc cs h 0):=by
    rw[QfV,QK];unfold QhL Qj9;rw[Jr];refine ZC λt _=>?_
    show Qag _=Qag _;rw[Qoi]
   rw[e0];refine⟨⟨by omega,by omega⟩,QbS (λi δ=>∃ds x5 x6,δ=[.v (bdD h w cs),.v (.int h),.v (.int w),.v (.tuple (cs.map pairD)),.own ds,x5,x6]/\ds=Qp8 cs h w i) ⟨_,_,_,rfl,rfl⟩ ?_ ?_⟩
   ·rintro i d δ hd ⟨ds,x5,x6,rfl,rfl⟩;obtain⟨hi,rfl⟩:=Qi1 hd;rw[QK] at hi;have er:((((h:Nat):Int).toNat:Nat):Int) - 1 - (i:Int)=((h - 1 - i:Nat):Int):=by omega
    rw[er];refine QpN (λd=>if(toP d).1=((h - 1 - i:Nat):Int) then some (.int (toP d).2) else none) (λd hd k1 k2 h1 h2=>?_) ?_
    ·obtain⟨p,_,rfl⟩:=Qx.mp hd;have h1:(if p.1=((h - 1 - i:Nat):Int) then some (Qq p.2) else none)=none->k1:=h1;have h2:∀e,(if p.1=((h - 1 - i:Nat):Int) then some (Qq p.2) else none)=some e->k2 e:=h2
     refine⟨rfl,?_⟩;show if decide (p.1=((h - 1 - i:Nat):Int))=true then k2 (.int p.2) else k1
     by_cases z:p.1=((h - 1 - i:Nat):Int)
     ·rw[if_pos (decide_eq_true z)];exact h2 _ (if_pos z)
     ·rw[if_neg (by simpa using z)];exact h1 (if_neg z)
    ·rw[Qw6 cs (h - 1 - i) λp hp=>(hb p hp).1];refine⟨⟨by omega,by omega,by decide⟩,?_,Qbt (λd=>match d with | .int t=>.list (Qd0 h (Wc cs h (i+1) t.toNat)) | _=>.none) (λd hd k2 hk=>?_) ?_⟩
     ·exact Qrr w6
     ·obtain⟨t,ht⟩:=JM.mp hd;obtain⟨htl,rfl⟩:=QbH ht;rw[QfV,QK] at htl;have hk:k2 (.list (Qd0 h (Wc cs h (i+1) (0+(t:Int)).toNat))):=hk;rw[show(0+(t:Int)).toNat=t by omega] at hk;refine⟨_,ZY (j:=0) (Qlg cs h w i),h,w,Wc cs h i,QuC cs (h - 1 - i),t,by rw[show(0:Int)+(t:Int)=(t:Int) by omega],htl,λc hc=>Quf hb hc,h6,w6,hk⟩
     ·refine⟨by rw[QiR];omega,_,_,_,rfl,?_⟩;show Qag _::Qp8 cs h w i=Qag (Qj9 h w (Wc cs h (i+1)))::Qp8 cs h w i
      congr 2
      rw[QfV,QK];unfold QhL Qj9;rw[Jr];refine ZC λt _=>?_
      show Qag (Qd0 h (Wc cs h (i+1) (0+(t:Int)).toNat))=_;rw[show(0+(t:Int)).toNat=t by omega]
   ·rintro δ ⟨ds,x5,x6,rfl,rfl⟩;rw[QfQ,QK];exact hR
theorem Qlu:Jw ["board"] ["board"] (Qt Qdc):=⟨rfl,rfl,rfl,by decide +kernel,rfl,by decide +kernel,by decide +kernel⟩
theorem Qmk{f f1 f2  : Addr}{fd fd1 fd2:QN}(F:Fun K "counts" "counts" Qdc f fd)(T:GlbA mg)
  (m1:mg "ways_to_go_on" = some (.ref f1))(G1:FnOk P w K mg base CX0 2 f1 fd1 ["board"] (Zj true Qsf))(b1:Binds K fd1 ["board"] [])(k1:PySem.W.keepIn K (.ref f1)=true)
  (m2:mg "most_size" = some (.ref f2))(G2:FnOk P w K mg base CX0 1 f2 fd2 ["board"] (Zj false Qpl))(b2:Binds K fd2 ["board"] [])(k2:PySem.W.keepIn K (.ref f2)=true) :
  FnOk P w K mg base CX0 3 f fd ["board"] (Zj true Qiv):=by
 refine okQ true F Qlu (λargs R EX h=>?_) (λcdv A outer s H E hr=>?_)
 ·obtain⟨h,w,cs,rfl,_⟩:=h;rfl
 ·have hU:=Room.u60 hr;have hI:=Room.i60 hr;refine⟨_,Jf (Qaj (QbM (Jm (Qd1 Yb QaI (Jm (Qd1 Yb QaI (QZ (Ys G1 (hr.mono (by decide)) (by rfl) m1 k1 b1 Yk (Yr (qv 0) Za))) (Jm JI) (λ_ _=>rfl))) (Jm JI) (λ_ _=>rfl))) QbK (QbJ (QZ (ZT Y7 Qbc (Jm (Yp G2 (hr.mono (by decide)) (by rfl) m2 k2 b2 Yk (Yr (qv 0) Za))) (Jm JI)))))),λargs R EX h=>?_⟩;obtain⟨h,w,cs,rfl,h6,w6,hb,hR⟩:=h;refine⟨_,_,_,rfl,h6,w6,hb,_,ZY (j:=0) (Qlg cs h w h),_,ZY (j:=0) (QhX (Nat.two_pow_pos w)),_,_,_,rfl,?_⟩;have e:Dl.cutD (Qd0 h (Wc cs h h 0)) none (some (((min h w:Nat):Int)+1))=Qw7 cs h w:=by
   rw[QjJ _ _ (by omega)];unfold Qd0 Qw7;rw[<- Qxt,Qux,show min (((min h w:Nat):Int)+1).toNat (h+1)=min h w+1 by omega]
  have hR:R (.list (Qw7 cs h w)):=hR;rw[<- e] at hR;exact hR
theorem Qsq:Jw ["start"] ["start"] (Qt Qkd):=⟨rfl,rfl,rfl,by decide +kernel,rfl,by decide +kernel,by decide +kernel⟩
theorem Qtz{f   : Addr}{fd  : QN}(F:Fun K "row_behind" "row_behind" Qkd f fd)(T:GlbA mg) :
  FnOk P w K mg base CX0 1 f fd ["start"] (Zj false Qsu):=by
 refine okQ false F Qsq (λargs R EX h=>?_) (λcdv A outer s H E hr=>?_)
 ·obtain⟨S,rfl,_⟩:=h;rfl
 ·have hU:=Room.u60 hr;have hI:=Room.i60 hr;refine⟨_,Jf (Qan (Qvw (Qri (qp 0)) (Zm (ZT Y7 Qbc (Jm (Qd1 Yb QaI (Jm (Qd1 Yb QaI (qp 0) (QZ (QlI (Jm JI))) (λ_ _=>rfl))) (Jm JI) (λ_ _=>rfl))) (Jm JI))) JI)),λargs R EX h=>?_⟩;obtain⟨S,rfl,hR⟩:=h;refine⟨trivial,?_⟩;unfold rbI at hR;cases e:S.getLast? with
  |none=>
   rw[e] at hR;rw[QhG] at e;subst e;exact hR
  |some c=>
   rw[e] at hR;refine ifT ?_ ⟨_,QtP e,_,ZY (j:=0) rfl,hR⟩
   cases S with
   |nil=>cases e
   |cons a b=>rfl
theorem QtK:(["cell"]:List Str).Nodup:=by decide +kernel
theorem QtJ:(["cell", "row", "taken"]:List Str).Nodup:=by decide +kernel
theorem Qlt:Jw ["board", "start", "row", "taken"] ["board", "start"] (Qt sFol):=⟨rfl,rfl,rfl,by decide +kernel,rfl,by decide +kernel,by decide +kernel⟩
theorem Qwe{f f1  : Addr}{fd fd1:QN}(F:Fun K "followers" "followers" sFol f fd)(T:GlbA mg)
  (m1:mg "row_behind" = some (.ref f1))(G1:FnOk P w K mg base CX0 1 f1 fd1 ["start"] (Zj false Qsu))(b1:Binds K fd1 ["start"] [])(k1:PySem.W.keepIn K (.ref f1)=true) :
  FnOk P w K mg base CX0 2 f fd ["board", "start"] (Zj false Qzb):=by
 refine okQ false F Qlt (λargs R EX h=>?_) (λcdv A outer s H E hr=>?_)
 ·obtain⟨h,w,cs,S,rfl,_⟩:=h;rfl
 ·have hU:=Room.u60 hr;have hI:=Room.i60 hr;refine⟨_,Q7 (QaD 2 (Yp G1 (hr.mono (by decide)) (by rfl) m1 k1 b1 Yk (Yr (qv 1) Za)) Qlt.nd)
   (Q7 (QaD 3 (Zm (QaE ["cell"] [none] (QdC (qp 1)) (λcl ex s3 H3 C=>⟨(Zc 0 QtK rfl (QV rfl) (Q3 rfl)),Ya,(Qd1 Yb QaI (qp 0) (Jm JI) (λ_ _=>rfl))⟩))) Qlt.nd)
   (Jf (Qaj (QaE ["cell", "row", "taken"] [none,some 2,some 3] (QdC (Jm (Qd1 Yb QaI (qp 0) (Jm JI) (λ_ _=>rfl)))) (λcl ex s3 H3 C=>⟨(Zc 0 QtJ rfl (QV rfl) (Q3 rfl)),(Qdg (Qvs (Qvo (Y5 Qv8 QrB (Jm (Qd1 Yb QaI (qp 0) (Jm JI) (λ_ _=>rfl))) (qp 1) (Zu _)) (QsE (Y5 Qmc (Qwj hI) (Jm (Qd1 Yb QaI (qp 0) (Jm JI) (λ_ _=>rfl))) (qp 2) (by rfl)))))),(qv 0)⟩))))),λargs R EX h=>?_⟩
  obtain⟨h,w,cs,S,rfl,hR⟩:=h;refine⟨_,rfl,Qbt (λd=>.int (toP d).2) (λd hd k2 hk=>?_) ?_⟩
  ·obtain⟨p,_,rfl⟩:=Qx.mp hd;exact⟨_,ZY (j:=1) rfl,hk⟩
  ·rw[show(S.map pairD).map (λd=>Qq (toP d).2)=(S.map (·.2)).map Qq by rw[Jr,Jr];rfl];refine⟨_,ZY (j:=2) rfl,QpN (λd=>if(λc:Int×Int=>decide (rbI S<=c.1) && !decide (c.2∈S.map (·.2))) (toP d)=true then some d else none) (λd hd k1 k2 h1 h2=>?_) ?_⟩
   ·obtain⟨c,_,rfl⟩:=Qx.mp hd;have h1:(if(decide (rbI S<=c.1) && !decide (c.2∈S.map (·.2)))=true then some (pairD c) else none)=none->k1:=h1;have h2:∀e,(if(decide (rbI S<=c.1) && !decide (c.2∈S.map (·.2)))=true then some (pairD c) else none)=some e->k2 e:=h2
    refine⟨_,ZY (j:=0) rfl,?_⟩;refine ifC (λz1=>?_) λz1=>?_
    ·have z1:decide (rbI S<=c.1)=true:=z1;rw[z1,QdU] at h1 h2;refine⟨_,ZY (j:=1) rfl,⟨QaW _,rfl,by show Jx (.int _)<=50;unfold Jx;decide⟩,?_⟩;show if(!((S.map (·.2)).map Qq).any λe=>Jq e (.int c.2))=true then _ else k1
     rw[Qup];by_cases z:(!decide (c.2∈S.map (·.2)))=true
     ·rw[if_pos z];exact h2 _ (if_pos z)
     ·rw[if_neg z];exact h1 (if_neg z)
    ·have z1:decide (rbI S<=c.1)=false:=z1;rw[z1] at h1;exact h1 rfl
   ·rw[QpA (λc:Int×Int=>decide (rbI S<=c.1) && !decide (c.2∈S.map (·.2)))];exact hR
theorem QrC:(["stand", "cell", "board"]:List Str).Nodup:=by decide +kernel
theorem Qob:Jw ["board", "size", "stands", "step"] ["board", "size"] (Qt Qe4):=⟨rfl,rfl,rfl,by decide +kernel,rfl,by decide +kernel,by decide +kernel⟩
theorem QyT{f f1  : Addr}{fd fd1:QN}(F:Fun K "every_stand" "every_stand" Qe4 f fd)(T:GlbA mg)
  (m1:mg "followers" = some (.ref f1))(G1:FnOk P w K mg base CX0 2 f1 fd1 ["board", "start"] (Zj false Qzb))(b1:Binds K fd1 ["board", "start"] [])(k1:PySem.W.keepIn K (.ref f1)=true) :
  FnOk P w K mg base CX0 3 f fd ["board", "size"] (Zj true evD):=by
 refine okQ true F Qob (λargs R EX h=>?_) (λcdv A outer s H E hr=>?_)
 ·obtain⟨h,w,cs,k,rfl,_⟩:=h;rfl
 ·have hU:=Room.u60 hr;have hI:=Room.i60 hr;refine⟨_,Q7 (Qcl 2 (QcL (Qa1 (Zm (QbB Jt)) Jt)) Qob.nd)
   (Q7 (QbI J4 rfl (YX (by rfl) T.range (qp 1)) (Zc 3 Qob.nd rfl (by first | exact QV rfl | exact Q3 rfl))
    (Jf (QlG ["stand", "cell", "board"] [none,none,some 0] 2 Qob.nd (Qjv 0) (QbL (qp 2)) (λcl ex s3 H3 C=>⟨(Zc 0 QrC rfl (QV rfl) (Q3 rfl)),Ya,(QbL (Yp G1 (hr.mono (by decide)) (by rfl) m1 k1 b1 Yk (Yr (qv 2) (Yr (qv 0) Za)))),(Zc 1 QrC rfl (QV rfl) (Q3 rfl)),Ya,(Zm (ZT Y7 Qbc (qp 0) (QZ (QbB (Qa1 (qv 1) Jt)))))⟩))))
   (Jf (Qh4 2))),λargs R EX h=>?_⟩
  obtain⟨h,w,cs,k,rfl,g,k6,hR⟩:=h;refine⟨⟨by omega,by omega⟩,Qev (λi δ=>∃ds x3,δ=[.v (bdD h w cs),.v (.int k),.own ds,x3]/\ds=(evS cs i).map stT) ⟨_,_,rfl,rfl⟩ ?_ ?_⟩
  ·rintro i δ hi ⟨ds,x3,rfl,rfl⟩;rw[QK] at hi;refine Qnf (evG cs) 200000 (by rw[QmW,Qg];exact QwM g (i+1)) (λd hd acc N hb hN=>?_) ?_
   ·obtain⟨S,hS,rfl⟩:=Qx.mp hd;have lS:=((Qeo g.r0 i S).mp hS).2;unfold evG at hb hN;rw[Qka] at hb hN;rw[Qg] at hb;refine⟨_,_,_,_,rfl,QrJ (λd=>.tuple (S.map pairD++[d])) (by rw[Qg];exact Yn hb (by decide)) (λd hd k2 hk=>?_) ?_⟩
    ·exact⟨by rw[Qg];show _+1<=_;omega,hk⟩
    ·rw[Jr];have e:(fol cs S).map ((λd=>YT (S.map pairD++[d]))∘pairD)=(fol cs S).map λc=>stT (S++[c]):=ZC λc _=>by
      show YT (S.map pairD++[pairD c])=YT ((S++[c]).map pairD);rw[Jp];rfl
     rw[e];exact hN
   ·rw[QmW];exact⟨_,_,rfl,rfl⟩
  ·rintro δ ⟨ds,x3,rfl,rfl⟩;rw[QK];exact hR
theorem Qn9:Jw ["board", "size"] ["board", "size"] (Qt Qe1):=⟨rfl,rfl,rfl,by decide +kernel,rfl,by decide +kernel,by decide +kernel⟩
theorem Qo8{f f1 f2 CS:Addr}{fd fd1 fd2:QN}(F:Fun K "refuse_no_size" "refuse_no_size" Qe1 f fd)(T:GlbA mg)
  (m1:mg "is_whole_within" = some (.ref f1))(G1:FnOk P w K mg base CX0 2 f1 fd1 ["thing", "least", "most"] (Zj false Qc8))(b1:Binds K fd1 ["thing", "least", "most"] [])(k1:PySem.W.keepIn K (.ref f1)=true)
  (m2:mg "most_size" = some (.ref f2))(G2:FnOk P w K mg base CX0 1 f2 fd2 ["board"] (Zj false Qpl))(b2:Binds K fd2 ["board"] [])(k2:PySem.W.keepIn K (.ref f2)=true)
  (mCS:mg "NoSize" = some (.ref CS))(qCS:PySem.W.excIn K CS Rx.mroV "ValueError.__new__" = true) :
  FnOk P w K mg base (Rx.CXE P w) 3 f fd ["board", "size"] (Zj false (Qlx CS)):=by
 refine QuA false F Qn9 (λargs R EX h=>?_) (λcdv A outer s H E hr=>?_)
 ·obtain⟨h,w,cs,d,rfl,_⟩:=h;rfl
 ·have hU:=Room.u60 hr;have hI:=Room.i60 hr;refine⟨_,Jf (Qcm (QcJ (QdB (Jm (Yp G1 (hr.mono (by decide)) (by rfl) m1 k1 b1 Yk (Yr (qv 1) (Yr JI (Yr (Yp G2 (hr.mono (by decide)) (by rfl) m2 k2 b2 Yk (Yr (qv 0) Za)) Za))))))) (Jf (QcK (λ_ _ h=>h) mCS qCS (Jm QeN))) YW),λargs R EX h=>?_⟩;obtain⟨h,w,cs,d,rfl,hR,hX⟩:=h;refine⟨_,_,_,rfl,_,_,_,rfl,?_⟩;cases ha:inW d 0 ((min h w:Nat):Int) with
  |false=>exact hX ha
  |true=>exact hR ha
theorem Qyq:Jw ["board", "size"] ["board", "size"] (Qt Qa9):=⟨rfl,rfl,rfl,by decide +kernel,rfl,by decide +kernel,by decide +kernel⟩
theorem QyS{f f1 f2 f3 CM:Addr}{fd fd1 fd2 fd3:QN}{CS:Addr}(hB:∃t,mg "MOST_TOLD" = some (.int 300 t))(F:Fun K "stands_of" "stands_of" Qa9 f fd)(T:GlbA mg)
  (m1:mg "refuse_no_size" = some (.ref f1))(G1:FnOk P w K mg base (Rx.CXE P w) 3 f1 fd1 ["board", "size"] (Zj false (Qlx CS)))(b1:Binds K fd1 ["board", "size"] [])(k1:PySem.W.keepIn K (.ref f1)=true)
  (m2:mg "counts" = some (.ref f2))(G2:FnOk P w K mg base CX0 3 f2 fd2 ["board"] (Zj true Qiv))(b2:Binds K fd2 ["board"] [])(k2:PySem.W.keepIn K (.ref f2)=true)
  (m3:mg "every_stand" = some (.ref f3))(G3:FnOk P w K mg base CX0 3 f3 fd3 ["board", "size"] (Zj true evD))(b3:Binds K fd3 ["board", "size"] [])(k3:PySem.W.keepIn K (.ref f3)=true)
  (mCM:mg "TooMany" = some (.ref CM))(qCM:PySem.W.excIn K CM Rx.mroV "ValueError.__new__" = true) :
  FnOk P w K mg base (Rx.CXE P w) 4 f fd ["board", "size"] (Zj true (QhZ CS CM)):=by
 refine QuA true F Qyq (λargs R EX h=>?_) (λcdv A outer s H E hr=>?_)
 ·obtain⟨h,w,cs,d,rfl,_⟩:=h;rfl
 ·obtain⟨tB,mB⟩:=hB;have hU:=Room.u60 hr;have hI:=Room.i60 hr;refine⟨_,Q7 (QlF (Jm (Yp G1 (hr.mono (by decide)) (by rfl) m1 k1 b1 (Rx.Ql8 (E:=E) (λ_ _ h=>h) rfl rfl rfl) (Yr (qv 0) (Yr (qv 1) Za)))))
   (Q7 (Qcm (Y5 QyR QrB (Jm (Qd1 Yb QaI (QZ (Ys G2 (hr.mono (by decide)) (by rfl) m2 k2 b2 Yk (Yr (qv 0) Za))) (qp 1) (λ_ _=>rfl))) (Jm (Qrm 300 (by rfl) mB ⟨_,rfl⟩)) (Zu _)) (Jf (QcK (λ_ _ h=>h) mCM qCM (Jm QeN))) YW)
   (Jf (Qaj (Ys G3 (hr.mono (by decide)) (by rfl) m3 k3 b3 Yk (Yr (qv 0) (Yr (qv 1) Za)))))),λargs R EX h=>?_⟩
  obtain⟨h,w,cs,d,rfl,g,hS,hM,hR⟩:=h;refine⟨_,_,_,_,rfl,λha=>?_,hS⟩;rcases Qj8 (h:=h) (w:=w) (cs:=cs) d with q | ⟨k,rfl,hk⟩
  ·rw[q] at ha;cases ha
  ·have h6:=g.bds.1;refine⟨_,_,_,rfl,g.bds.1,g.bds.2.1,g.bds.col,.int (Wc cs h h 0 k),?_,?_⟩
   ·exact ZY (by unfold Qw7;rw[QR,Zl (by omega)];rfl)
   ·refine ifC (λz=>?_) λz=>?_
    ·exact hM k rfl hk (of_decide_eq_true z)
    ·exact⟨_,_,_,_,rfl,g,by omega,hR k rfl hk (by have:=of_decide_eq_false z;omega)⟩
end
def Ql9(CN CS:Addr):DF:=λargs R EX=>∃a b,args=[.v a,.v b]/\(inW a 1 6=false->EX CN)/\(∀n:Nat,a=.int n->1<=n->n<=6->inW b 1 n=false->EX CS)/\∀n m:Nat,a=.int n->b=.int m->1<=n->n<=6->1<=m->m<=n->R (.list ((ZI m (Qi0 n)).map QaH))
theorem QtG{m:Nat}(m1:1<=m)(m6:m<=6)(ha:inW (.int m) 1 6=false):False:=by
 rw[QeO (by omega) (by omega)] at ha;cases ha
theorem Qfj{m n:Nat}(e:Qq m=.int n):m=n:=by have:=QaS e;omega
theorem QwG{n:Nat}(n6:n<=6):GB n n (QiS n):=⟨⟨n6,n6,λp hp=>Qnh hp⟩,QgV _ _ _,of_decide_eq_true (Qu5 ⟨n,by omega⟩)⟩
theorem QgM(L:List (List (List Int))):Qb6 (L.map QaH):=⟨λx hx y hy=>by
  obtain⟨a,_,rfl⟩:=Qx.mp hx;obtain⟨b,_,rfl⟩:=Qx.mp hy;exact cl a b,λx hx=>by
  obtain⟨a,_,rfl⟩:=Qx.mp hx;show Q4 (a.map Qcb)+1<=20;have:=Qcq (n:=1) (ds:=a.map Qcb) λd hd=>by
   obtain⟨l,_,rfl⟩:=Qx.mp hd;show Q4 (l.map Qq)+1<=1;have:=Qcq (n:=0) (ds:=l.map Qq) λd hd=>by obtain⟨p,_,rfl⟩:=Qx.mp hd;exact Qi _
   omega
  omega⟩
where
 ci:∀a b:List Int,QbU (a.map Qq) (b.map Qq)=true
  |[],[]=>rfl
  |[],_::_=>rfl
  |_::_,[]=>rfl
  |x::a,y::b=>by show(true&&QbU (a.map Qq) (b.map Qq))=true;rw[ci a b];rfl
 cl:∀a b:List (List Int),QbU (a.map Qcb) (b.map Qcb)=true
  |[],[]=>rfl
  |[],_::_=>rfl
  |_::_,[]=>rfl
  |x::a,y::b=>by show(QbU (x.map Qq) (y.map Qq)&&QbU (a.map Qcb) (b.map Qcb))=true;rw[ci x y,cl a b];rfl
theorem QsV(n k:Nat):((evS (QiS n) k).map stT).map (λd=>QaH (ptN (stL d) n))=(QvA n k).map QaH:=by
 unfold QvA;rw[Jr,Jr];refine ZC λL _=>?_
 show QaH (ptN (stL (stT L)) n)=_;rw[Qka];rfl
section
variable{P:Qy}{w:Jg}{K:PySem.W.Frag}{mg:Str->Option Value}{base:J5}
theorem Qmu:(["stand", "n"]:List Str).Nodup:=by decide +kernel
theorem QiZ:Jw ["n", "many", "board"] ["n", "many"] (Qt Qe3):=⟨rfl,rfl,rfl,by decide +kernel,rfl,by decide +kernel,by decide +kernel⟩
theorem Qpa{f f1 f2 f3 f4 CS:Addr}{fd fd1 fd2 fd3 fd4:QN}{CN CT CM:Addr}(F:Fun K "partings" "partings" Qe3 f fd)(T:GlbA mg)
  (m1:mg "steps" = some (.ref f1))(G1:FnOk P w K mg base (Rx.CXE P w) 4 f1 fd1 ["n"] (Zj false (QiT CN)))(b1:Binds K fd1 ["n"] [])(k1:PySem.W.keepIn K (.ref f1)=true)
  (m2:mg "is_whole_within" = some (.ref f2))(G2:FnOk P w K mg base CX0 2 f2 fd2 ["thing", "least", "most"] (Zj false Qc8))(b2:Binds K fd2 ["thing", "least", "most"] [])(k2:PySem.W.keepIn K (.ref f2)=true)
  (m3:mg "parting_of" = some (.ref f3))(G3:FnOk P w K mg base (Rx.CXE P w) 6 f3 fd3 ["n", "stand"] (Zj false (QyE CN CT)))(b3:Binds K fd3 ["n", "stand"] [])(k3:PySem.W.keepIn K (.ref f3)=true)
  (m4:mg "stands_of" = some (.ref f4))(G4:FnOk P w K mg base (Rx.CXE P w) 4 f4 fd4 ["board", "size"] (Zj true (QhZ CS CM)))(b4:Binds K fd4 ["board", "size"] [])(k4:PySem.W.keepIn K (.ref f4)=true)
  (mCS:mg "NoSize" = some (.ref CS))(qCS:PySem.W.excIn K CS Rx.mroV "ValueError.__new__" = true) :
  FnOk P w K mg base (Rx.CXE P w) 7 f fd ["n", "many"] (Zj true (Ql9 CN CS)):=by
 refine QuA true F QiZ (λargs R EX h=>?_) (λcdv A outer s H E hr=>?_)
 ·obtain⟨a,b,rfl,_⟩:=h;rfl
 ·have hU:=Room.u60 hr;have hI:=Room.i60 hr;refine⟨_,Q7 (QaD 2 (Yp G1 (hr.mono (by decide)) (by rfl) m1 k1 b1 (Rx.Ql8 (E:=E) (λ_ _ h=>h) rfl rfl rfl) (Yr (qv 0) Za)) QiZ.nd)
   (Q7 (Qcm (QcJ (QdB (Jm (Yp G2 (hr.mono (by decide)) (by rfl) m2 k2 b2 Yk (Yr (qv 1) (Yr JI (Yr (qv 0) Za))))))) (Jf (QcK (λ_ _ h=>h) mCS qCS (Jm QeN))) YW)
   (Jf (Qaj (ZX (Qdu hU) Qgd (by rfl) T.sorted QeB (Qcf (QZ (QaE ["stand", "n"] [none,some 0] (QbL (QZ (Ys G4 (hr.mono (by decide)) (by rfl) m4 k4 b4 (Rx.Ql8 (E:=E) (λ_ _ h=>h) rfl rfl rfl) (Yr (qv 2) (Yr (Zm (ZT Qfd QbO (qp 0) (qp 1))) Za))))) (λcl ex s3 H3 C=>⟨(Zc 0 Qmu rfl (QV rfl) (Q3 rfl)),Ya,(Yp G3 (hr.mono (by decide)) (by rfl) m3 k3 b3 Rx.QyN (Yr (qv 1) (Yr (qv 0) Za)))⟩))) Jt))))),λargs R EX h=>?_⟩
  obtain⟨a,b,rfl,hN,hS,hR⟩:=h;refine⟨_,rfl,hN,λn ea n1 n6=>?_⟩;subst ea;refine⟨_,_,_,rfl,?_⟩;show if(!inW b 1 n)=true then _ else _
  cases hb:inW b 1 n with
  |false=>exact hS n rfl n1 n6 hb
  |true=>
   obtain⟨q,rfl,q1,qn⟩:=QkB hb;obtain⟨m,rfl⟩:∃m:Nat,q=m:=⟨q.toNat,by omega⟩
   have hR:=hR n m rfl rfl n1 n6 (by omega) (by omega);have g:=QwG n6;have wc:Wc (QiS n) n n 0 (n - m)<=300:=of_decide_eq_true (Qu4 ⟨n,by omega⟩ ⟨n - m,by omega⟩);have e:(n:Int) - (m:Int)=((n - m:Nat):Int):=by omega
   refine⟨n,n,QiS n,_,rfl,g,λhf=>?_,λk ek hk hm=>?_,λk ek hk hm=>?_⟩
   ·rw[QeO (by omega) (by omega)] at hf;cases hf
   ·have ek:(n:Int) - (m:Int)=(k:Int):=QaS ek;obtain rfl:k=n - m:=by omega
    omega
   ·have ek:(n:Int) - (m:Int)=(k:Int):=QaS ek;obtain rfl:k=n - m:=by omega
    refine Qbt (λd=>QaH (ptN (stL d) n)) (λd hd k2 hk=>?_) ?_
    ·obtain⟨L,hL,rfl⟩:=Qx.mp hd;have hk:k2 (QaH (ptN (stL (stT L)) n)):=hk;rw[Qka] at hk;obtain⟨st,ln⟩:=(Qeo g.r0 _ L).mp hL;have is:=Qu6 g st;refine⟨_,_,rfl,λds e=>?_,λha=>(QtG n1 n6 ha).elim,λn' ea _ _ hb=>?_,λn' L' ea _ _ ed hb=>?_⟩
     ·cases e;rw[Qg];omega
     ·obtain rfl:n=n':=Qfj ea;rw[is] at hb;cases hb
     ·obtain rfl:n=n':=Qfj ea;obtain rfl:L=L':=by have:=congrArg stL ed;rwa [Qka,Qka] at this
      exact hk
    ·rw[QsV];refine(QiW (QgM _) λes pm pw=>?_).1;rw[Qo1 n6 (by omega) (by omega) pm pw];exact hR
end
def Qdi(M:Nat):DF:=λargs R _=>∃(ts:List Int)(m:Nat),args=[.v (Qcb ts),.v (.int m)]/\ts.length<=6/\m<=M/\m<=6/\R (.list ((ZI m ts).map QaH))
def Qwk:DF:=λ_ _ _=>False
theorem Qej:∀{m:Nat}{ts:List Int}{L:List (List Int)},L∈ZI m ts->L.length<=m
 |0,[],L,h=>by rw[Jh.mp h];exact Qi _
 |_+1,[],L,h=>nomatch h
 |0,_::_,L,h=>nomatch h
 |m+1,t::r,L,h=>by
  have h:=(Qa7 _).mem_iff.mp (show L∈QnP _ from h);obtain⟨bits,_,h⟩:=YV.mp h;obtain⟨M,hM,rfl⟩:=Qx.mp (show L∈(ZI m (QgP r bits 0)).map λmore=>(t::QgP r bits 1)::more from h);have:=Qej hM;rw[QJ];omega
theorem QrK(r:List Int)(bits:Nat)(b:Int):(QhL 0 ((r.map Qq).length:Int).toNat).filterMap (λd=>match d with | .int k=>if Jb ((bits:Int) / 2^k.toNat) 1=b then some (Qq (r.getD k.toNat 0)) else none | _=>none)=(QgP r bits b).map Qq:=by
 unfold QhL QgP;rw[Qg,QK,Y9,List.map_filterMap];refine congrArg (λf=>QuN f _) (funext λk=>?_);show(if Jb ((bits:Int) / 2^(0+(k:Int)).toNat) 1=b then some (Qq (r.getD (0+(k:Int)).toNat 0)) else none)=Option.map Qq (if Jb ((bits:Int) / 2^k) 1=b then some (r.getD k 0) else none);rw[show(0+(k:Int)).toNat=k by omega];split<;>rfl
section
variable{P:Qy}{w:Jg}{K:PySem.W.Frag}{mg:Str->Option Value}{base:J5}
theorem Qif:(["_law_k", "_law_bits", "_law_others"]:List Str).Nodup:=by decide +kernel
theorem Qie:(["_law_k", "_law_bits", "_law_others"]:List Str).Nodup:=by decide +kernel
theorem Qid:(["_law_more", "_law_lot"]:List Str).Nodup:=by decide +kernel
theorem Qay:Jw ["_law_things", "_law_many", "_law_found", "_law_others", "_law_bits", "_law_lot", "_law_left"] ["_law_things", "_law_many"] (Qt Qbk):=⟨rfl,rfl,rfl,by decide +kernel,rfl,by decide +kernel,by decide +kernel⟩
theorem Qkm{f f1  : Addr}{fd fd1:QN}{d:Nat}(F:Fun K "_law_parted" "_law_parted" Qbk f fd)(T:GlbA mg)
  (m1:mg "_law_parted" = some (.ref f1))(G1:FnOk P w K mg base CX0 (d+1) f1 fd1 ["_law_things", "_law_many"] (Zj true Qwk))(b1:Binds K fd1 ["_law_things", "_law_many"] [])(k1:PySem.W.keepIn K (.ref f1)=true) :
  FnOk P w K mg base CX0 (d+2) f fd ["_law_things", "_law_many"] (Zj true (Qdi 0)):=by
 refine okQ true F Qay (λargs R EX h=>?_) (λcdv A outer s H E hr=>?_)
 ·obtain⟨ts,m,rfl,_⟩:=h;rfl
 ·have hU:=Room.u60 hr;have hI:=Room.i60 hr;refine⟨_,Q7 (Qcm (Qvs (Qol (Y5 Qao (Qcc hU) (qp 0) (QZ (QbB Jt)) (Zu _)) (Qi5 (Y5 Qao (Qcc hU) (qp 1) (Jm JI) (Zu _))))) (Jf (Qaj (ZT Qia Qmo (QZ (QcL (Qa1 (Zm (QbB Jt)) Jt))) (QZ (Qar Qhq QrS (by rfl) T.int Qhr (Qcf (Jm (QfT (QZ (QgU Qao (Qcc hU) (qp 0) (QZ (QbB Jt)) (Zu _))) (QfS (Zm (QgU Qao (Qcc hU) (qp 1) (Jm JI) (Zu _)))))) Jt)))))) YW)
   (Q7 (Qcl 2 (QcL Jt) Qay.nd)
   (Q7 (QaD 3 (Zm (QbM (qp 0) (QbJ (Jm JI)) QbK)) Qay.nd)
   (Q7 (QbI J4 rfl (YX (by rfl) T.range (QZ (ZT Qg2 Qel (Jm JI) (QZ (ZX Y0 QcS (by rfl) T.len QaY (Qcf (qp 3) Jt)))))) (Zc 4 Qay.nd rfl (by first | exact QV rfl | exact Q3 rfl))
    (Q7 (QaD 5 (Zm (ZT Y7 Qbc (QZ (QbM (qp 0) QbK (QbJ (Jm JI)))) (QZ (Qar ZV Qb5 (by rfl) T.tuple YF (Qcf (QZ (QaE ["_law_k", "_law_bits", "_law_others"] [none,some 4,some 3] (YX (by rfl) T.range (QZ (ZX Y0 QcS (by rfl) T.len QaY (Qcf (qp 3) Jt)))) (λcl ex s3 H3 C=>⟨(Zc 0 Qif rfl (QV rfl) (Q3 rfl)),(Qdg (Y5 Qao (Qcc hU) (QZ (ZT Qg3 QbO (QZ (ZT Qjg Qel (qp 1) (qp 0))) (Jm JI))) (Jm JI) (Zu _))),(Qd1 Yb QaI (qp 2) (qp 0) (λ_ _=>rfl))⟩))) Jt))))) Qay.nd)
   (Q7 (QaD 6 (Zm (Qar ZV Qb5 (by rfl) T.tuple YF (Qcf (QZ (QaE ["_law_k", "_law_bits", "_law_others"] [none,some 4,some 3] (YX (by rfl) T.range (QZ (ZX Y0 QcS (by rfl) T.len QaY (Qcf (qp 3) Jt)))) (λcl ex s3 H3 C=>⟨(Zc 0 Qie rfl (QV rfl) (Q3 rfl)),(Qdg (Y5 Qao (Qcc hU) (QZ (ZT Qg3 QbO (QZ (ZT Qjg Qel (qp 1) (qp 0))) (Jm JI))) (Jm JI) (Zu _))),(Qd1 Yb QaI (qp 2) (qp 0) (λ_ _=>rfl))⟩))) Jt))) Qay.nd)
   (Jf (Qrj 2 (QZ (QaE ["_law_more", "_law_lot"] [none,some 5] (QbL (QZ (Ys G1 (hr.mono (by omega)) (by rfl) m1 k1 b1 Yk (Yr (qv 6) (Yr (Zm (ZT Qfd QbO (qp 1) (Jm JI))) Za))))) (λcl ex s3 H3 C=>⟨(Zc 0 Qid rfl (QV rfl) (Q3 rfl)),Ya,(Zm (ZT Y7 Qbc (QZ (QbB (Qa1 (qv 1) Jt))) (qp 0)))⟩))))))))
   (Jf (Qaj (ZX (Qdu hU) Qgd (by rfl) T.sorted QeB (Qcf (qp 2) Jt))))))),λargs R EX h=>?_⟩
  obtain⟨ts,m,rfl,t6,mM,m6,hR⟩:=h;obtain rfl:m=0:=by omega
  refine⟨⟨QaW _,rfl,.inr (by decide)⟩,?_⟩;cases ts with
  |nil=>exact⟨⟨QaW _,rfl,.inr (by decide)⟩,⟨by decide,by decide,by decide⟩,hR⟩
  |cons t r=>exact⟨⟨QaW _,rfl,.inr (by decide)⟩,⟨by decide,by decide,by decide⟩,hR⟩
theorem Qkp:(["_law_k", "_law_bits", "_law_others"]:List Str).Nodup:=by decide +kernel
theorem Qko:(["_law_k", "_law_bits", "_law_others"]:List Str).Nodup:=by decide +kernel
theorem Qkn:(["_law_more", "_law_lot"]:List Str).Nodup:=by decide +kernel
theorem Qa8:Jw ["_law_things", "_law_many", "_law_found", "_law_others", "_law_bits", "_law_lot", "_law_left"] ["_law_things", "_law_many"] (Qt Qbk):=⟨rfl,rfl,rfl,by decide +kernel,rfl,by decide +kernel,by decide +kernel⟩
theorem Qmi{f f1  : Addr}{fd fd1:QN}{d:Nat}{M:Nat}(F:Fun K "_law_parted" "_law_parted" Qbk f fd)(T:GlbA mg)
  (m1:mg "_law_parted" = some (.ref f1))(G1:FnOk P w K mg base CX0 (d+1) f1 fd1 ["_law_things", "_law_many"] (Zj true (Qdi M)))(b1:Binds K fd1 ["_law_things", "_law_many"] [])(k1:PySem.W.keepIn K (.ref f1)=true) :
  FnOk P w K mg base CX0 (d+2) f fd ["_law_things", "_law_many"] (Zj true (Qdi (M+1))):=by
 refine okQ true F Qa8 (λargs R EX h=>?_) (λcdv A outer s H E hr=>?_)
 ·obtain⟨ts,m,rfl,_⟩:=h;rfl
 ·have hU:=Room.u60 hr;have hI:=Room.i60 hr;refine⟨_,Q7 (Qcm (Qvs (Qol (Y5 Qao (Qcc hU) (qp 0) (QZ (QbB Jt)) (Zu _)) (Qi5 (Y5 Qao (Qcc hU) (qp 1) (Jm JI) (Zu _))))) (Jf (Qaj (ZT Qia Qmo (QZ (QcL (Qa1 (Zm (QbB Jt)) Jt))) (QZ (Qar Qhq QrS (by rfl) T.int Qhr (Qcf (Jm (QfT (QZ (QgU Qao (Qcc hU) (qp 0) (QZ (QbB Jt)) (Zu _))) (QfS (Zm (QgU Qao (Qcc hU) (qp 1) (Jm JI) (Zu _)))))) Jt)))))) YW)
   (Q7 (Qcl 2 (QcL Jt) Qa8.nd)
   (Q7 (QaD 3 (Zm (QbM (qp 0) (QbJ (Jm JI)) QbK)) Qa8.nd)
   (Q7 (QbI J4 rfl (YX (by rfl) T.range (QZ (ZT Qg2 Qel (Jm JI) (QZ (ZX Y0 QcS (by rfl) T.len QaY (Qcf (qp 3) Jt)))))) (Zc 4 Qa8.nd rfl (by first | exact QV rfl | exact Q3 rfl))
    (Q7 (QaD 5 (Zm (ZT Y7 Qbc (QZ (QbM (qp 0) QbK (QbJ (Jm JI)))) (QZ (Qar ZV Qb5 (by rfl) T.tuple YF (Qcf (QZ (QaE ["_law_k", "_law_bits", "_law_others"] [none,some 4,some 3] (YX (by rfl) T.range (QZ (ZX Y0 QcS (by rfl) T.len QaY (Qcf (qp 3) Jt)))) (λcl ex s3 H3 C=>⟨(Zc 0 Qkp rfl (QV rfl) (Q3 rfl)),(Qdg (Y5 Qao (Qcc hU) (QZ (ZT Qg3 QbO (QZ (ZT Qjg Qel (qp 1) (qp 0))) (Jm JI))) (Jm JI) (Zu _))),(Qd1 Yb QaI (qp 2) (qp 0) (λ_ _=>rfl))⟩))) Jt))))) Qa8.nd)
   (Q7 (QaD 6 (Zm (Qar ZV Qb5 (by rfl) T.tuple YF (Qcf (QZ (QaE ["_law_k", "_law_bits", "_law_others"] [none,some 4,some 3] (YX (by rfl) T.range (QZ (ZX Y0 QcS (by rfl) T.len QaY (Qcf (qp 3) Jt)))) (λcl ex s3 H3 C=>⟨(Zc 0 Qko rfl (QV rfl) (Q3 rfl)),(Qdg (Y5 Qao (Qcc hU) (QZ (ZT Qg3 QbO (QZ (ZT Qjg Qel (qp 1) (qp 0))) (Jm JI))) (Jm JI) (Zu _))),(Qd1 Yb QaI (qp 2) (qp 0) (λ_ _=>rfl))⟩))) Jt))) Qa8.nd)
   (Jf (Qrj 2 (QZ (QaE ["_law_more", "_law_lot"] [none,some 5] (QbL (QZ (Ys G1 (hr.mono (by omega)) (by rfl) m1 k1 b1 Yk (Yr (qv 6) (Yr (Zm (ZT Qfd QbO (qp 1) (Jm JI))) Za))))) (λcl ex s3 H3 C=>⟨(Zc 0 Qkn rfl (QV rfl) (Q3 rfl)),Ya,(Zm (ZT Y7 Qbc (QZ (QbB (Qa1 (qv 1) Jt))) (qp 0)))⟩))))))))
   (Jf (Qaj (ZX (Qdu hU) Qgd (by rfl) T.sorted QeB (Qcf (qp 2) Jt))))))),λargs R EX h=>?_⟩
  obtain⟨ts,m,rfl,t6,mM,m6,hR⟩:=h;refine⟨⟨QaW _,rfl,.inr (by decide)⟩,?_⟩;cases ts with
  |nil=>
   refine⟨⟨QaW _,rfl,.inr (by decide)⟩,?_⟩;cases m with
   |zero=>exact⟨⟨by decide,by decide,by decide⟩,hR⟩
   |succ m=>
    show QzP (.list [.tuple []]) (.int (if decide (((m+1:Nat):Int)=0)=true then 1 else 0)) _;rw[decide_eq_false (by omega)];exact⟨⟨by decide,by decide,by decide⟩,hR⟩
  |cons t r=>
   cases m with
   |zero=>exact⟨⟨QaW _,rfl,.inr (by decide)⟩,⟨by decide,by decide,by decide⟩,hR⟩
   |succ m=>
    have hl:r.length<=5:=by rw[QJ] at t6;omega
    have e1:Dl.cutD ((t::r).map Qq) (some 1) none=r.map Qq:=Que _ _;have lr:(r.map Qq).length=r.length:=Qg _;have tot:∀i,i<=2^r.length->((QQ i).flatMap (QcM t r (ZI m))).length<=100:=λi hi=>by
     have a:=Qfa (m:=m+1) (ts:=t::r) (by omega) t6;have b:(ZI (m+1) (t::r)).length=((QQ (2^r.length)).flatMap (QcM t r (ZI m))).length:=(Qa7 _).length_eq;have c:((QQ i).flatMap (QcM t r (ZI m))).length<=((QQ (2^r.length)).flatMap (QcM t r (ZI m))).length:=by
      have e:QQ (2^r.length)=QQ i++(QQ (2^r.length - i)).map (i+·):=by rw[<- List.range_add];congr 1;omega
      rw[e,Z3,Qu];omega
     omega
    refine ifF rfl ?_
    have p5:(2:Nat)^r.length<=2^5:=QaT (by decide) hl;have p6:(2:Nat)^5=32:=by decide
    have srt0:ZI (m+1) (t::r)=QnP ((QQ (2^r.length)).flatMap (QcM t r (ZI m))):=rfl;have en:(1:Int)*2^(((Dl.cutD ((t::r).map Qq) (some 1) none).length:Nat):Int).toNat=((2^r.length:Nat):Int):=by
     rw[e1,lr,QK,Int.one_mul];push_cast;rfl
    rw[srt0] at hR;clear srt0;generalize 2^r.length=N at p5 en tot hR;have oth:Dl.cutD (List.map Qq (t::r)) (some 1) none=r.map Qq:=e1;have fst:Dl.cutD (List.map Qq (t::r)) none (some 1)=[Qq t]:=by
     rw[show(1:Int)=((1:Nat):Int) from rfl,QjJ _ _ (by decide)];rfl
    refine⟨⟨by omega,by rw[e1];omega,by decide⟩,⟨by rw[en];omega,by rw[en];omega⟩,Qev (λi δ=>∃x4 x5 x6,δ=[.v (Qcb (t::r)),.v (.int ((m+1:Nat):Int)),.own (((QQ i).flatMap (QcM t r (ZI m))).map QaH),.v (.tuple (r.map Qq)),x4,x5,x6]) ⟨_,_,_,by rw[<- e1];rfl⟩ ?_ ?_⟩
    ·rintro bits δ hi ⟨x4,x5,x6,rfl⟩;rw[en,QK] at hi;refine⟨⟨by omega,by omega⟩,QpN (λd=>match d with | .int k=>if Jb ((bits:Int) / 2^k.toNat) 1=1 then some (Qq (r.getD k.toNat 0)) else none | _=>none) (λd hd k1 k2 h1 h2=>?_) ?_⟩
     ·obtain⟨k,hk0⟩:=JM.mp hd;obtain⟨hk,rfl⟩:=QbH hk0;rw[Qg,QK] at hk;have h1:(if Jb ((bits:Int) / 2^(0+(k:Int)).toNat) 1=1 then some (Qq (r.getD (0+(k:Int)).toNat 0)) else none)=none->k1:=h1;have h2:∀e,(if Jb ((bits:Int) / 2^(0+(k:Int)).toNat) 1=1 then some (Qq (r.getD (0+(k:Int)).toNat 0)) else none)=some e->k2 e:=h2
      refine⟨by show(0:Int)<=0+(k:Int);omega,?_⟩;show if decide (Jb ((0+(bits:Int)) / 2^(0+(k:Int)).toNat) 1=1)=true then _ else _
      rw[show(0:Int)+(bits:Int)=(bits:Int) by omega];by_cases z:Jb ((bits:Int) / 2^(0+(k:Int)).toNat) 1=1
      ·rw[if_pos (decide_eq_true z)];refine⟨.int (r.getD k 0),?_,?_⟩
       ·rw[show(0:Int)+(k:Int)=(k:Int) by omega];exact ZY (by rw[QR,Ql hk,YG,Ql hk];rfl)
       ·rw[if_pos z] at h2;have:=h2 _ rfl
        rwa [show(0+(k:Int)).toNat=k by omega] at this
      ·rw[if_neg (by simpa using z)];rw[if_neg z] at h1;exact h1 rfl
     ·rw[QrK];have b1:=QfN r.length bits 1;have b0:=QfN r.length bits 0;have s1:=QcH r bits 1;have s0:=QcH r bits 0;rw[fst];refine⟨by rw[Qg];show 1+_<=_;omega,?_⟩;refine⟨⟨by omega,by omega⟩,QpN (λd=>match d with | .int k=>if Jb ((bits:Int) / 2^k.toNat) 1=0 then some (Qq (r.getD k.toNat 0)) else none | _=>none) (λd hd k1 k2 h1 h2=>?_) ?_⟩
      ·obtain⟨k,hk0⟩:=JM.mp hd;obtain⟨hk,rfl⟩:=QbH hk0;rw[Qg,QK] at hk;have h1:(if Jb ((bits:Int) / 2^(0+(k:Int)).toNat) 1=0 then some (Qq (r.getD (0+(k:Int)).toNat 0)) else none)=none->k1:=h1;have h2:∀e,(if Jb ((bits:Int) / 2^(0+(k:Int)).toNat) 1=0 then some (Qq (r.getD (0+(k:Int)).toNat 0)) else none)=some e->k2 e:=h2
       refine⟨by show(0:Int)<=0+(k:Int);omega,?_⟩;show if decide (Jb ((0+(bits:Int)) / 2^(0+(k:Int)).toNat) 1=0)=true then _ else _
       rw[show(0:Int)+(bits:Int)=(bits:Int) by omega];by_cases z:Jb ((bits:Int) / 2^(0+(k:Int)).toNat) 1=0
       ·rw[if_pos (decide_eq_true z)];refine⟨.int (r.getD k 0),?_,?_⟩
        ·rw[show(0:Int)+(k:Int)=(k:Int) by omega];exact ZY (by rw[QR,Ql hk,YG,Ql hk];rfl)
        ·rw[if_pos z] at h2;have:=h2 _ rfl
         rwa [show(0+(k:Int)).toNat=k by omega] at this
       ·rw[if_neg (by simpa using z)];rw[if_neg z] at h1;exact h1 rfl
      ·rw[QrK];refine⟨QgP r bits 0,m,?_,by omega,by omega,by omega,?_⟩
       ·show[Sl.v (.tuple ((QgP r bits 0).map Qq)),Sl.v (.int (((m+1:Nat):Int) - 1))]=_;rw[show(((m+1:Nat):Int) - 1)=(m:Int) by omega];rfl
       refine Qbt (λd=>match d with | .tuple ls=>.tuple (Qcb (t::QgP r bits 1)::ls) | _=>.none) (λd hd k2 hk=>?_) ?_
       ·obtain⟨L,hL,rfl⟩:=Qx.mp hd;have pl:=Qej hL;exact⟨by rw[Qg];show 1+_<=_;omega,hk⟩
       ·have eq:((ZI m (QgP r bits 0)).map QaH).map (λd=>match d with | .tuple ls=>YT (Qcb (t::QgP r bits 1)::ls) | _=>.none)=(QcM t r (ZI m) bits).map QaH:=by
         unfold QcM;rw[Jr,Jr];rfl
        rw[eq];have t1:=tot (bits+1) (by omega);rw[Qct,Z3,Qu] at t1;have e2:[bits].flatMap (QcM t r (ZI m))=QcM t r (ZI m) bits:=by simp
        rw[e2] at t1;refine⟨by rw[Qg,Qg];omega,.v (.int (0+(bits:Int))),.v (.tuple ([Qq t]++(QgP r bits 1).map Qq)),.v (.tuple ((QgP r bits 0).map Qq)),?_⟩;rw[Qct,Z3,e2,Jp];rfl
    ·rintro δ ⟨x4,x5,x6,rfl⟩;rw[en,QK];refine(QiW (QgM _) λes pm pw=>?_).1;have:es=(QnP ((QQ N).flatMap (QcM t r (ZI m)))).map QaH:=QgL (pm.trans ((Qa7 _).symm.map QaH)) (λd hd=>by obtain⟨L,_,rfl⟩:=Qx.mp hd;exact Qmm L) pw (Qh0 _);rw[this];exact hR
end
theorem QxE{i a b:Int}(h:¬(a<=i/\i<=b)):inW (.int i) a b=false:=by
 cases e:inW (.int i) a b with
 |false=>rfl
 |true=>obtain⟨j,ej,h1,h2⟩:=QkB e;cases ej;exact absurd ⟨h1,h2⟩ h
theorem QyV{m:Nat}(h:m<=6):inW (.int (10^(30:Int).toNat)) 1 m=false:=by
 refine QxE ?_
 have:(1000:Int)<10^(30:Int).toNat:=by decide
 omega
theorem Qsh(m:Nat):YT ((QQ ((m:Int)).toNat).map λ(i:Nat)=>Qq i)=Qcb (Qi0 m):=by
 rw[QK,Qcb,Qi0,Jr];rfl
theorem Qwn(L:List (List Int)):nd (QaH L)=true:=Qf1.mpr λd hd=>by
 obtain⟨l,_,rfl⟩:=Qx.mp hd;exact QaW l
theorem QtI(Ls:List (List (List Int))):nd (.list (Ls.map QaH))=true:=Qf1.mpr λd hd=>by
 obtain⟨L,_,rfl⟩:=Qx.mp hd;exact Qwn L
theorem Qe8:∀{m:Nat}{ts:List Int}{L:List (List Int)},L∈ZI m ts->∀l∈L,l.length<=ts.length
 |0,[],L,h,l,hl=>by rw[Jh.mp h] at hl;cases hl
 |_+1,[],L,h,_,_=>nomatch h
 |0,_::_,L,h,_,_=>nomatch h
 |m+1,t::r,L,h,l,hl=>by
  have h:=(Qa7 _).mem_iff.mp (show L∈QnP _ from h);obtain⟨bits,_,h⟩:=YV.mp h;obtain⟨M,hM,rfl⟩:=Qx.mp (show L∈(ZI m (QgP r bits 0)).map λmore=>(t::QgP r bits 1)::more from h);rcases Qz.mp hl with e | hl
  ·rw[e,QJ,QJ,QcH];have:=QfN r.length bits 1;omega
  ·have a:=Qe8 hM l hl;rw[QcH] at a;have b:=QfN r.length bits 0;rw[QJ];omega
def Qsi:DF:=λargs R _=>∃a b,args=[.v a,.v b]/\(inW a 1 6=false->R (.str "number"))/\(∀n:Nat,a=.int n->1<=n->n<=6->inW b 1 n=false->R (.str "size"))/\∀n m:Nat,a=.int n->b=.int m->1<=n->n<=6->1<=m->m<=n->R (.list ((ZI m (Qi0 n)).map QaH))
theorem Qus{r:Int}{m:Nat}{Q:Qa->Prop}(e:1+r=m)(h:Q (.int m)):Qzo (.int 1) (.int r) Q:=by
 show Q (.int (1+r));rw[e];exact h
theorem QpC(n:Nat){l:List Int}(h:l.length<=1000):QcP (n+1) (Qcb l)=true:=by
 show(decide ((l.map Qq).length<=1000)&&(l.map Qq).all (QcP n))=true;rw[Qg,decide_eq_true h,QdU];exact Jz.mpr λd hd=>by obtain⟨i,_,rfl⟩:=Qx.mp hd;cases n<;>rfl
theorem QpB(n:Nat){L:List (List Int)}(h:L.length<=1000)(hl:∀l∈L,l.length<=1000):QcP (n+2) (QaH L)=true:=by
 show(decide ((L.map Qcb).length<=1000)&&(L.map Qcb).all (QcP (n+1)))=true;rw[Qg,decide_eq_true h,QdU];exact Jz.mpr λd hd=>by obtain⟨l,hm,rfl⟩:=Qx.mp hd;exact QpC n (hl l hm)
theorem QmV{Ls:List (List (List Int))}(h:Ls.length<=1000)(hl:∀L∈Ls,L.length<=1000)(hll:∀L∈Ls,∀l∈L,l.length<=1000):QcP 3 (.list (Ls.map QaH))=true:=by
 show(decide ((Ls.map QaH).length<=1000)&&(Ls.map QaH).all (QcP 2))=true;rw[Qg,decide_eq_true h,QdU];exact Jz.mpr λd hd=>by obtain⟨l,hm,rfl⟩:=Qx.mp hd;exact QpB 0 (hl l hm) (hll l hm)
section
variable{P:Qy}{w:Jg}{K:PySem.W.Frag}{mg:Str->Option Value}{base:J5}
theorem Qlq:Jw ["_law_n", "_law_many", "_law_e"] ["_law_n", "_law_many"] (Qt Qkt):=⟨rfl,rfl,rfl,by decide +kernel,rfl,by decide +kernel,by decide +kernel⟩
theorem Qtx{f f1  : Addr}{fd fd1:QN}{CN CS:Addr}(F:Fun K "_law_told" "_law_told" Qkt f fd)(T:GlbA mg)
  (m1:mg "partings" = some (.ref f1))(G1:FnOk P w K mg base (Rx.CXE P w) 7 f1 fd1 ["n", "many"] (Zj true (Ql9 CN CS)))(b1:Binds K fd1 ["n", "many"] [])(k1:PySem.W.keepIn K (.ref f1)=true)
  {fK R:Addr} {cs:List Addr} {fdK:QN} (mK:mg "_law_kind_of" = some (.ref fK)) (GK:Rx.FnM P w K mg base 1 fK fdK ["_law_e"] (QiV K cs)) (bK:Binds K fdK ["_law_e"] []) (kK:PySem.W.keepIn K (.ref fK)=true) (mR:mg "RookError" = some (.ref R)) (oN:KOk K cs R CN "number") (oS:KOk K cs R CS "size") :
  FnOk P w K mg base CX0 8 f fd ["_law_n", "_law_many"] (Zj true Qsi):=by
 refine okQ true F Qlq (λargs R EX h=>?_) (λcdv A outer s H E hr=>?_)
 ·obtain⟨a,b,rfl,_⟩:=h;rfl
 ·have hU:=Room.u60 hr;have hI:=Room.i60 hr;refine⟨_,Jf (Qvp (i:=2) (ks:=λC wd=>KOk K cs R C wd) (Qsk (Qsl (Qsc G1 (hr.mono (by decide)) (by rfl) m1 k1 b1 (Yr (qv 0) (Yr (qv 1) Za))))) Qlq.nd mR (QsL GK (hr.mono (by decide)) mK kK bK) (λo=>handled o)),λargs R EX h=>?_⟩;obtain⟨a,b,rfl,hN,hS,hR⟩:=h;exact⟨_,_,rfl,λha=>⟨"number",oN,by decide +kernel,rfl,hN ha⟩,λn ea n1 n6 hb=>⟨"size",oS,by decide +kernel,rfl,hS n ea n1 n6 hb⟩,λn m ea eb n1 n6 m1 mn=>hR n m ea eb n1 n6 m1 mn⟩
end
section
variable{P:Qy}{w:Jg}{K:PySem.W.Frag}{mg:Str->Option Value}{base:J5}
theorem Qce:Jw ["_law_script", "_law_k", "_law_pot_here", "_law_n", "_law_many", "_law_due", "_law_turn", "_law_found", "_law_odd"] ["_law_script"] (Qt sLaw):=⟨rfl,rfl,rfl,by decide +kernel,rfl,by decide +kernel,by decide +kernel⟩
theorem Qwd{f f1 f2 f3 f4 f5 f6 f7  : Addr}{fd fd1 fd2 fd3 fd4 fd5 fd6 fd7:QN}(F:Fun K "law" "law" sLaw f fd)(T:GlbA mg)
  (m1:mg "_law_cell_at" = some (.ref f1))(G1:FnOk P w K mg base CX0 1 f1 fd1 ["_law_script", "_law_k"] (QcG K))(b1:Binds K fd1 ["_law_script", "_law_k"] [])(k1:PySem.W.keepIn K (.ref f1)=true)
  (m2:mg "_law_pot" = some (.ref f2))(G2:FnOk P w K mg base CX0 1 f2 fd2 ["_law_cell"] (Zj true QyD))(b2:Binds K fd2 ["_law_cell"] [])(k2:PySem.W.keepIn K (.ref f2)=true)
  (m3:mg "_law_take" = some (.ref f3))(G3:FnOk P w K mg base CX0 1 f3 fd3 ["_law_pot_here", "_law_far"] (Zj true Qn2))(b3:Binds K fd3 ["_law_pot_here", "_law_far"] [])(k3:PySem.W.keepIn K (.ref f3)=true)
  (m4:mg "_law_parted" = some (.ref f4))(G4:FnOk P w K mg base CX0 8 f4 fd4 ["_law_things", "_law_many"] (Zj true (Qdi 6)))(b4:Binds K fd4 ["_law_things", "_law_many"] [])(k4:PySem.W.keepIn K (.ref f4)=true)
  (m5:mg "_law_told" = some (.ref f5))(G5:FnOk P w K mg base CX0 8 f5 fd5 ["_law_n", "_law_many"] (Zj true Qsi))(b5:Binds K fd5 ["_law_n", "_law_many"] [])(k5:PySem.W.keepIn K (.ref f5)=true)
  (m6:mg "_law_same" = some (.ref f6))(G6:FnOk P w K mg base CX0 5 f6 fd6 ["_law_found", "_law_due"] (Zj false (Qst 3)))(b6:Binds K fd6 ["_law_found", "_law_due"] [])(k6:PySem.W.keepIn K (.ref f6)=true)
  (m7:mg "_law_no_things" = some (.ref f7))(G7:FnOk P w K mg base CX0 2 f7 fd7 ["_law_pot_here"] (Zj false QyW))(b7:Binds K fd7 ["_law_pot_here"] [])(k7:PySem.W.keepIn K (.ref f7)=true) :
  FnOk P w K mg base CX0 9 f fd ["_law_script"] (QeW K):=by
 refine QAt F Qce (λcdv A outer s H E hr=>?_);have hU:=Room.u60 hr;have hI:=Room.i60 hr;refine⟨_,Q7 (QbI J4 rfl (YX (by rfl) T.range (QZ (ZX (Qnn rfl) Quj (by rfl) T.max Qxa (Qcf (Jm JI) (Qcf (QZ (ZX (Qhn rfl) Qnj (by rfl) T.min QrU (Qcf (QZ (Qvv 0 (by rfl) T.len)) (Qcf (Jm JI) Jt)))) Jt))))) (Zc 1 Qce.nd rfl (by first | exact QV rfl | exact Q3 rfl))
    (Q7 (QsF 2 (Ys G2 (hr.mono (by decide)) (by rfl) m2 k2 b2 Yk (Yr (Zm (Qvx 0 G1 (hr.mono (by decide)) (by rfl) m1 k1 b1 (qp 1))) Za)) Qce.nd)
   (Q7 (QaD 3 (Zm (ZT Y7 Qbc (Jm JI) (QZ (Ys G3 (hr.mono (by decide)) (by rfl) m3 k3 b3 Yk (QgT 2 (Yr JI Za)))))) Qce.nd)
   (Q7 (QbI J4 rfl (QsJ (by rfl) T.range (Jm JI) (QZ (ZT Y7 Qbc (qp 3) (Jm JI)))) (Zc 4 Qce.nd rfl (by first | exact QV rfl | exact Q3 rfl))
    (Q7 (QaD 5 (Zm (Ys G4 (hr.mono (by decide)) (by rfl) m4 k4 b4 Yk (Yr (Zm (Qoo (by rfl) T.tuple (by rfl) T.range (qp 3))) (Yr (qv 4) Za)))) Qce.nd)
   (Jf (QbI J4 rfl (YX (by rfl) T.range (Jm JI)) (Zc 6 Qce.nd rfl (by first | exact QV rfl | exact Q3 rfl))
    (Q7 (Qcl 7 (Ys G5 (hr.mono (by decide)) (by rfl) m5 k5 b5 Yk (Yr (qv 3) (Yr (qv 4) Za))) Qce.nd)
   (Q7 (Qcm (QcJ (QdB (QZ (Qop G6 (hr.mono (by decide)) (by rfl) m6 k6 b6 Yk (Qcf (qp 7) (Qcf (qp 5) Jt)))))) (Jf (Qan QlJ)) YW)
   (Jf (Qrl 7 (Zm (QbB Jt))))))))))
   (Q7 (QaD 8 (Qd1 Yb QaI (QZ (QcL (Qa1 (Zm (QlI (Jm JI))) (Qa1 (Zm (ZT Qjh Qel (Jm JI) (Jm JI))) (Qa1 QlJ (Qa1 QlJ (Qa1 Qvu (Qa1 QeN (Qa1 (Zm (QbB Jt)) (Qa1 QyB (Qa1 (Zm (QbB (Qa1 JI Jt))) (Qa1 (Zm (QcL (Qa1 JI Jt))) Jt)))))))))))) (QZ (Ys G3 (hr.mono (by decide)) (by rfl) m3 k3 b3 Yk (QgT 2 (Yr JI Za)))) (λ_ _=>rfl)) Qce.nd)
   (Q7 (QbI J4 rfl (QbL (Zm (QcL (Qa1 JI (Qa1 (Zm (ZT Y7 Qbc (qp 3) (Jm JI))) (Qa1 (qv 8) Jt)))))) (Zc 4 Qce.nd rfl (by first | exact QV rfl | exact Q3 rfl))
    (Jf (Qcm (Qvs (Qol (Y5 Qji (Qpd hU) (QZ (Ys G5 (hr.mono (by decide)) (by rfl) m5 k5 b5 Yk (Yr (qv 3) (Yr (qv 4) Za)))) (Jm QeN) (Zu _)) (Qi5 (Y5 Qji (Qpd hU) (QZ (Ys G5 (hr.mono (by decide)) (by rfl) m5 k5 b5 Yk (Yr (Yp G7 (hr.mono (by decide)) (by rfl) m7 k7 b7 Yk (QgT 2 Za)) (Yr (qv 4) Za)))) (Jm QeN) (Zu _))))) (Jf (Qan QlJ)) YW)))
   (Jf (Qcm (Y5 Qji (Qpd hU) (QZ (Ys G5 (hr.mono (by decide)) (by rfl) m5 k5 b5 Yk (Yr (Yp G7 (hr.mono (by decide)) (by rfl) m7 k7 b7 Yk (QgT 2 Za)) (Yr JI Za)))) (Jm QeN) (Zu _)) (Jf (Qan QlJ)) YW))))))))
   (Jf (Qan QlJ)),?_⟩
 intro n0 n63;refine⟨⟨by split<;>split<;>omega,by split<;>split<;>omega⟩,Qev (λi δ=>∃x1 x2 x3 x4 x5 x6 x7 x8,δ=[.scr,x1,x2,x3,x4,x5,x6,x7,x8]) ⟨_,_,_,_,_,_,_,_,rfl⟩ ?_ ?_⟩
 ·rintro i δ hi ⟨x1,x2,x3,x4,x5,x6,x7,x8,rfl⟩;refine⟨by omega,λc=>⟨c,rfl,λn1=>?_⟩⟩;refine⟨_,rfl,by decide,by decide,λr1 r10 r11=>?_⟩;show(λd2=>Qzo (Qq 1) d2 _) (Qq r1);obtain⟨m,hm⟩:∃m:Nat,(1:Int)+r1=m:=⟨(1+r1).toNat,by omega⟩
  have m1:1<=m:=by omega
  have m6:m<=6:=by omega
  refine Qus hm ?_
  refine⟨⟨by omega,by omega,by omega,by omega⟩,QbS (λ_ δ=>∃x4 x5 x6 x7 x8,δ=[.scr,.v (.int (0+(i:Int))),.pot,.v (.int m),x4,x5,x6,x7,x8]) ⟨_,_,_,_,_,rfl⟩ ?_ ?_⟩
  ·rintro j d δ hd ⟨x4,x5,x6,x7,x8,rfl⟩;obtain⟨hj,rfl⟩:=QbH hd;obtain⟨q,hq⟩:∃q:Nat,(1:Int)+(j:Int)=q:=⟨(1+(j:Int)).toNat,by omega⟩
   rw[hq];have q1:1<=q:=by omega
   have qm:q<=m:=by omega
   refine⟨⟨by omega,by omega⟩,Qi0 m,q,by rw[Qsh],by rw[Qi0,Qg,Jd];exact m6,by omega,by omega,?_⟩;have few:=Qfa (m:=q) (ts:=Qi0 m) (by omega) (by rw[Qi0,Qg,Jd];exact m6);refine⟨⟨by decide,by decide⟩,Qev (λ_ δ=>∃x6 x7 x8,δ=[.scr,.v (.int (0+(i:Int))),.pot,.v (.int m),.v (.int q),.v (.list ((ZI q (Qi0 m)).map QaH)),x6,x7,x8]) ⟨_,_,_,rfl⟩ ?_ ?_⟩
   ·rintro tt δ _ ⟨x6,x7,x8,rfl⟩;refine⟨_,_,rfl,λha=>(QtG m1 m6 ha).elim,λnn en _ _ hb=>?_,λnn mm en em _ _ _ _=>?_⟩
    ·obtain rfl:m=nn:=Qfj en;rw[QeO (by omega) (by omega)] at hb;cases hb
    ·obtain rfl:m=nn:=Qfj en;obtain rfl:q=mm:=Qfj em;refine⟨_,rfl,QtI _,QmV (by omega) (λL hL=>by have:=Qej hL;omega) (λL hL l hl=>by have:=Qe8 hL l hl;rw[Qi0,Qg,Jd] at this;omega),rfl,?_⟩;exact⟨by rw[Qg];omega,_,_,_,rfl⟩
   ·rintro δ ⟨x6,x7,x8,rfl⟩;exact⟨_,_,_,_,_,rfl⟩
  ·rintro δ ⟨x4,x5,x6,x7,x8,rfl⟩;have cp:Qzv 10 30:=⟨by decide,by decide,by decide⟩;refine⟨cp,_,rfl,by decide,by decide,λr2 r20 r21=>Qwz r20 r21 λod hod=>?_⟩;have ob:=Zy (p:=λd=>inW d 1 m=false) (by exact QxE (by omega)) (Zy (QyV m6) (Zy rfl (Zy rfl (Zy rfl (Zy rfl (Zy rfl (Zy rfl (Zy rfl (Zy rfl Qnz))))))))) od hod;refine QbS (λ_ δ=>∃x4 x5 x6 x7 x8,δ=[.scr,.v (.int (0+(i:Int))),.pot,.v (.int m),x4,x5,x6,x7,x8]) ⟨_,_,_,_,_,rfl⟩ ?_ ?_
   ·rintro j d δ hd ⟨x4,x5,x6,x7,x8,rfl⟩;have db:inW d 1 m=false:=Zy (p:=λd=>inW d 1 m=false) (QxE (by omega)) (Zy (QxE (by omega)) (Zy ob Qnz)) d (Q9 hd);refine⟨_,_,rfl,λha=>(QtG m1 m6 ha).elim,λnn en _ _ hb=>?_,λnn mm en em _ _ h1 h2=>?_⟩
    ·refine⟨rfl,λno hno=>⟨_,_,rfl,λ_=>⟨_,_,_,_,_,rfl⟩,λnn en h1 h2 hb=>?_,λnn mm en em h1 h2 _ _=>?_⟩⟩
     ·subst en;rw[QeO (by omega) (by omega)] at hno;cases hno
     ·subst en;rw[QeO (by omega) (by omega)] at hno;cases hno
    ·obtain rfl:m=nn:=Qfj en;subst em;rw[QeO (by omega) (by omega)] at db;cases db
   ·rintro δ ⟨x4,x5,x6,x7,x8,rfl⟩;refine⟨rfl,λno hno=>⟨_,_,rfl,λ_=>⟨_,_,_,_,_,_,_,_,rfl⟩,λnn en h1 h2 hb=>?_,λnn mm en em h1 h2 _ _=>?_⟩⟩
    ·subst en;rw[QeO (by omega) (by omega)] at hno;cases hno
    ·subst en;rw[QeO (by omega) (by omega)] at hno;cases hno
 ·rintro δ ⟨x1,x2,x3,x4,x5,x6,x7,x8,rfl⟩;rfl
end
section
variable{P:Qy}{w:Jg}{K:PySem.W.Frag}{mg:Str->Option Value}{base:J5}
theorem QmT{fr:Bool}{k:Nat}{f:Addr}{fd:QN}{ps:List Str}:FnOk P w K mg base CX0 k f fd ps (Zj fr Qwk):=
 ⟨λvs H Q E q=>by obtain⟨_,_,_,_,_,_,_,_,h,_⟩:=q;exact h.elim,λA outer s H args us vs Q E hr he hb hv hs=>by obtain⟨_,_,_,_,_,_,_,_,h,_⟩:=hs;exact h.elim⟩
theorem Qfg{f:Addr}{fd:QN}(F:Fun K "_law_parted" "_law_parted" Qbk f fd)(T:GlbA mg)(m1:mg "_law_parted" = some (.ref f))(b1:Binds K fd ["_law_things", "_law_many"] [])(k1:PySem.W.keepIn K (.ref f)=true):∀M,FnOk P w K mg base CX0 (M+2) f fd ["_law_things", "_law_many"] (Zj true (Qdi M))
 |0=>Qkm F T m1 QmT b1 k1
 |M+1=>Qmi F T m1 (Qfg F T m1 b1 k1 M) b1 k1
end
end Rk
namespace Rk
open L2 _root_.Rd
def QwB:Qa->Bool
 |.tuple _=>true
 |.list _=>true
 |_=>false
def QAC:Qa->Bool
 |.list _=>true
 |_=>false
def QAz:Qa->Bool
 |.tuple _=>true
 |_=>false
def QAE:Qa->Bool
 |.bool _=>true
 |_=>false
def QAA:Qa->Bool
 |.str _=>true
 |_=>false
theorem QuR{K:PySem.W.Frag}{H:Hp}:∀{x:V}{d:Qa},Dat H x d->∃t,TyOf K H x t/\PySem.W.kitAny K t [.type "list",.type "tuple"]=some (QwB d)/\PySem.W.kitOne K t (.type "list")=some (QAC d)/\PySem.W.kitOne K t (.type "tuple")=some (QAz d) /\
  PySem.W.kitOne K t (.type "bool")=some (QAE d)/\PySem.W.kitOne K t (.type "str")=some (QAA d)
 |_,_,.non=>⟨_,.non,rfl,rfl,rfl,rfl,rfl⟩
 |_,_,.bl _=>⟨_,.bl _,rfl,rfl,rfl,rfl,rfl⟩
 |_,_,.int _=>⟨_,.int _,rfl,rfl,rfl,rfl,rfl⟩
 |_,_,.str _ _=>⟨_,.str _,rfl,rfl,rfl,rfl,rfl⟩
 |_,_,.tup e _=>⟨_,.tup e,rfl,rfl,rfl,rfl,rfl⟩
 |_,_,.lst e _=>⟨_,.lst e,rfl,rfl,rfl,rfl,rfl⟩
theorem Qwm:(["_law_one", "_law_other"]:List Str).Nodup:=by decide +kernel
def Qlm:Sp:=λvs H Q _=>∃p x,vs=[x]/\Kn p H x/\Q (.bl (isI x)) H
section
variable{P:Qy}{w:Jg}{K:PySem.W.Frag}{mg:Str->Option Value}{base:J5}
theorem Qod:Jw ["_law_thing"] ["_law_thing"] (Qt QdF):=⟨rfl,rfl,rfl,by decide +kernel,rfl,by decide +kernel,by decide +kernel⟩
theorem Qmf{f:Addr}{fd:QN}(F:Fun K "_law_whole" "_law_whole" QdF f fd)(T:GlbA mg):FnOk P w K mg base CX0 1 f fd ["_law_thing"] Qlm:=by
 refine F.ok Qod (λvs H Q E h=>?_) (λcdv A outer s H vs Q E hr h=>?_)
 ·obtain⟨p,x,rfl,_⟩:=h;rfl
 ·obtain⟨p,x,rfl,kn,k⟩:=h;refine⟨_,YY (QaG (Qg1 (Zh Zx (by rfl) T.isinstance JR (JA (pv 0) (JA (YZ (v:=.ty "int") (by rfl) T.int Qhr rfl) JQ)))
   (Qg0 (Qrv (Zh Zx (by rfl) T.isinstance JR (JA (pv 0) (JA (YZ (v:=.ty "bool") (by rfl) T.bool Qdv rfl) JQ))))))),?_⟩
  obtain⟨t,ty,e⟩:=Qpu (K:=K) kn;obtain⟨t2,ty2,e2⟩:=QmN (K:=K) kn;refine⟨_,rfl,_,t,_,_,rfl,ty,e,_,rfl,?_⟩;cases x with
  |int i=>exact Qf7 ⟨_,rfl,_,t2,_,_,rfl,ty2,e2,_,rfl,k⟩
  |bl i=>exact Qf7 ⟨_,rfl,_,t2,_,_,rfl,ty2,e2,_,rfl,k⟩
  |_=>exact Qin k
theorem Qvd:Jw ["_law_found", "_law_due"] ["_law_found", "_law_due"] (Qt Qkv):=⟨rfl,rfl,rfl,by decide +kernel,rfl,by decide +kernel,by decide +kernel⟩
theorem Qmg{f f1:Addr}{fd fd1:QN}(F:Fun K "_law_same" "_law_same" Qkv f fd)(T:GlbA mg)(mf:mg "_law_same" = some (.ref f))(bf:Binds K fd ["_law_found", "_law_due"] [])(kf:PySem.W.keepIn K (.ref f)=true)
  (m1:mg "_law_whole" = some (.ref f1))(G1:FnOk P w K mg base CX0 1 f1 fd1 ["_law_thing"] Qlm)(b1:Binds K fd1 ["_law_thing"] [])(k1:PySem.W.keepIn K (.ref f1)=true) :
  ∀n:Nat,FnOk P w K mg base CX0 (n+1) f fd ["_law_found", "_law_due"] (Qh1 n)
 |0=>⟨λ_ _ _ _ h=>h.elim,λ_ _ _ _ _ _ _ _ _ _ _ _ _ h=>h.elim⟩
 |n+1=>by
  have IH:=Qmg F T mf bf kf m1 G1 b1 k1 n;refine F.ok Qvd (λvs H Q E h=>?_) (λcdv A outer s H vs Q E hr h=>?_)
  ·obtain⟨x,y,d,rfl,_⟩:=h;rfl
  ·obtain⟨x,y,d,rfl,qx,qy,fl,k⟩:=h;have hr1:Room 1 _:=hr.mono (by omega);refine⟨_,Zq (Qh5 (QgX (Zh QkK (by rfl) T.isinstance JR (JA (pv 1) (JA (QlT (JA (YZ (v:=.ty "list") (by rfl) T.list Qgh rfl) (JA (YZ (v:=.ty "tuple") (by rfl) T.tuple YF rfl) JQ))) JQ))))
     (Zq (Qh5 (QlK (Qcn Qo3 (Zh Zx (by rfl) T.isinstance JR (JA (pv 1) (JA (YZ (v:=.ty "list") (by rfl) T.list Qgh rfl) JQ))) (Zh Zx (by rfl) T.isinstance JR (JA (pv 0) (JA (YZ (v:=.ty "list") (by rfl) T.list Qgh rfl) JQ))) (Zu _))
      (Qi7 (Qcn Qo3 (Zh Zx (by rfl) T.isinstance JR (JA (pv 1) (JA (YZ (v:=.ty "tuple") (by rfl) T.tuple YF rfl) JQ))) (Zh Zx (by rfl) T.isinstance JR (JA (pv 0) (JA (YZ (v:=.ty "tuple") (by rfl) T.tuple YF rfl) JQ))) (Zu _)))).pt (YY (QaG QoD)) Qco)
     (YY (QaG (Qg1 (Qeh Qts (Zh Qae (by rfl) T.len QaY (JA (pv 0) JQ)) (Zh Qae (by rfl) T.len QaY (JA (pv 1) JQ)) (Zu _))
      (Qg0 (Zh Qd5 (by rfl) T.all QjP (JA (Qje (M:=["_law_one", "_law_other"]) (cap:=[none,none]) (g:=Qy9 K 2 (Qpz (Qeu 0) (Qpz (Qeu 1) Qza))) (tc:=QhY) (te:=Qn3 (Qh1 n) [] E0 (QdM (QgF 0) (QdM (QgF 1) Qra))) rfl (by rfl)
       (QyF (Qrs (by rfl) T.zip (JA (pv 0) (JA (pv 1) JQ))) (QlQ (by rfl) T.zip (JA (pv 0) (JA (pv 1) JQ))))
       (λcl ex s3 H3 C=>⟨Qrt rfl (QfX (Qeg (i:=0) Qwm rfl (QV rfl) (Q3 rfl)) (QfX (Qeg (i:=1) Qwm rfl (QV rfl) (Q3 rfl)) QlS)),QlL,Qdh IH (hr.mono (Qi _)) (by rfl) mf kf bf .nil QvW (JA (pv 0) (JA (pv 1) JQ))⟩)) JQ)))))))
     Qco)
    (Zq (Qh5 (QlK (Qcn Qv3 (pv 1) Qrw (Zu _)) (QlK (QgX (Zh Zx (by rfl) T.isinstance JR (JA (pv 1) (JA (YZ (v:=.ty "bool") (by rfl) T.bool Qdv rfl) JQ)))) (Qi7 (QgX (Zh Zx (by rfl) T.isinstance JR (JA (pv 1) (JA (YZ (v:=.ty "str") (by rfl) T.str Qw9 rfl) JQ))))))).pt
     (YY (QaG (Qg1 (Qeh Qmd (pv 0) (pv 1) (Zu _)) (Qg0 (Qeh Qts (Zh Zx (by rfl) T.isinstance JR (JA (pv 0) (JA (YZ (v:=.ty "bool") (by rfl) T.bool Qdv rfl) JQ))) (Zh Zx (by rfl) T.isinstance JR (JA (pv 1) (JA (YZ (v:=.ty "bool") (by rfl) T.bool Qdv rfl) JQ))) (Zu _)))))) Qco)
    (YY (QaG (Qg1 (Qdh G1 hr1 (by rfl) m1 k1 b1 .nil QvW (JA (pv 0) JQ)) (Qg0 (Qeh Qmd (pv 0) (pv 1) (Zu _))))))),?_⟩
   refine⟨_,rfl,by show 2<=1000;decide,λtp H1 s1 n1 e1=>?_⟩;have qx1:=qx.same s1;have qy1:=qy.same s1;obtain⟨t,ty,a1,a2,a3,a4,a5⟩:=QuR (K:=K) qy1;obtain⟨t',ty',a1',a2',a3',a4',a5'⟩:=QuR (K:=K) qx1;refine⟨y,t,tp,["list", "tuple"],_,d,rfl,e1,qy1,ty,a1,_,rfl,?_⟩;have k1':∀H',Same H1 H'->Q (.bl true) H':=λH' s'=>k H' (s1.trans s')
   cases d with
   |tuple ds=>
    obtain⟨m,rfl⟩:∃m,n=m+1:=by
     cases n with
     |zero=>cases fl
     |succ m=>exact⟨m,rfl⟩
    have fl':=Qs.mp (show(decide (ds.length<=1000)&&ds.all (QcP m))=true from fl);have hdl:ds.length<=1000:=of_decide_eq_true fl'.1;refine Qf7 ?_
    cases qy1 with
    |@tup b ys _ eb qs=>
    cases qx1 with
    |@tup a xs _ ea ps=>
    refine⟨_,rfl,_,t,_,_,rfl,ty,a2,_,rfl,_,t',_,_,rfl,ty',a2',rfl,_,rfl,QmH rfl ?_⟩;refine⟨_,rfl,_,t,_,_,rfl,ty,a3,_,rfl,_,t',_,_,rfl,ty',a3',rfl,_,rfl,QmH rfl ?_⟩;have hxl:=ps.length;have hyl:=qs.length;refine⟨_,rfl,a,xs,rfl,.inr (SqT.of ea),_,rfl,b,ys,rfl,.inr (SqT.of eb),rfl,_,rfl,?_⟩;rw[show decide (V.int (xs.length:Nat)=V.int (ys.length:Nat))=true from decide_eq_true (by rw[hxl,hyl])];refine Qf7 (.inl ⟨_,rfl,_,rfl,a,b,xs,ys,rfl,ea,eb,λp hp=>?_⟩);refine Qfq ds.length (Qbj hdl) (λ_=>true) hp (λi H2 hi2 s2=>?_) (λH2 s2=>?_) λH2 s2 e2=>?_
    ·have hx:xs[i]? = some xs[i]:=Ql (by omega);have hy:ys[i]? = some ys[i]:=Ql (by omega);have ea2:=s2 a _ ea;have eb2:=s2 b _ eb;refine⟨⟨xs,ys,_,_,ea2,eb2,hx,hy⟩,λv H3 ⟨r,x',y',hr0,ex,ey,ev,eH⟩ kk hk=>?_⟩;have ex':=ex xs ea2;have ey':=ey ys eb2;rw[hx] at ex';rw[hy] at ey';cases ex';cases ey';subst ev eH;obtain⟨d1,hd1,q1⟩:=ps.get i _ hx;obtain⟨d2,hd2,q2⟩:=qs.get i _ hy;rw[hd1] at hd2;cases hd2;have fd1:QcP m d1=true:=Jz.mp fl'.2 d1 (Q9 hd1);refine⟨r,[xs[i],ys[i]],rfl,SqT.of Jl,rfl,xs[i],[ys[i]],rfl,ys[i],[],rfl,rfl,⟨trivial,?_⟩⟩;exact⟨_,rfl,_,rfl,xs[i],ys[i],d1,rfl,(q1.same s2).same (Ji hr0),(q2.same s2).same (Ji hr0),fd1,λH' s'=>hk H' ((Ji hr0).trans s')⟩
    ·refine⟨xs,ys,s2 a _ ea,s2 b _ eb,?_⟩;omega
    ·refine⟨p,_,rfl,SqL.of e2,rfl,?_⟩;have e3:((QQ ds.length).map λ_=>true).all id=true:=by
      rw[Jz];intro z hz;obtain⟨_,_,rfl⟩:=Qx.mp hz;rfl
     rw[e3];exact k1' H2 s2
   |list ds=>
    obtain⟨m,rfl⟩:∃m,n=m+1:=by
     cases n with
     |zero=>cases fl
     |succ m=>exact⟨m,rfl⟩
    have fl':=Qs.mp (show(decide (ds.length<=1000)&&ds.all (QcP m))=true from fl);have hdl:ds.length<=1000:=of_decide_eq_true fl'.1;refine Qf7 ?_
    cases qy1 with
    |@lst b ys _ eb qs=>
    cases qx1 with
    |@lst a xs _ ea ps=>
    refine⟨_,rfl,_,t,_,_,rfl,ty,a2,_,rfl,_,t',_,_,rfl,ty',a2',rfl,_,rfl,QmH rfl ?_⟩;refine⟨_,rfl,_,t,_,_,rfl,ty,a3,_,rfl,_,t',_,_,rfl,ty',a3',rfl,_,rfl,QmH rfl ?_⟩;have hxl:=ps.length;have hyl:=qs.length;refine⟨_,rfl,a,xs,rfl,.inl (SqL.of ea),_,rfl,b,ys,rfl,.inl (SqL.of eb),rfl,_,rfl,?_⟩;rw[show decide (V.int (xs.length:Nat)=V.int (ys.length:Nat))=true from decide_eq_true (by rw[hxl,hyl])];refine Qf7 (.inr ⟨_,rfl,_,rfl,a,b,xs,ys,rfl,ea,eb,λp hp=>?_⟩);refine Qfq ds.length (Qbj hdl) (λ_=>true) hp (λi H2 hi2 s2=>?_) (λH2 s2=>?_) λH2 s2 e2=>?_
    ·have hx:xs[i]? = some xs[i]:=Ql (by omega);have hy:ys[i]? = some ys[i]:=Ql (by omega);have ea2:=s2 a _ ea;have eb2:=s2 b _ eb;refine⟨⟨xs,ys,_,_,ea2,eb2,hx,hy⟩,λv H3 ⟨r,x',y',hr0,ex,ey,ev,eH⟩ kk hk=>?_⟩;have ex':=ex xs ea2;have ey':=ey ys eb2;rw[hx] at ex';rw[hy] at ey';cases ex';cases ey';subst ev eH;obtain⟨d1,hd1,q1⟩:=ps.get i _ hx;obtain⟨d2,hd2,q2⟩:=qs.get i _ hy;rw[hd1] at hd2;cases hd2;have fd1:QcP m d1=true:=Jz.mp fl'.2 d1 (Q9 hd1);refine⟨r,[xs[i],ys[i]],rfl,SqT.of Jl,rfl,xs[i],[ys[i]],rfl,ys[i],[],rfl,rfl,⟨trivial,?_⟩⟩;exact⟨_,rfl,_,rfl,xs[i],ys[i],d1,rfl,(q1.same s2).same (Ji hr0),(q2.same s2).same (Ji hr0),fd1,λH' s'=>hk H' ((Ji hr0).trans s')⟩
    ·refine⟨xs,ys,s2 a _ ea,s2 b _ eb,?_⟩;omega
    ·refine⟨p,_,rfl,SqL.of e2,rfl,?_⟩;have e3:((QQ ds.length).map λ_=>true).all id=true:=by
      rw[Jz];intro z hz;obtain⟨_,_,rfl⟩:=Qx.mp hz;rfl
     rw[e3];exact k1' H2 s2
   |none=>
    refine Qin ?_
    have hy:y=.non:=by cases qy1;rfl
    subst hy;refine⟨_,rfl,rfl,_,rfl,Qf7 (Qf7 ?_)⟩;refine⟨_,rfl,_,rfl,QcY,QcY,qx1,qy1,by rw[Qbq];show _+Jx QcY<cLine;rw[show Jx QcY=0 from by simp[Jx]];exact hr.units0,_,rfl,?_⟩;rw[QcX QcY rfl];refine Qf7 ?_
    refine⟨_,rfl,_,t',_,_,rfl,ty',a4',_,rfl,_,t,_,_,rfl,ty,a4,rfl,?_⟩;rw[show ∀b:Bool,decide (V.bl b=V.bl b)=true from λb=>decide_eq_true rfl];exact k1' H1 (Same.refl H1)
   |bool v=>
    refine Qin ?_
    have hy:y=.bl v:=by cases qy1;rfl
    subst hy;refine⟨_,rfl,rfl,_,rfl,Qin ?_⟩;refine⟨_,rfl,_,t,_,_,rfl,ty,a4,_,rfl,Qf7 (Qf7 ?_)⟩;refine⟨_,rfl,_,rfl,(Ym v),(Ym v),qx1,qy1,by rw[Qbq];show _+Jx (Ym v)<cLine;rw[show Jx (Ym v)=0 from by simp[Jx]];exact hr.units0,_,rfl,?_⟩;rw[QcX (Ym v) rfl];refine Qf7 ?_
    refine⟨_,rfl,_,t',_,_,rfl,ty',a4',_,rfl,_,t,_,_,rfl,ty,a4,rfl,?_⟩;rw[show ∀b:Bool,decide (V.bl b=V.bl b)=true from λb=>decide_eq_true rfl];exact k1' H1 (Same.refl H1)
   |str v=>
    refine Qin ?_
    have hy:y=.str v:=by cases qy1;rfl
    subst hy;have cl:YH (.str v)=true:=by cases qy1 with | str _ c=>exact c
    refine⟨_,rfl,rfl,_,rfl,Qin ?_⟩;refine⟨_,rfl,_,t,_,_,rfl,ty,a4,_,rfl,Qin ?_⟩;refine⟨_,rfl,_,t,_,_,rfl,ty,a5,_,rfl,Qf7 ?_⟩;refine⟨_,rfl,_,rfl,(QdQ v),(QdQ v),qx1,qy1,by rw[Qbq];show _+Jx (QdQ v)<cLine;rw[show Jx (QdQ v)=0 from by simp[Jx]];exact hr.units0,_,rfl,?_⟩;rw[QcX (QdQ v) cl];refine Qf7 ?_
    refine⟨_,rfl,_,t',_,_,rfl,ty',a4',_,rfl,_,t,_,_,rfl,ty,a4,rfl,?_⟩;rw[show ∀b:Bool,decide (V.bl b=V.bl b)=true from λb=>decide_eq_true rfl];exact k1' H1 (Same.refl H1)
   |int i=>
    refine Qin ?_
    have hy:y=.int i:=by cases qy1;rfl
    have hx:x=.int i:=by cases qx1;rfl
    subst hy;subst hx;refine⟨_,rfl,rfl,_,rfl,Qin ?_⟩;refine⟨_,rfl,_,t,_,_,rfl,ty,a4,_,rfl,Qin ?_⟩;refine⟨_,rfl,_,t,_,_,rfl,ty,a5,_,rfl,Qin ?_⟩;refine⟨_,rfl,0,.int i,rfl,trivial,_,rfl,Qf7 ?_⟩;refine⟨_,rfl,_,rfl,.int i,.int i,qx1,qy1,by rw[Qbq];show _+Jx (.int i)<cLine;rw[show Jx (.int i)=0 from by simp[Jx]];exact hr.units0,?_⟩;rw[QcX (.int i) rfl];exact k1' H1 (Same.refl H1)
   |dict ds=>cases qx
end
section
variable{P:Qy}{w:Jg}{K:PySem.W.Frag}{mg:Str->Option Value}{base:J5}
theorem QdA:Jw ["_law_e", "_law_some", "_law_words"] ["_law_e"] (Qt Qkw):=⟨rfl,rfl,rfl,by decide +kernel,rfl,by decide +kernel,by decide +kernel⟩
theorem QtC{f c1 c2 c3 c4 c5 c6 c7 c8 c9 c10 c11 c12 c13 c14 c15 c16 c17 c18 c19:Addr}{fd:QN}(F:Fun K "_law_kind_of" "_law_kind_of" Qkw f fd)(T:GlbA mg)(mV:mg "ValueError" = none)
  (m1:mg "NoText" = some (.ref c1))(m2:mg "NoOrder" = some (.ref c2))(m3:mg "NoLines" = some (.ref c3))(m4:mg "TooFew" = some (.ref c4))(m5:mg "NoSize" = some (.ref c5))(m6:mg "TooMany" = some (.ref c6))(m7:mg "NoNumber" = some (.ref c7))(m8:mg "NoStand" = some (.ref c8))(m9:mg "NoCell" = some (.ref c9))(m10:mg "NotSquare" = some (.ref c10))(m11:mg "NoHits" = some (.ref c11))(m12:mg "NoCounts" = some (.ref c12))(m13:mg "NoStairs" = some (.ref c13))(m14:mg "NotAlike" = some (.ref c14))(m15:mg "NoParting" = some (.ref c15))(m16:mg "NoPlace" = some (.ref c16))(m17:mg "Double" = some (.ref c17))(m18:mg "NoDeed" = some (.ref c18))(m19:mg "NoRow" = some (.ref c19)) :
  Rx.FnM P w K mg base 1 f fd ["_law_e"] (QiV K [c1,c2,c3,c4,c5,c6,c7,c8,c9,c10,c11,c12,c13,c14,c15,c16,c17,c18,c19]):=by
 refine Rx.okM F QdA (λvs H Q E h=>?_) (λcdv A outer s H vs Q E hr h=>?_)
 ·obtain⟨a,C,bs,j,wd,rfl,_⟩:=h;rfl
 ·obtain⟨a,C,bs,j,wd,rfl,ha,hc,pb,eV,hcnt,hj,hm,hw,k⟩:=h;refine' ⟨_,Zq (QaF (i:=1) QdA.nd rfl (QV rfl) (QbN (Qfc (x := "_law_e") (ns:=["NoText", "NoOrder", "NoLines", "TooFew"]) (cs:=[c1,c2,c3,c4]) rfl (QV rfl) (by decide) (by decide) (by rfl) T.isinstance (by decide +kernel) (by rfl) (.cons m1 (.cons m2 (.cons m3 (.cons m4 .nil))))))) ?p1,?rd⟩
  case p1=>
   show PSs _ _ _;refine' Zq (QaF (i:=1) QdA.nd rfl (QV rfl) (Qas Qek (pv 1) (QbN (Qfc (x := "_law_e") (ns:=["NoSize", "TooMany", "NoNumber", "NoStand"]) (cs:=[c5,c6,c7,c8]) rfl (QV rfl) (by decide) (by decide) (by rfl) T.isinstance (by decide +kernel) (by rfl) (.cons m5 (.cons m6 (.cons m7 (.cons m8 .nil)))))))) ?_
   show PSs _ _ _;refine' Zq (QaF (i:=1) QdA.nd rfl (QV rfl) (Qas Qek (pv 1) (QbN (Qfc (x := "_law_e") (ns:=["NoCell", "NotSquare", "NoHits", "NoCounts"]) (cs:=[c9,c10,c11,c12]) rfl (QV rfl) (by decide) (by decide) (by rfl) T.isinstance (by decide +kernel) (by rfl) (.cons m9 (.cons m10 (.cons m11 (.cons m12 .nil)))))))) ?_
   show PSs _ _ _;refine' Zq (QaF (i:=1) QdA.nd rfl (QV rfl) (Qas Qek (pv 1) (QbN (Qfc (x := "_law_e") (ns:=["NoStairs", "NotAlike", "NoParting", "NoPlace"]) (cs:=[c13,c14,c15,c16]) rfl (QV rfl) (by decide) (by decide) (by rfl) T.isinstance (by decide +kernel) (by rfl) (.cons m13 (.cons m14 (.cons m15 (.cons m16 .nil)))))))) ?_
   show PSs _ _ _;refine' Zq (QaF (i:=1) QdA.nd rfl (QV rfl) (Qas Qek (pv 1) (QbN (Qfc (x := "_law_e") (ns:=["Double", "NoDeed", "NoRow"]) (cs:=[c17,c18,c19]) rfl (QV rfl) (by decide) (by decide) (by rfl) T.isinstance (by decide +kernel) (by rfl) (.cons m17 (.cons m18 (.cons m19 .nil))))))) ?_
   show PSs _ _ _;refine' Zq (Qh5 (QlK (Qcn Qo3 (QlY PySem.F.plainAttrs_list PySem.F.slot_list_count PySem.F.type_list_count Rx.Qpk (pv 1) (JA QoD JQ)) Yy (Zu _)) (Qi7 (Qrn (QgX (Zh Rx.Qhp (by rfl) T.isinstance JR (JA (pv 0) (JA (YZ (v:=.ty "ValueError") (by rfl) mV Qzm rfl) JQ))))))).pt (YY (QaG QlU)) Qco) ?_
   show PSs _ _ _;refine' Zq ?a1 ?_
   case a1=>
    refine' QaF (i:=2) (hs:=?hh) (hf:=?hf) ?hN ?hi ?hx ?he
    case hN=>exact QdA.nd
    case hi=>exact rfl
    case hx=>exact QV rfl
    case hf=>exact QV rfl
    case hh=>kernel_rfl
    case he=>
     refine' QbN ?ww
     case ww=>exact Qh7 (ws:=QgB.take 10) (by kernel_rfl)
   show PSs _ _ _;refine' Zq ?a2 ?_
   case a2=>
    refine' QaF (i:=2) (hs:=?hh) (hf:=?hf) ?hN ?hi ?hx ?he
    case hN=>exact QdA.nd
    case hi=>exact rfl
    case hx=>exact QV rfl
    case hf=>exact QV rfl
    case hh=>kernel_rfl
    case he=>
     refine' Qas Qek (pv 2) ?ww
     case ww=>
      refine' QbN ?w2
      case w2=>exact Qh7 (ws:=QgB.drop 10) (by kernel_rfl)
   show PSs _ _ _;exact YY (QaG (QlW Qer (pv 2) (QlY PySem.F.plainAttrs_list PySem.F.slot_list_index PySem.F.type_list_index Rx.Qpj (pv 1) (JA QoD JQ)) (λ_ _=>rfl)))
  obtain⟨b1,bs1,rfl,q1,pb1⟩:=JJ pb;obtain⟨b2,bs2,rfl,q2,pb2⟩:=JJ pb1;obtain⟨b3,bs3,rfl,q3,pb3⟩:=JJ pb2;obtain⟨b4,bs4,rfl,q4,pb4⟩:=JJ pb3;obtain⟨b5,bs5,rfl,q5,pb5⟩:=JJ pb4;obtain⟨b6,bs6,rfl,q6,pb6⟩:=JJ pb5;obtain⟨b7,bs7,rfl,q7,pb7⟩:=JJ pb6;obtain⟨b8,bs8,rfl,q8,pb8⟩:=JJ pb7;obtain⟨b9,bs9,rfl,q9,pb9⟩:=JJ pb8;obtain⟨b10,bs10,rfl,q10,pb10⟩:=JJ pb9;obtain⟨b11,bs11,rfl,q11,pb11⟩:=JJ pb10;obtain⟨b12,bs12,rfl,q12,pb12⟩:=JJ pb11;obtain⟨b13,bs13,rfl,q13,pb13⟩:=JJ pb12;obtain⟨b14,bs14,rfl,q14,pb14⟩:=JJ pb13;obtain⟨b15,bs15,rfl,q15,pb15⟩:=JJ pb14;obtain⟨b16,bs16,rfl,q16,pb16⟩:=JJ pb15;obtain⟨b17,bs17,rfl,q17,pb17⟩:=JJ pb16;obtain⟨b18,bs18,rfl,q18,pb18⟩:=JJ pb17;obtain⟨b19,bs19,rfl,q19,pb19⟩:=JJ pb18;cases Qkj pb19;refine⟨a,C,[b1,b2,b3,b4],rfl,ha,hc,(.cons q1 (.cons q2 (.cons q3 (.cons q4 .nil)))),by show 4<=1000;decide,λl1 H1 s1 n1 e_1=>?_⟩;have h1:=s1 _ _ ha;refine⟨_,rfl,a,C,[b5,b6,b7,b8],rfl,h1,hc,(.cons q5 (.cons q6 (.cons q7 (.cons q8 .nil)))),by show 4<=1000;decide,λl2 H2 s2 n2 e_2=>⟨l1,l2,_,_,rfl,rfl,s2 _ _ e_1,e_2,by show 8<=1000;decide,λl3 H3 s3 n3 e_3=>?_⟩⟩;have h3:=s3 _ _ (s2 _ _ h1);refine⟨_,rfl,a,C,[b9,b10,b11,b12],rfl,h3,hc,(.cons q9 (.cons q10 (.cons q11 (.cons q12 .nil)))),by show 4<=1000;decide,λl4 H4 s4 n4 e_4=>⟨l3,l4,_,_,rfl,rfl,s4 _ _ e_3,e_4,by show 12<=1000;decide,λl5 H5 s5 n5 e_5=>?_⟩⟩;have h5:=s5 _ _ (s4 _ _ h3);refine⟨_,rfl,a,C,[b13,b14,b15,b16],rfl,h5,hc,(.cons q13 (.cons q14 (.cons q15 (.cons q16 .nil)))),by show 4<=1000;decide,λl6 H6 s6 n6 e_6=>⟨l5,l6,_,_,rfl,rfl,s6 _ _ e_5,e_6,by show 16<=1000;decide,λl7 H7 s7 n7 e_7=>?_⟩⟩;have h7:=s7 _ _ (s6 _ _ h5);refine⟨_,rfl,a,C,[b17,b18,b19],rfl,h7,hc,(.cons q17 (.cons q18 (.cons q19 .nil))),by show 3<=1000;decide,λl8 H8 s8 n8 e_8=>⟨l7,l8,_,_,rfl,rfl,s8 _ _ e_7,e_8,by show 19<=1000;decide,λl9 H9 s9 n9 e_9=>?_⟩⟩;have h9:=s9 _ _ (s8 _ _ h7);have S:=((((((((s1.trans s2).trans s3).trans s4).trans s5).trans s6).trans s7).trans s8).trans s9);have EL:H9 l9=some (.lst (([b1,b2,b3,b4,b5,b6,b7,b8,b9,b10,b11,b12,b13,b14,b15,b16,b17,b18,b19]:List Bool).map V.bl)):=e_9;refine⟨_,rfl,.inl ⟨rfl,_,SqL.of EL⟩,l9,_,rfl,rfl,EL,rfl,_,rfl,?_⟩;rw[hcnt];refine QmH rfl ?_
  refine⟨_,rfl,a,C,.ty "ValueError",.type "ValueError",true,rfl,h9,hc,(λu r=>r),eV,_,rfl,?_⟩;refine⟨by show 10<=1000;decide,λl10 H10 s10 n10 e_10=>?_⟩;refine⟨_,rfl,by show 9<=1000;decide,λl11 H11 s11 n11 e_11=>⟨l10,l11,_,_,rfl,rfl,s11 _ _ e_10,e_11,by show 19<=1000;decide,λl12 H12 s12 n12 e_12=>?_⟩⟩;have EL2:=s12 _ _ (s11 _ _ (s10 _ _ EL));refine⟨_,rfl,_,rfl,.inl ⟨rfl,_,SqL.of EL2⟩,l9,_,j,rfl,rfl,EL2,hj,hm,?_⟩;have EW:H12 l12=some (.lst (QgB.map V.str)):=e_12;exact⟨l12,_,_,.str wd,rfl,rfl,SqL.of EW,ZY (by rw[QR,hw];rfl),k H12 (((S.trans s10).trans s11).trans s12)⟩
end
end Rk
def PySem.W.Fast.tw4494441829429223393:Nat:=0
def PySem.W.Fast.tw16036035479270859235:Nat:=0
def PySem.W.Fast.tw1819801661422244790:Nat:=0
def PySem.W.Fast.tw1978053365589715365:Nat:=0
def PySem.W.Fast.tw12133108038416965278:Nat:=0
def PySem.W.Fast.tw2140418908966304883:Nat:=0
def PySem.W.Fast.tw17571657915401877892:Nat:=0
def PySem.W.Fast.tw14762875824116863386:Nat:=0
def PySem.W.Fast.tw14750291827372327996:Nat:=0
def PySem.W.Fast.tw2597136215059205787:Nat:=0
def PySem.W.Fast.tw6198920979431864118:Nat:=0
def PySem.W.Fast.tw16702791883458042827:Nat:=0
def PySem.W.Fast.tw9031145437511088086:Nat:=0
def PySem.W.Fast.tw14305549634025106052:Nat:=0
def PySem.W.Fast.tw18086669024011638049:Nat:=0
def PySem.W.Fast.tw15918870960135992403:Nat:=0
def PySem.W.Fast.tw13058163347835550549:Nat:=0
def PySem.W.Fast.tw5026222395475059305:Nat:=0
def PySem.W.Fast.tw2853193965871533720:Nat:=0
def PySem.W.Fast.tw10683975595420906984:Nat:=0
def PySem.W.Fast.tw9200950484431154489:Nat:=0
def PySem.W.Fast.tw2301662544586412326:Nat:=0
def PySem.W.Fast.tw3664217916637102750:Nat:=0
def PySem.W.Fast.tw14263445445031066181:Nat:=0
def PySem.W.Fast.tw7700135745441585266:Nat:=0
def PySem.W.Fast.tw15571538882037224437:Nat:=0
def PySem.W.Fast.tw16574750706204559375:Nat:=0
def PySem.W.Fast.tw10456001608868338315:Nat:=0
def PySem.W.Fast.tw12196051029709029382:Nat:=0
def PySem.W.Fast.tw10766177370670899207:Nat:=0
def PySem.W.Fast.tw8080728901833299045:Nat:=0
def PySem.W.Fast.tw133570876910173346:Nat:=0
def PySem.W.Fast.tw16605128588991214513:Nat:=0
def PySem.W.Fast.tw15191091415427636523:Nat:=0
def PySem.W.Fast.tw1634151751019072474:Nat:=0
def PySem.W.Fast.tw17757692900382765243:Nat:=0
def PySem.W.Fast.tw3426827308920330268:Nat:=0
def PySem.W.Fast.tw13630145498689364103:Nat:=0
def PySem.W.Fast.tw10636373484950438296:Nat:=0
def PySem.W.Fast.tw8819513558193537325:Nat:=0
def PySem.W.Fast.tw14763804859648914894:Nat:=0
def PySem.W.Fast.tw10928864102684529712:Nat:=0
def PySem.W.Fast.tw7846621036743213891:Nat:=0
def PySem.W.Fast.tw17921440773339867196:Nat:=0
def PySem.W.Fast.tw16973449701384073153:Nat:=0
def PySem.W.Fast.tw1851233531038636975:Nat:=0
def PySem.W.Fast.tw5992982634767050707:Nat:=0
def PySem.W.Fast.tw5075005621093757344:Nat:=0
def PySem.W.Fast.tw9020489654545423867:Nat:=0
def PySem.W.Fast.tw3657224680527145136:Nat:=0
def PySem.W.Fast.tw14621202247955278699:Nat:=0
def PySem.W.Fast.tw13412878408801763987:Nat:=0
def PySem.W.Fast.tw1763458105681970554:Nat:=0
def PySem.W.Fast.tw16967155116067458625:Nat:=0
def PySem.W.Fast.tw14659531083672158730:Nat:=0
def PySem.W.Fast.tw16954614898523565063:Nat:=0
def PySem.W.Fast.tw7250505344532279292:Nat:=0
def PySem.W.Fast.tw10544531046126379099:Nat:=0
def PySem.W.Fast.tw8845667064695514527:Nat:=0
def PySem.W.Fast.tw12126363846723329441:Nat:=0
def PySem.W.Fast.tw16361734574923358491:Nat:=0
def PySem.W.Fast.tw5165472239776631334:Nat:=0
def PySem.W.Fast.tw13831991762734876232:Nat:=0
def PySem.W.Fast.tw4870891551039238977:Nat:=0
def PySem.W.Fast.tw11718315461915190540:Nat:=0
def PySem.W.Fast.tw3289296781305769189:Nat:=0
def PySem.W.Fast.tw16392736765782766600:Nat:=0
def PySem.W.Fast.tw4563056899187179686:Nat:=0
def PySem.W.Fast.tw15507497641181324903:Nat:=0
def PySem.W.Fast.tw9589208508366722754:Nat:=0
def PySem.W.Fast.tw11557406482828307160:Nat:=0
def PySem.W.Fast.tw15326263528070442510:Nat:=0
def PySem.W.Fast.tw15252112162300615796:Nat:=0
def PySem.W.Fast.tw8281488526223943036:Nat:=0
def PySem.W.Fast.tw10896689536965304634:Nat:=0
def PySem.W.Fast.tw22051559947959486:Nat:=0
def PySem.W.Fast.tw18039594759479634294:Nat:=0
def PySem.W.Fast.tw11088227803749054684:Nat:=0
def PySem.W.Fast.tw1363603920476654057:Nat:=0
def PySem.W.Fast.tw16791740833359902281:Nat:=0
def PySem.W.Fast.tw809291086238939328:Nat:=0
def PySem.W.Fast.tw16541801714645884862:Nat:=0
def PySem.W.Fast.tw11240518861996992681:Nat:=0
def PySem.W.Fast.tw16164588386945864512:Nat:=0
def PySem.W.Fast.tw10678975819069887934:Nat:=0
def PySem.W.Fast.tw15068142941243610653:Nat:=0
def PySem.W.Fast.tw15767360430994636479:Nat:=0
def PySem.W.Fast.tw12945006313840079418:Nat:=0
def PySem.W.Fast.tw8300735696313203110:Nat:=0
def PySem.W.Fast.tw13382570478967953800:Nat:=0
def PySem.W.Fast.tw2721040087921712879:Nat:=0
def PySem.W.Fast.tw11953390664243289686:Nat:=0
def PySem.W.Fast.tw14615106746174611304:Nat:=0
def PySem.W.Fast.tw12035765054910225289:Nat:=0
def PySem.W.Fast.tw8704546739184221123:Nat:=0
def PySem.W.Fast.tw1470497717317068790:Nat:=0
def PySem.W.Fast.tw1723280230563708469:Nat:=0
def PySem.W.Fast.tw13708045025788274594:Nat:=0
def PySem.W.Fast.tw17902792990008516273:Nat:=0
def PySem.W.Fast.tw9567183349370675007:Nat:=0
def PySem.W.Fast.tw2730368076937445348:Nat:=0
def PySem.W.Fast.tw8974227042502401746:Nat:=0
def PySem.W.Fast.tw447194298417327092:Nat:=0
def PySem.W.Fast.tw252348182843696707:Nat:=0
def PySem.W.Fast.tw9608129210265233115:Nat:=0
def PySem.W.Fast.tw9360745637010597016:Nat:=0
def PySem.W.Fast.tw2628227664118900430:Nat:=0
def PySem.W.Fast.tw13473298910372266768:Nat:=0
def PySem.W.Fast.tw12914796845978338486:Nat:=0
def PySem.W.Fast.tw3290513060635345504:Nat:=0
def PySem.W.Fast.tw9069181672972024268:Nat:=0
def PySem.W.Fast.tw8506843913077614095:Nat:=0
def PySem.W.Fast.tw2217801598533316188:Nat:=0
def PySem.W.Fast.tw13391519528320401119:Nat:=0
def PySem.W.Fast.tw4063034657329544361:Nat:=0
namespace Rk
open L2
theorem Qxg{l:PySem.W.OpenLaw}{w:Jg}{K:PySem.W.Frag}{h:J5}{mg:Str->Option Value}{fa f1 f2 f3 f4 f5 f6 f7 f8 f9 f10 f11 f12 f13 f14 f15 f16 f17 f18 f19 f20 f21 f22 f23 f24 f25 f26 f27 f28 f29 f30:Addr}(X:K.In h)(G:h.Ns mainGlobals mg)(hfa:mg "law" = some (.ref fa))
  {od1 an1 od2 an2 od3 an3 od4 an4 od5 an5 od6 an6 od7 an7 od8 an8 od9 an9 od10 an10 od11 an11 od12 an12 od13 an13 od14 an14 od15 an15 od16 an16 od17 an17 od18 an18 od19 an19 od20 an20 od21 an21 od22 an22 od23 an23 od24 an24 od25 an25 od26 an26 od27 an27 od28 an28 od29 an29 od30 an30:Option Addr} {sl1 sl2 sl3 sl4 sl5 sl6 sl7 sl8 sl9 sl10 sl11 sl12 sl13 sl14 sl15 sl16 sl17 sl18 sl19 sl20 sl21 sl22 sl23 sl24 sl25 sl26 sl27 sl28 sl29 sl30:Array (Option Value)} {oc1 kV1 dc1 pm1 cd1 ct1 oc2 kV2 dc2 pm2 cd2 ct2 oc3 kV3 dc3 pm3 cd3 ct3 oc4 kV4 dc4 pm4 cd4 ct4 oc5 kV5 dc5 pm5 cd5 ct5 oc6 kV6 dc6 pm6 cd6 ct6 oc7 kV7 dc7 pm7 cd7 ct7 oc8 kV8 dc8 pm8 cd8 ct8 oc9 kV9 dc9 pm9 cd9 ct9 oc10 kV10 dc10 pm10 cd10 ct10 oc11 kV11 dc11 pm11 cd11 ct11 oc12 kV12 dc12 pm12 cd12 ct12 oc13 kV13 dc13 pm13 cd13 ct13 oc14 kV14 dc14 pm14 cd14 ct14 oc15 kV15 dc15 pm15 cd15 ct15 oc16 kV16 dc16 pm16 cd16 ct16 oc17 kV17 dc17 pm17 cd17 ct17 oc18 kV18 dc18 pm18 cd18 ct18 oc19 kV19 dc19 pm19 cd19 ct19 oc20 kV20 dc20 pm20 cd20 ct20 oc21 kV21 dc21 pm21 cd21 ct21 oc22 kV22 dc22 pm22 cd22 ct22 oc23 kV23 dc23 pm23 cd23 ct23 oc24 kV24 dc24 pm24 cd24 ct24 oc25 kV25 dc25 pm25 cd25 ct25 oc26 kV26 dc26 pm26 cd26 ct26 oc27 kV27 dc27 pm27 cd27 ct27 oc28 kV28 dc28 pm28 cd28 ct28 oc29 kV29 dc29 pm29 cd29 ct29 oc30 kV30 dc30 pm30 cd30 ct30:Value}
  (a1:PySem.W.nsIn K mainGlobals "is_whole" = some (some (.ref f1))) (l1:K.lookup f1=some ⟨oc1,od1,.func (PySem.W.fnOf "is_whole" "is_whole" (JU QeY) (Ju QeY) (Qt QeY) .none kV1 dc1 pm1 an1 cd1 ct1),sl1⟩) (c1:PySem.W.codeIn K cd1 "is_whole" = true) (k1:PySem.W.keepIn K (.ref f1)=true)
  (a2:PySem.W.nsIn K mainGlobals "is_whole_within" = some (some (.ref f2)))(l2:K.lookup f2=some ⟨oc2,od2,.func (PySem.W.fnOf "is_whole_within" "is_whole_within" (JU Qda) (Ju Qda) (Qt Qda) .none kV2 dc2 pm2 an2 cd2 ct2),sl2⟩)(c2:PySem.W.codeIn K cd2 "is_whole_within" = true)(k2:PySem.W.keepIn K (.ref f2)=true)
  (a3:PySem.W.nsIn K mainGlobals "is_rising" = some (some (.ref f3)))(l3:K.lookup f3=some ⟨oc3,od3,.func (PySem.W.fnOf "is_rising" "is_rising" (JU Qdb) (Ju Qdb) (Qt Qdb) .none kV3 dc3 pm3 an3 cd3 ct3),sl3⟩)(c3:PySem.W.codeIn K cd3 "is_rising" = true)(k3:PySem.W.keepIn K (.ref f3)=true)
  (a4:PySem.W.nsIn K mainGlobals "is_cells" = some (some (.ref f4)))(l4:K.lookup f4=some ⟨oc4,od4,.func (PySem.W.fnOf "is_cells" "is_cells" (JU Qe5) (Ju Qe5) (Qt Qe5) .none kV4 dc4 pm4 an4 cd4 ct4),sl4⟩)(c4:PySem.W.codeIn K cd4 "is_cells" = true)(k4:PySem.W.keepIn K (.ref f4)=true)
  (a5:PySem.W.nsIn K mainGlobals "is_place" = some (some (.ref f5)))(l5:K.lookup f5=some ⟨oc5,od5,.func (PySem.W.fnOf "is_place" "is_place" (JU Qe2) (Ju Qe2) (Qt Qe2) .none kV5 dc5 pm5 an5 cd5 ct5),sl5⟩)(c5:PySem.W.codeIn K cd5 "is_place" = true)(k5:PySem.W.keepIn K (.ref f5)=true)
  (a6:PySem.W.nsIn K mainGlobals "is_stand" = some (some (.ref f6)))(l6:K.lookup f6=some ⟨oc6,od6,.func (PySem.W.fnOf "is_stand" "is_stand" (JU Qe0) (Ju Qe0) (Qt Qe0) .none kV6 dc6 pm6 an6 cd6 ct6),sl6⟩)(c6:PySem.W.codeIn K cd6 "is_stand" = true)(k6:PySem.W.keepIn K (.ref f6)=true)
  (a7:PySem.W.nsIn K mainGlobals "are_apart" = some (some (.ref f7)))(l7:K.lookup f7=some ⟨oc7,od7,.func (PySem.W.fnOf "are_apart" "are_apart" (JU Qe6) (Ju Qe6) (Qt Qe6) .none kV7 dc7 pm7 an7 cd7 ct7),sl7⟩)(c7:PySem.W.codeIn K cd7 "are_apart" = true)(k7:PySem.W.keepIn K (.ref f7)=true)
  (a8:PySem.W.nsIn K mainGlobals "counts" = some (some (.ref f8)))(l8:K.lookup f8=some ⟨oc8,od8,.func (PySem.W.fnOf "counts" "counts" (JU Qdc) (Ju Qdc) (Qt Qdc) .none kV8 dc8 pm8 an8 cd8 ct8),sl8⟩)(c8:PySem.W.codeIn K cd8 "counts" = true)(k8:PySem.W.keepIn K (.ref f8)=true)
  (a9:PySem.W.nsIn K mainGlobals "most_size" = some (some (.ref f9)))(l9:K.lookup f9=some ⟨oc9,od9,.func (PySem.W.fnOf "most_size" "most_size" (JU Qkf) (Ju Qkf) (Qt Qkf) .none kV9 dc9 pm9 an9 cd9 ct9),sl9⟩)(c9:PySem.W.codeIn K cd9 "most_size" = true)(k9:PySem.W.keepIn K (.ref f9)=true)
  (a10:PySem.W.nsIn K mainGlobals "stands_of" = some (some (.ref f10)))(l10:K.lookup f10=some ⟨oc10,od10,.func (PySem.W.fnOf "stands_of" "stands_of" (JU Qa9) (Ju Qa9) (Qt Qa9) .none kV10 dc10 pm10 an10 cd10 ct10),sl10⟩)(c10:PySem.W.codeIn K cd10 "stands_of" = true)(k10:PySem.W.keepIn K (.ref f10)=true)
  (a11:PySem.W.nsIn K mainGlobals "every_stand" = some (some (.ref f11)))(l11:K.lookup f11=some ⟨oc11,od11,.func (PySem.W.fnOf "every_stand" "every_stand" (JU Qe4) (Ju Qe4) (Qt Qe4) .none kV11 dc11 pm11 an11 cd11 ct11),sl11⟩)(c11:PySem.W.codeIn K cd11 "every_stand" = true)(k11:PySem.W.keepIn K (.ref f11)=true)
  (a12:PySem.W.nsIn K mainGlobals "refuse_no_size" = some (some (.ref f12)))(l12:K.lookup f12=some ⟨oc12,od12,.func (PySem.W.fnOf "refuse_no_size" "refuse_no_size" (JU Qe1) (Ju Qe1) (Qt Qe1) .none kV12 dc12 pm12 an12 cd12 ct12),sl12⟩)(c12:PySem.W.codeIn K cd12 "refuse_no_size" = true)(k12:PySem.W.keepIn K (.ref f12)=true)
  (a13:PySem.W.nsIn K mainGlobals "followers" = some (some (.ref f13)))(l13:K.lookup f13=some ⟨oc13,od13,.func (PySem.W.fnOf "followers" "followers" (JU sFol) (Ju sFol) (Qt sFol) .none kV13 dc13 pm13 an13 cd13 ct13),sl13⟩)(c13:PySem.W.codeIn K cd13 "followers" = true)(k13:PySem.W.keepIn K (.ref f13)=true)
  (a14:PySem.W.nsIn K mainGlobals "row_behind" = some (some (.ref f14)))(l14:K.lookup f14=some ⟨oc14,od14,.func (PySem.W.fnOf "row_behind" "row_behind" (JU Qkd) (Ju Qkd) (Qt Qkd) .none kV14 dc14 pm14 an14 cd14 ct14),sl14⟩)(c14:PySem.W.codeIn K cd14 "row_behind" = true)(k14:PySem.W.keepIn K (.ref f14)=true)
  (a15:PySem.W.nsIn K mainGlobals "ways_to_go_on" = some (some (.ref f15)))(l15:K.lookup f15=some ⟨oc15,od15,.func (PySem.W.fnOf "ways_to_go_on" "ways_to_go_on" (JU Qkc) (Ju Qkc) (Qt Qkc) .none kV15 dc15 pm15 an15 cd15 ct15),sl15⟩)(c15:PySem.W.codeIn K cd15 "ways_to_go_on" = true)(k15:PySem.W.keepIn K (.ref f15)=true)
  (a16:PySem.W.nsIn K mainGlobals "ways_with_row" = some (some (.ref f16)))(l16:K.lookup f16=some ⟨oc16,od16,.func (PySem.W.fnOf "ways_with_row" "ways_with_row" (JU sRow) (Ju sRow) (Qt sRow) .none kV16 dc16 pm16 an16 cd16 ct16),sl16⟩)(c16:PySem.W.codeIn K cd16 "ways_with_row" = true)(k16:PySem.W.keepIn K (.ref f16)=true)
  (a17:PySem.W.nsIn K mainGlobals "refuse_no_number" = some (some (.ref f17)))(l17:K.lookup f17=some ⟨oc17,od17,.func (PySem.W.fnOf "refuse_no_number" "refuse_no_number" (JU Qke) (Ju Qke) (Qt Qke) .none kV17 dc17 pm17 an17 cd17 ct17),sl17⟩)(c17:PySem.W.codeIn K cd17 "refuse_no_number" = true)(k17:PySem.W.keepIn K (.ref f17)=true)
  (a18:PySem.W.nsIn K mainGlobals "steps" = some (some (.ref f18)))(l18:K.lookup f18=some ⟨oc18,od18,.func (PySem.W.fnOf "steps" "steps" (JU QeZ) (Ju QeZ) (Qt QeZ) .none kV18 dc18 pm18 an18 cd18 ct18),sl18⟩)(c18:PySem.W.codeIn K cd18 "steps" = true)(k18:PySem.W.keepIn K (.ref f18)=true)
  (a19:PySem.W.nsIn K mainGlobals "parting_of" = some (some (.ref f19)))(l19:K.lookup f19=some ⟨oc19,od19,.func (PySem.W.fnOf "parting_of" "parting_of" (JU sPOf) (Ju sPOf) (Qt sPOf) .none kV19 dc19 pm19 an19 cd19 ct19),sl19⟩)(c19:PySem.W.codeIn K cd19 "parting_of" = true)(k19:PySem.W.keepIn K (.ref f19)=true)
  (a20:PySem.W.nsIn K mainGlobals "partings" = some (some (.ref f20)))(l20:K.lookup f20=some ⟨oc20,od20,.func (PySem.W.fnOf "partings" "partings" (JU Qe3) (Ju Qe3) (Qt Qe3) .none kV20 dc20 pm20 an20 cd20 ct20),sl20⟩)(c20:PySem.W.codeIn K cd20 "partings" = true)(k20:PySem.W.keepIn K (.ref f20)=true)
  (a21:PySem.W.nsIn K mainGlobals "_law_cell_at" = some (some (.ref f21)))(l21:K.lookup f21=some ⟨oc21,od21,.func (PySem.W.fnOf "_law_cell_at" "_law_cell_at" (JU Qdo) (Ju Qdo) (Qt Qdo) .none kV21 dc21 pm21 an21 cd21 ct21),sl21⟩)(c21:PySem.W.codeIn K cd21 "_law_cell_at" = true)(k21:PySem.W.keepIn K (.ref f21)=true)
  (a22:PySem.W.nsIn K mainGlobals "_law_pot" = some (some (.ref f22)))(l22:K.lookup f22=some ⟨oc22,od22,.func (PySem.W.fnOf "_law_pot" "_law_pot" (JU lPot) (Ju lPot) (Qt lPot) .none kV22 dc22 pm22 an22 cd22 ct22),sl22⟩)(c22:PySem.W.codeIn K cd22 "_law_pot" = true)(k22:PySem.W.keepIn K (.ref f22)=true)
  (a23:PySem.W.nsIn K mainGlobals "_law_take" = some (some (.ref f23)))(l23:K.lookup f23=some ⟨oc23,od23,.func (PySem.W.fnOf "_law_take" "_law_take" (JU Qku) (Ju Qku) (Qt Qku) .none kV23 dc23 pm23 an23 cd23 ct23),sl23⟩)(c23:PySem.W.codeIn K cd23 "_law_take" = true)(k23:PySem.W.keepIn K (.ref f23)=true)
  (a24:PySem.W.nsIn K mainGlobals "_law_no_things" = some (some (.ref f24)))(l24:K.lookup f24=some ⟨oc24,od24,.func (PySem.W.fnOf "_law_no_things" "_law_no_things" (JU lNoT) (Ju lNoT) (Qt lNoT) .none kV24 dc24 pm24 an24 cd24 ct24),sl24⟩)(c24:PySem.W.codeIn K cd24 "_law_no_things" = true)(k24:PySem.W.keepIn K (.ref f24)=true)
  (a25:PySem.W.nsIn K mainGlobals "_law_kind_of" = some (some (.ref f25)))(l25:K.lookup f25=some ⟨oc25,od25,.func (PySem.W.fnOf "_law_kind_of" "_law_kind_of" (JU Qkw) (Ju Qkw) (Qt Qkw) .none kV25 dc25 pm25 an25 cd25 ct25),sl25⟩)(c25:PySem.W.codeIn K cd25 "_law_kind_of" = true)(k25:PySem.W.keepIn K (.ref f25)=true)
  (a26:PySem.W.nsIn K mainGlobals "_law_whole" = some (some (.ref f26)))(l26:K.lookup f26=some ⟨oc26,od26,.func (PySem.W.fnOf "_law_whole" "_law_whole" (JU QdF) (Ju QdF) (Qt QdF) .none kV26 dc26 pm26 an26 cd26 ct26),sl26⟩)(c26:PySem.W.codeIn K cd26 "_law_whole" = true)(k26:PySem.W.keepIn K (.ref f26)=true)
  (a27:PySem.W.nsIn K mainGlobals "_law_same" = some (some (.ref f27)))(l27:K.lookup f27=some ⟨oc27,od27,.func (PySem.W.fnOf "_law_same" "_law_same" (JU Qkv) (Ju Qkv) (Qt Qkv) .none kV27 dc27 pm27 an27 cd27 ct27),sl27⟩)(c27:PySem.W.codeIn K cd27 "_law_same" = true)(k27:PySem.W.keepIn K (.ref f27)=true)
  (a28:PySem.W.nsIn K mainGlobals "_law_told" = some (some (.ref f28)))(l28:K.lookup f28=some ⟨oc28,od28,.func (PySem.W.fnOf "_law_told" "_law_told" (JU Qkt) (Ju Qkt) (Qt Qkt) .none kV28 dc28 pm28 an28 cd28 ct28),sl28⟩)(c28:PySem.W.codeIn K cd28 "_law_told" = true)(k28:PySem.W.keepIn K (.ref f28)=true)
  (a29:PySem.W.nsIn K mainGlobals "_law_parted" = some (some (.ref f29)))(l29:K.lookup f29=some ⟨oc29,od29,.func (PySem.W.fnOf "_law_parted" "_law_parted" (JU Qbk) (Ju Qbk) (Qt Qbk) .none kV29 dc29 pm29 an29 cd29 ct29),sl29⟩)(c29:PySem.W.codeIn K cd29 "_law_parted" = true)(k29:PySem.W.keepIn K (.ref f29)=true)
  (a30:PySem.W.nsIn K mainGlobals "law" = some (some (.ref f30)))(l30:K.lookup f30=some ⟨oc30,od30,.func (PySem.W.fnOf "law" "law" (JU sLaw) (Ju sLaw) (Qt sLaw) .none kV30 dc30 pm30 an30 cd30 ct30),sl30⟩)(c30:PySem.W.codeIn K cd30 "law" = true)(k30:PySem.W.keepIn K (.ref f30)=true)
  (z1:PySem.W.nsIn K mainGlobals "isinstance" = some none)
  (z2:PySem.W.nsIn K mainGlobals "int" = some none)
  (z3:PySem.W.nsIn K mainGlobals "bool" = some none)
  (z4:PySem.W.nsIn K mainGlobals "str" = some none)
  (z5:PySem.W.nsIn K mainGlobals "tuple" = some none)
  (z6:PySem.W.nsIn K mainGlobals "list" = some none)
  (z7:PySem.W.nsIn K mainGlobals "all" = some none)
  (z8:PySem.W.nsIn K mainGlobals "len" = some none)
  (z9:PySem.W.nsIn K mainGlobals "zip" = some none)
  (z10:PySem.W.nsIn K mainGlobals "enumerate" = some none)
  (z11:PySem.W.nsIn K mainGlobals "range" = some none)
  (z12:PySem.W.nsIn K mainGlobals "max" = some none)
  (z13:PySem.W.nsIn K mainGlobals "min" = some none)
  (z14:PySem.W.nsIn K mainGlobals "sorted" = some none)
  (z15:PySem.W.nsIn K mainGlobals "sum" = some none)
  (z16:PySem.W.nsIn K mainGlobals "set" = some none)
  (z17:PySem.W.nsIn K mainGlobals "any" = some none)
  (z18:PySem.W.nsIn K mainGlobals "reversed" = some none)
  (z19:PySem.W.nsIn K mainGlobals "divmod" = some none)
  (z20:PySem.W.nsIn K mainGlobals "ValueError" = some none)
  {cc1:Addr} (e1:PySem.W.nsIn K mainGlobals "NoText" = some (some (.ref cc1)))
  {cc2:Addr} (e2:PySem.W.nsIn K mainGlobals "NoOrder" = some (some (.ref cc2)))
  {cc3:Addr} (e3:PySem.W.nsIn K mainGlobals "NoLines" = some (some (.ref cc3)))
  {cc4:Addr} (e4:PySem.W.nsIn K mainGlobals "TooFew" = some (some (.ref cc4)))
  {cc5:Addr} (e5:PySem.W.nsIn K mainGlobals "NoSize" = some (some (.ref cc5)))
  {cc6:Addr} (e6:PySem.W.nsIn K mainGlobals "TooMany" = some (some (.ref cc6)))
  {cc7:Addr} (e7:PySem.W.nsIn K mainGlobals "NoNumber" = some (some (.ref cc7)))
  {cc8:Addr} (e8:PySem.W.nsIn K mainGlobals "NoStand" = some (some (.ref cc8)))
  {cc9:Addr} (e9:PySem.W.nsIn K mainGlobals "NoCell" = some (some (.ref cc9)))
  {cc10:Addr} (e10:PySem.W.nsIn K mainGlobals "NotSquare" = some (some (.ref cc10)))
  {cc11:Addr} (e11:PySem.W.nsIn K mainGlobals "NoHits" = some (some (.ref cc11)))
  {cc12:Addr} (e12:PySem.W.nsIn K mainGlobals "NoCounts" = some (some (.ref cc12)))
  {cc13:Addr} (e13:PySem.W.nsIn K mainGlobals "NoStairs" = some (some (.ref cc13)))
  {cc14:Addr} (e14:PySem.W.nsIn K mainGlobals "NotAlike" = some (some (.ref cc14)))
  {cc15:Addr} (e15:PySem.W.nsIn K mainGlobals "NoParting" = some (some (.ref cc15)))
  {cc16:Addr} (e16:PySem.W.nsIn K mainGlobals "NoPlace" = some (some (.ref cc16)))
  {cc17:Addr} (e17:PySem.W.nsIn K mainGlobals "Double" = some (some (.ref cc17)))
  {cc18:Addr} (e18:PySem.W.nsIn K mainGlobals "NoDeed" = some (some (.ref cc18)))
  {cc19:Addr} (e19:PySem.W.nsIn K mainGlobals "NoRow" = some (some (.ref cc19)))
  {cR:Addr} (eR:PySem.W.nsIn K mainGlobals "RookError" = some (some (.ref cR)))
  (r1:PySem.W.typeIn K (.ref cR)=some (.type "type"))
  {dR:_} (r2:PySem.W.clsIn K cR=some dR)
  (r3:PySem.W.mroIn K cR (.type "BaseException")=some true)
  (u1:PySem.W.specialIn K (.builtin "object.__class__") "__get__" = some (some (.builtin "getset_descriptor.__get__")))
  (u2:PySem.W.takesIn K (.builtin "object.__class__")=some true)
  (q5x:PySem.W.excIn K cc5 Rx.mroV "ValueError.__new__" = true)
  (q5r:PySem.W.mroIn K cc5 (.ref cR)=some true)
  (q5g:PySem.W.findIn K (.ref cc5) "__getattribute__" = some (some (.builtin "BaseException.__getattribute__")))
  (q5h:PySem.W.findIn K (.ref cc5) "__getattr__" = some none)
  (q5b:PySem.W.mroIn K cc5 (.type "BaseException")=some true)
  {dq5:_} (q5c:PySem.W.clsIn K cc5=some dq5)
  (q5a:PySem.W.findIn K (.ref cc5) "__class__" = some (some (.builtin "object.__class__")))
  (q5o:PySem.W.mroIn K cc5 (.type "object")=some true)
  (q5v:PySem.W.kitOne K (.ref cc5) (.type "ValueError")=some true)
  (q5k1:PySem.W.kitOne K (.ref cc5) (.ref cc1)=some false)
  (q5k2:PySem.W.kitOne K (.ref cc5) (.ref cc2)=some false)
  (q5k3:PySem.W.kitOne K (.ref cc5) (.ref cc3)=some false)
  (q5k4:PySem.W.kitOne K (.ref cc5) (.ref cc4)=some false)
  (q5k5:PySem.W.kitOne K (.ref cc5) (.ref cc5)=some true)
  (q5k6:PySem.W.kitOne K (.ref cc5) (.ref cc6)=some false)
  (q5k7:PySem.W.kitOne K (.ref cc5) (.ref cc7)=some false)
  (q5k8:PySem.W.kitOne K (.ref cc5) (.ref cc8)=some false)
  (q5k9:PySem.W.kitOne K (.ref cc5) (.ref cc9)=some false)
  (q5k10:PySem.W.kitOne K (.ref cc5) (.ref cc10)=some false)
  (q5k11:PySem.W.kitOne K (.ref cc5) (.ref cc11)=some false)
  (q5k12:PySem.W.kitOne K (.ref cc5) (.ref cc12)=some false)
  (q5k13:PySem.W.kitOne K (.ref cc5) (.ref cc13)=some false)
  (q5k14:PySem.W.kitOne K (.ref cc5) (.ref cc14)=some false)
  (q5k15:PySem.W.kitOne K (.ref cc5) (.ref cc15)=some false)
  (q5k16:PySem.W.kitOne K (.ref cc5) (.ref cc16)=some false)
  (q5k17:PySem.W.kitOne K (.ref cc5) (.ref cc17)=some false)
  (q5k18:PySem.W.kitOne K (.ref cc5) (.ref cc18)=some false)
  (q5k19:PySem.W.kitOne K (.ref cc5) (.ref cc19)=some false)
  (q7x:PySem.W.excIn K cc7 Rx.mroV "ValueError.__new__" = true)
  (q7r:PySem.W.mroIn K cc7 (.ref cR)=some true)
  (q7g:PySem.W.findIn K (.ref cc7) "__getattribute__" = some (some (.builtin "BaseException.__getattribute__")))
  (q7h:PySem.W.findIn K (.ref cc7) "__getattr__" = some none)
  (q7b:PySem.W.mroIn K cc7 (.type "BaseException")=some true)
  {dq7:_} (q7c:PySem.W.clsIn K cc7=some dq7)
  (q7a:PySem.W.findIn K (.ref cc7) "__class__" = some (some (.builtin "object.__class__")))
  (q7o:PySem.W.mroIn K cc7 (.type "object")=some true)
  (q7v:PySem.W.kitOne K (.ref cc7) (.type "ValueError")=some true)
  (q7k1:PySem.W.kitOne K (.ref cc7) (.ref cc1)=some false)
  (q7k2:PySem.W.kitOne K (.ref cc7) (.ref cc2)=some false)
  (q7k3:PySem.W.kitOne K (.ref cc7) (.ref cc3)=some false)
  (q7k4:PySem.W.kitOne K (.ref cc7) (.ref cc4)=some false)
  (q7k5:PySem.W.kitOne K (.ref cc7) (.ref cc5)=some false)
  (q7k6:PySem.W.kitOne K (.ref cc7) (.ref cc6)=some false)
  (q7k7:PySem.W.kitOne K (.ref cc7) (.ref cc7)=some true)
  (q7k8:PySem.W.kitOne K (.ref cc7) (.ref cc8)=some false)
  (q7k9:PySem.W.kitOne K (.ref cc7) (.ref cc9)=some false)
  (q7k10:PySem.W.kitOne K (.ref cc7) (.ref cc10)=some false)
  (q7k11:PySem.W.kitOne K (.ref cc7) (.ref cc11)=some false)
  (q7k12:PySem.W.kitOne K (.ref cc7) (.ref cc12)=some false)
  (q7k13:PySem.W.kitOne K (.ref cc7) (.ref cc13)=some false)
  (q7k14:PySem.W.kitOne K (.ref cc7) (.ref cc14)=some false)
  (q7k15:PySem.W.kitOne K (.ref cc7) (.ref cc15)=some false)
  (q7k16:PySem.W.kitOne K (.ref cc7) (.ref cc16)=some false)
  (q7k17:PySem.W.kitOne K (.ref cc7) (.ref cc17)=some false)
  (q7k18:PySem.W.kitOne K (.ref cc7) (.ref cc18)=some false)
  (q7k19:PySem.W.kitOne K (.ref cc7) (.ref cc19)=some false)
  {tA:_} (aA:PySem.W.nsIn K mainGlobals "MOST_LINES" = some (some (.int 6 tA)))
  {tB:_} (aB:PySem.W.nsIn K mainGlobals "MOST_TOLD" = some (some (.int 300 tB)))
  (q6x:PySem.W.excIn K cc6 Rx.mroV "ValueError.__new__" = true)
  (q8x:PySem.W.excIn K cc8 Rx.mroV "ValueError.__new__" = true)
  :
  ∃fd:QN,(∀(s:Shared)(v:Value),QeL s fd ⟨[v],[]⟩ [("_law_script",v)])/\∀base:J5,K.In base->base.Ns mainGlobals mg->FnOk l.prog w K mg base CX0 9 fa fd ["_law_script"] (Dl.QeW K):=by
 have e:=hfa.symm.trans (PySem.W.mg_of X G a30);cases e;have T:=(⟨(PySem.W.mg_none_of X G z1),(PySem.W.mg_none_of X G z2),(PySem.W.mg_none_of X G z3),(PySem.W.mg_none_of X G z4),(PySem.W.mg_none_of X G z5),(PySem.W.mg_none_of X G z6),(PySem.W.mg_none_of X G z7),(PySem.W.mg_none_of X G z8),(PySem.W.mg_none_of X G z9),(PySem.W.mg_none_of X G z10),(PySem.W.mg_none_of X G z11),(PySem.W.mg_none_of X G z12),(PySem.W.mg_none_of X G z13),(PySem.W.mg_none_of X G z14),(PySem.W.mg_none_of X G z15),(PySem.W.mg_none_of X G z16),(PySem.W.mg_none_of X G z17),(PySem.W.mg_none_of X G z18),(PySem.W.mg_none_of X G z19)⟩:GlbA mg);have F1:=ZB (st:=QeY) l1 c1 k1;have b1:=F1.binds (ps:=["thing"]) λ_ _ _ _ _ _ us hl=>match us,hl with | [_],_=>rfl
 have m1:=PySem.W.mg_of X G a1;have F2:=ZB (st:=Qda) l2 c2 k2;have b2:=F2.binds (ps:=["thing", "least", "most"]) λ_ _ _ _ _ _ us hl=>match us,hl with | [_,_,_],_=>rfl
 have m2:=PySem.W.mg_of X G a2;have F3:=ZB (st:=Qdb) l3 c3 k3;have b3:=F3.binds (ps:=["things"]) λ_ _ _ _ _ _ us hl=>match us,hl with | [_],_=>rfl
 have m3:=PySem.W.mg_of X G a3;have F4:=ZB (st:=Qe5) l4 c4 k4;have b4:=F4.binds (ps:=["high", "wide", "thing"]) λ_ _ _ _ _ _ us hl=>match us,hl with | [_,_,_],_=>rfl
 have m4:=PySem.W.mg_of X G a4;have F5:=ZB (st:=Qe2) l5 c5 k5;have b5:=F5.binds (ps:=["high", "wide", "thing"]) λ_ _ _ _ _ _ us hl=>match us,hl with | [_,_,_],_=>rfl
 have m5:=PySem.W.mg_of X G a5;have F6:=ZB (st:=Qe0) l6 c6 k6;have b6:=F6.binds (ps:=["board", "thing"]) λ_ _ _ _ _ _ us hl=>match us,hl with | [_,_],_=>rfl
 have m6:=PySem.W.mg_of X G a6;have F7:=ZB (st:=Qe6) l7 c7 k7;have b7:=F7.binds (ps:=["cells"]) λ_ _ _ _ _ _ us hl=>match us,hl with | [_],_=>rfl
 have m7:=PySem.W.mg_of X G a7;have F8:=ZB (st:=Qdc) l8 c8 k8;have b8:=F8.binds (ps:=["board"]) λ_ _ _ _ _ _ us hl=>match us,hl with | [_],_=>rfl
 have m8:=PySem.W.mg_of X G a8;have F9:=ZB (st:=Qkf) l9 c9 k9;have b9:=F9.binds (ps:=["board"]) λ_ _ _ _ _ _ us hl=>match us,hl with | [_],_=>rfl
 have m9:=PySem.W.mg_of X G a9;have F10:=ZB (st:=Qa9) l10 c10 k10;have b10:=F10.binds (ps:=["board", "size"]) λ_ _ _ _ _ _ us hl=>match us,hl with | [_,_],_=>rfl
 have m10:=PySem.W.mg_of X G a10;have F11:=ZB (st:=Qe4) l11 c11 k11;have b11:=F11.binds (ps:=["board", "size"]) λ_ _ _ _ _ _ us hl=>match us,hl with | [_,_],_=>rfl
 have m11:=PySem.W.mg_of X G a11;have F12:=ZB (st:=Qe1) l12 c12 k12;have b12:=F12.binds (ps:=["board", "size"]) λ_ _ _ _ _ _ us hl=>match us,hl with | [_,_],_=>rfl
 have m12:=PySem.W.mg_of X G a12;have F13:=ZB (st:=sFol) l13 c13 k13;have b13:=F13.binds (ps:=["board", "start"]) λ_ _ _ _ _ _ us hl=>match us,hl with | [_,_],_=>rfl
 have m13:=PySem.W.mg_of X G a13;have F14:=ZB (st:=Qkd) l14 c14 k14;have b14:=F14.binds (ps:=["start"]) λ_ _ _ _ _ _ us hl=>match us,hl with | [_],_=>rfl
 have m14:=PySem.W.mg_of X G a14;have F15:=ZB (st:=Qkc) l15 c15 k15;have b15:=F15.binds (ps:=["board"]) λ_ _ _ _ _ _ us hl=>match us,hl with | [_],_=>rfl
 have m15:=PySem.W.mg_of X G a15;have F16:=ZB (st:=sRow) l16 c16 k16;have b16:=F16.binds (ps:=["below", "columns", "taken"]) λ_ _ _ _ _ _ us hl=>match us,hl with | [_,_,_],_=>rfl
 have m16:=PySem.W.mg_of X G a16;have F17:=ZB (st:=Qke) l17 c17 k17;have b17:=F17.binds (ps:=["n"]) λ_ _ _ _ _ _ us hl=>match us,hl with | [_],_=>rfl
 have m17:=PySem.W.mg_of X G a17;have F18:=ZB (st:=QeZ) l18 c18 k18;have b18:=F18.binds (ps:=["n"]) λ_ _ _ _ _ _ us hl=>match us,hl with | [_],_=>rfl
 have m18:=PySem.W.mg_of X G a18;have F19:=ZB (st:=sPOf) l19 c19 k19;have b19:=F19.binds (ps:=["n", "stand"]) λ_ _ _ _ _ _ us hl=>match us,hl with | [_,_],_=>rfl
 have m19:=PySem.W.mg_of X G a19;have F20:=ZB (st:=Qe3) l20 c20 k20;have b20:=F20.binds (ps:=["n", "many"]) λ_ _ _ _ _ _ us hl=>match us,hl with | [_,_],_=>rfl
 have m20:=PySem.W.mg_of X G a20;have F21:=ZB (st:=Qdo) l21 c21 k21;have b21:=F21.binds (ps:=["_law_script", "_law_k"]) λ_ _ _ _ _ _ us hl=>match us,hl with | [_,_],_=>rfl
 have m21:=PySem.W.mg_of X G a21;have F22:=ZB (st:=lPot) l22 c22 k22;have b22:=F22.binds (ps:=["_law_cell"]) λ_ _ _ _ _ _ us hl=>match us,hl with | [_],_=>rfl
 have m22:=PySem.W.mg_of X G a22;have F23:=ZB (st:=Qku) l23 c23 k23;have b23:=F23.binds (ps:=["_law_pot_here", "_law_far"]) λ_ _ _ _ _ _ us hl=>match us,hl with | [_,_],_=>rfl
 have m23:=PySem.W.mg_of X G a23;have F24:=ZB (st:=lNoT) l24 c24 k24;have b24:=F24.binds (ps:=["_law_pot_here"]) λ_ _ _ _ _ _ us hl=>match us,hl with | [_],_=>rfl
 have m24:=PySem.W.mg_of X G a24;have F25:=ZB (st:=Qkw) l25 c25 k25;have b25:=F25.binds (ps:=["_law_e"]) λ_ _ _ _ _ _ us hl=>match us,hl with | [_],_=>rfl
 have m25:=PySem.W.mg_of X G a25;have F26:=ZB (st:=QdF) l26 c26 k26;have b26:=F26.binds (ps:=["_law_thing"]) λ_ _ _ _ _ _ us hl=>match us,hl with | [_],_=>rfl
 have m26:=PySem.W.mg_of X G a26;have F27:=ZB (st:=Qkv) l27 c27 k27;have b27:=F27.binds (ps:=["_law_found", "_law_due"]) λ_ _ _ _ _ _ us hl=>match us,hl with | [_,_],_=>rfl
 have m27:=PySem.W.mg_of X G a27;have F28:=ZB (st:=Qkt) l28 c28 k28;have b28:=F28.binds (ps:=["_law_n", "_law_many"]) λ_ _ _ _ _ _ us hl=>match us,hl with | [_,_],_=>rfl
 have m28:=PySem.W.mg_of X G a28;have F29:=ZB (st:=Qbk) l29 c29 k29;have b29:=F29.binds (ps:=["_law_things", "_law_many"]) λ_ _ _ _ _ _ us hl=>match us,hl with | [_,_],_=>rfl
 have m29:=PySem.W.mg_of X G a29;have F30:=ZB (st:=sLaw) l30 c30 k30;refine⟨PySem.W.fnOf "law" "law" (JU sLaw) (Ju sLaw) (Qt sLaw) .none kV30 dc30 pm30 an30 cd30 ct30,λs v=>.of_eq rfl,λbase _ _=>?_⟩;have G1:FnOk l.prog w K mg base CX0 1 f1 _ ["thing"] (Dl.Zj false Dl.QgC):=Qo5 F1 T ;have G2:FnOk l.prog w K mg base CX0 2 f2 _ ["thing", "least", "most"] (Dl.Zj false Qc8):=Qme F2 T m1 G1 b1 k1;have G3:FnOk l.prog w K mg base CX0 1 f3 _ ["things"] (Dl.Zj false Qh3):=Qmh F3 T ;have G5:FnOk l.prog w K mg base CX0 3 f5 _ ["high", "wide", "thing"] (Dl.Zj false QlP):=Qo9 F5 T m2 G2 b2 k2;have G4:FnOk l.prog w K mg base CX0 4 f4 _ ["high", "wide", "thing"] (Dl.Zj false Qni):=Qpb F4 T m5 G5 b5 k5 m3 G3 b3 k3;have G7:FnOk l.prog w K mg base CX0 1 f7 _ ["cells"] (Dl.Zj false Qny):=Qpc F7 T ;have G6:FnOk l.prog w K mg base CX0 5 f6 _ ["board", "thing"] (Dl.Zj false Qll):=Qo7 F6 T m4 G4 b4 k4 m7 G7 b7 k7;have G9:FnOk l.prog w K mg base CX0 1 f9 _ ["board"] (Dl.Zj false Qpl):=QtB F9 T ;have G16:FnOk l.prog w K mg base CX0 1 f16 _ ["below", "columns", "taken"] (Dl.Zj true Qsd):=Qtv F16 T ;have G15:FnOk l.prog w K mg base CX0 2 f15 _ ["board"] (Dl.Zj true Qsf):=Qtw F15 T m16 G16 b16 k16;have G8:FnOk l.prog w K mg base CX0 3 f8 _ ["board"] (Dl.Zj true Qiv):=Qmk F8 T m15 G15 b15 k15 m9 G9 b9 k9;have G14:FnOk l.prog w K mg base CX0 1 f14 _ ["start"] (Dl.Zj false Qsu):=Qtz F14 T ;have G13:FnOk l.prog w K mg base CX0 2 f13 _ ["board", "start"] (Dl.Zj false Qzb):=Qwe F13 T m14 G14 b14 k14;have G11:FnOk l.prog w K mg base CX0 3 f11 _ ["board", "size"] (Dl.Zj true evD):=QyT F11 T m13 G13 b13 k13;have G12:FnOk l.prog w K mg base (Rx.CXE l.prog w) 3 f12 _ ["board", "size"] (Dl.Zj false (Qlx cc5)):=Qo8 F12 T m2 G2 b2 k2 m9 G9 b9 k9 (PySem.W.mg_of X G e5) q5x;have G10:FnOk l.prog w K mg base (Rx.CXE l.prog w) 4 f10 _ ["board", "size"] (Dl.Zj true (QhZ cc5 cc6)):=QyS ⟨_,PySem.W.mg_of X G aB⟩ F10 T m12 G12 b12 k12 m8 G8 b8 k8 m11 G11 b11 k11 (PySem.W.mg_of X G e6) q6x;have G17:FnOk l.prog w K mg base (Rx.CXE l.prog w) 3 f17 _ ["n"] (Dl.Zj false (Qsx cc7)):=QtA ⟨_,PySem.W.mg_of X G aA⟩ F17 T m2 G2 b2 k2 (PySem.W.mg_of X G e7) q7x;have G18:FnOk l.prog w K mg base (Rx.CXE l.prog w) 4 f18 _ ["n"] (Dl.Zj false (QiT cc7)):=Qo6 F18 T m17 G17 b17 k17;have G19:FnOk l.prog w K mg base (Rx.CXE l.prog w) 6 f19 _ ["n", "stand"] (Dl.Zj false (QyE cc7 cc8)):=Qwb F19 T m18 G18 b18 k18 m6 G6 b6 k6 (PySem.W.mg_of X G e8) q8x;have G20:FnOk l.prog w K mg base (Rx.CXE l.prog w) 7 f20 _ ["n", "many"] (Dl.Zj true (Ql9 cc7 cc5)):=Qpa F20 T m18 G18 b18 k18 m2 G2 b2 k2 m19 G19 b19 k19 m10 G10 b10 k10 (PySem.W.mg_of X G e5) q5x;have G21:FnOk l.prog w K mg base CX0 1 f21 _ ["_law_script", "_law_k"] (QcG K):=Qml F21 T ;have G22:FnOk l.prog w K mg base CX0 1 f22 _ ["_law_cell"] (Dl.Zj true Dl.QyD):=(Qwa F22 T).imp λ_ _ _ _ h=>Dl.QyC h
 have G23:FnOk l.prog w K mg base CX0 1 f23 _ ["_law_pot_here", "_law_far"] (Dl.Zj true Dl.Qn2):=(Qty F23 T).imp λ_ _ _ _ h=>Dl.QuZ h
 have G24:FnOk l.prog w K mg base CX0 2 f24 _ ["_law_pot_here"] (Dl.Zj false QyW):=Qwc F24 T m23 G23 b23 k23;have G25:Rx.FnM l.prog w K mg base 1 f25 _ ["_law_e"] (QiV K [cc1,cc2,cc3,cc4,cc5,cc6,cc7,cc8,cc9,cc10,cc11,cc12,cc13,cc14,cc15,cc16,cc17,cc18,cc19]):=QtC F25 T (PySem.W.mg_none_of X G z20) (PySem.W.mg_of X G e1) (PySem.W.mg_of X G e2) (PySem.W.mg_of X G e3) (PySem.W.mg_of X G e4) (PySem.W.mg_of X G e5) (PySem.W.mg_of X G e6) (PySem.W.mg_of X G e7) (PySem.W.mg_of X G e8) (PySem.W.mg_of X G e9) (PySem.W.mg_of X G e10) (PySem.W.mg_of X G e11) (PySem.W.mg_of X G e12) (PySem.W.mg_of X G e13) (PySem.W.mg_of X G e14) (PySem.W.mg_of X G e15) (PySem.W.mg_of X G e16) (PySem.W.mg_of X G e17) (PySem.W.mg_of X G e18) (PySem.W.mg_of X G e19);have G26:FnOk l.prog w K mg base CX0 1 f26 _ ["_law_thing"] (Dl.Zj false Dl.QgC):=Qmj F26 T ;have G27:FnOk l.prog w K mg base CX0 5 f27 _ ["_law_found", "_law_due"] (Dl.Zj false (Dl.Qst 3)):=(Qmg F27 T m27 b27 k27 m26 (Qmf F26 T) b26 k26 4).imp λ_ _ _ _ h=>Dl.Qve h
 have G28:FnOk l.prog w K mg base CX0 8 f28 _ ["_law_n", "_law_many"] (Dl.Zj true Qsi):=Qtx F28 T m20 G20 b20 k20 m25 G25 b25 k25 (PySem.W.mg_of X G eR) (⟨⟨r1,(by rw[r2];rfl),r3,q7r⟩,[false,false,false,false,false,false,true,false,false,false,false,false,false,false,false,false,false,false,false],6,⟨q7g,q7h,q7b,(by rw[q7c];rfl),q7a,u1,u2,q7o⟩,(.cons q7k1 (.cons q7k2 (.cons q7k3 (.cons q7k4 (.cons q7k5 (.cons q7k6 (.cons q7k7 (.cons q7k8 (.cons q7k9 (.cons q7k10 (.cons q7k11 (.cons q7k12 (.cons q7k13 (.cons q7k14 (.cons q7k15 (.cons q7k16 (.cons q7k17 (.cons q7k18 (.cons q7k19 .nil))))))))))))))))))),q7v,rfl,rfl,(by decide),rfl⟩:KOk K [cc1,cc2,cc3,cc4,cc5,cc6,cc7,cc8,cc9,cc10,cc11,cc12,cc13,cc14,cc15,cc16,cc17,cc18,cc19] cR cc7 "number") (⟨⟨r1,(by rw[r2];rfl),r3,q5r⟩,[false,false,false,false,true,false,false,false,false,false,false,false,false,false,false,false,false,false,false],4,⟨q5g,q5h,q5b,(by rw[q5c];rfl),q5a,u1,u2,q5o⟩,(.cons q5k1 (.cons q5k2 (.cons q5k3 (.cons q5k4 (.cons q5k5 (.cons q5k6 (.cons q5k7 (.cons q5k8 (.cons q5k9 (.cons q5k10 (.cons q5k11 (.cons q5k12 (.cons q5k13 (.cons q5k14 (.cons q5k15 (.cons q5k16 (.cons q5k17 (.cons q5k18 (.cons q5k19 .nil))))))))))))))))))),q5v,rfl,rfl,(by decide),rfl⟩:KOk K [cc1,cc2,cc3,cc4,cc5,cc6,cc7,cc8,cc9,cc10,cc11,cc12,cc13,cc14,cc15,cc16,cc17,cc18,cc19] cR cc5 "size");have G29:FnOk l.prog w K mg base CX0 8 f29 _ ["_law_things", "_law_many"] (Dl.Zj true (Qdi 6)):=Qfg F29 T m29 b29 k29 6;exact Qwd F30 T m21 G21 b21 k21 m22 G22 b22 k22 m23 G23 b23 k23 m29 G29 b29 k29 m28 G28 b28 k28 m27 G27 b27 k27 m24 G24 b24 k24
theorem QAd{l:PySem.W.OpenLaw}{q:Qy}{loose:List Str}{XP:(Str->Option Value)->J5->Prop}{YP:Jg->J5->Prop}{d:DefRec}{K:Params->PySem.W.Frag}(hn:l.most=some 63)(hdf:d.params.defaults=[])
  (hY:∀(w:Jg)(h:J5),YP w h->(K w.params).In h)
  (F:∀(w:Jg)(mg:Str->Option Value)(fa:Addr)(h:J5),(K w.params).In h->h.Ns mainGlobals mg->mg d.name=some (.ref fa) ->
   ∃fd:QN,(∀(s:Shared)(u:Value),QeL s fd ⟨[u],[]⟩ [("_law_script",u)])/\∀base:J5,(K w.params).In base->base.Ns mainGlobals mg->FnOk l.prog w (K w.params) mg base CX0 9 fa fd ["_law_script"] (Dl.QeW (K w.params))) :
  PySem.W.WalkO q loose XP YP l.row.toRowW d [] (λf vs=>PySem.call f vs):=
 L2.Qsg (n:=63) (k:=9) (x := "_law_script") (CX:=λ_=>CX0) (sp:=λw=>(Dl.QeW (K w.params))) hn (by decide) hdf ⟨rfl,by decide,by decide⟩ hY F (λ_ _ a ns hl _ hS=>⟨a,ns,rfl,hS,hl,λ_=>rfl⟩) λ_ _ _ _ _ z=>z
end Rk
open PySem.W
set_option maxRecDepth 100000 in
set_option maxHeartbeats 0 in
theorem PySem.Challenge.cw_rooklands_k83_partings_told_holds : PySem.Challenge.rw_rooklands_k83_partings_told.Holds := by
 w_on;o_law;k_head;(case hw=>w_witness2)
 k_fill
 refine Rk.QAd (l:=PySem.Challenge.rw_rooklands_k83_partings_told) rfl rfl (λw h Y=>PySem.W.kIn_of Y) ?F
 case F=>
  intro w mg fa h KX G hmg;refine' Rk.Qxg KX G hmg ?a1 ?l1 ?c1 ?k1 ?a2 ?l2 ?c2 ?k2 ?a3 ?l3 ?c3 ?k3 ?a4 ?l4 ?c4 ?k4 ?a5 ?l5 ?c5 ?k5 ?a6 ?l6 ?c6 ?k6 ?a7 ?l7 ?c7 ?k7 ?a8 ?l8 ?c8 ?k8 ?a9 ?l9 ?c9 ?k9 ?a10 ?l10 ?c10 ?k10 ?a11 ?l11 ?c11 ?k11 ?a12 ?l12 ?c12 ?k12 ?a13 ?l13 ?c13 ?k13 ?a14 ?l14 ?c14 ?k14 ?a15 ?l15 ?c15 ?k15 ?a16 ?l16 ?c16 ?k16 ?a17 ?l17 ?c17 ?k17 ?a18 ?l18 ?c18 ?k18 ?a19 ?l19 ?c19 ?k19 ?a20 ?l20 ?c20 ?k20 ?a21 ?l21 ?c21 ?k21 ?a22 ?l22 ?c22 ?k22 ?a23 ?l23 ?c23 ?k23 ?a24 ?l24 ?c24 ?k24 ?a25 ?l25 ?c25 ?k25 ?a26 ?l26 ?c26 ?k26 ?a27 ?l27 ?c27 ?k27 ?a28 ?l28 ?c28 ?k28 ?a29 ?l29 ?c29 ?k29 ?a30 ?l30 ?c30 ?k30 ?z1 ?z2 ?z3 ?z4 ?z5 ?z6 ?z7 ?z8 ?z9 ?z10 ?z11 ?z12 ?z13 ?z14 ?z15 ?z16 ?z17 ?z18 ?z19 ?z20 ?e1 ?e2 ?e3 ?e4 ?e5 ?e6 ?e7 ?e8 ?e9 ?e10 ?e11 ?e12 ?e13 ?e14 ?e15 ?e16 ?e17 ?e18 ?e19 ?eR ?r1 ?r2 ?r3 ?u1 ?u2 ?q5x ?q5r ?q5g ?q5h ?q5b ?q5c ?q5a ?q5o ?q5v ?q5k1 ?q5k2 ?q5k3 ?q5k4 ?q5k5 ?q5k6 ?q5k7 ?q5k8 ?q5k9 ?q5k10 ?q5k11 ?q5k12 ?q5k13 ?q5k14 ?q5k15 ?q5k16 ?q5k17 ?q5k18 ?q5k19 ?q7x ?q7r ?q7g ?q7h ?q7b ?q7c ?q7a ?q7o ?q7v ?q7k1 ?q7k2 ?q7k3 ?q7k4 ?q7k5 ?q7k6 ?q7k7 ?q7k8 ?q7k9 ?q7k10 ?q7k11 ?q7k12 ?q7k13 ?q7k14 ?q7k15 ?q7k16 ?q7k17 ?q7k18 ?q7k19 ?aA ?aB ?q6x ?q8x
  (case a1=>k_is)
  (case l1=>k_is)
  (case c1=>k_is)
  (case k1=>k_is)
  (case a2=>k_is)
  (case l2=>k_is)
  (case c2=>k_is)
  (case k2=>k_is)
  (case a3=>k_is)
  (case l3=>k_is)
  (case c3=>k_is)
  (case k3=>k_is)
  (case a4=>k_is)
  (case l4=>k_is)
  (case c4=>k_is)
  (case k4=>k_is)
  (case a5=>k_is)
  (case l5=>k_is)
  (case c5=>k_is)
  (case k5=>k_is)
  (case a6=>k_is)
  (case l6=>k_is)
  (case c6=>k_is)
  (case k6=>k_is)
  (case a7=>k_is)
  (case l7=>k_is)
  (case c7=>k_is)
  (case k7=>k_is)
  (case a8=>k_is)
  (case l8=>k_is)
  (case c8=>k_is)
  (case k8=>k_is)
  (case a9=>k_is)
  (case l9=>k_is)
  (case c9=>k_is)
  (case k9=>k_is)
  (case a10=>k_is)
  (case l10=>k_is)
  (case c10=>k_is)
  (case k10=>k_is)
  (case a11=>k_is)
  (case l11=>k_is)
  (case c11=>k_is)
  (case k11=>k_is)
  (case a12=>k_is)
  (case l12=>k_is)
  (case c12=>k_is)
  (case k12=>k_is)
  (case a13=>k_is)
  (case l13=>k_is)
  (case c13=>k_is)
  (case k13=>k_is)
  (case a14=>k_is)
  (case l14=>k_is)
  (case c14=>k_is)
  (case k14=>k_is)
  (case a15=>k_is)
  (case l15=>k_is)
  (case c15=>k_is)
  (case k15=>k_is)
  (case a16=>k_is)
  (case l16=>k_is)
  (case c16=>k_is)
  (case k16=>k_is)
  (case a17=>k_is)
  (case l17=>k_is)
  (case c17=>k_is)
  (case k17=>k_is)
  (case a18=>k_is)
  (case l18=>k_is)
  (case c18=>k_is)
  (case k18=>k_is)
  (case a19=>k_is)
  (case l19=>k_is)
  (case c19=>k_is)
  (case k19=>k_is)
  (case a20=>k_is)
  (case l20=>k_is)
  (case c20=>k_is)
  (case k20=>k_is)
  (case a21=>k_is)
  (case l21=>k_is)
  (case c21=>k_is)
  (case k21=>k_is)
  (case a22=>k_is)
  (case l22=>k_is)
  (case c22=>k_is)
  (case k22=>k_is)
  (case a23=>k_is)
  (case l23=>k_is)
  (case c23=>k_is)
  (case k23=>k_is)
  (case a24=>k_is)
  (case l24=>k_is)
  (case c24=>k_is)
  (case k24=>k_is)
  (case a25=>k_is)
  (case l25=>k_is)
  (case c25=>k_is)
  (case k25=>k_is)
  (case a26=>k_is)
  (case l26=>k_is)
  (case c26=>k_is)
  (case k26=>k_is)
  (case a27=>k_is)
  (case l27=>k_is)
  (case c27=>k_is)
  (case k27=>k_is)
  (case a28=>k_is)
  (case l28=>k_is)
  (case c28=>k_is)
  (case k28=>k_is)
  (case a29=>k_is)
  (case l29=>k_is)
  (case c29=>k_is)
  (case k29=>k_is)
  (case a30=>k_is)
  (case l30=>k_is)
  (case c30=>k_is)
  (case k30=>k_is)
  (case z1=>k_is)
  (case z2=>k_is)
  (case z3=>k_is)
  (case z4=>k_is)
  (case z5=>k_is)
  (case z6=>k_is)
  (case z7=>k_is)
  (case z8=>k_is)
  (case z9=>k_is)
  (case z10=>k_is)
  (case z11=>k_is)
  (case z12=>k_is)
  (case z13=>k_is)
  (case z14=>k_is)
  (case z15=>k_is)
  (case z16=>k_is)
  (case z17=>k_is)
  (case z18=>k_is)
  (case z19=>k_is)
  (case z20=>k_is)
  (case e1=>k_is)
  (case e2=>k_is)
  (case e3=>k_is)
  (case e4=>k_is)
  (case e5=>k_is)
  (case e6=>k_is)
  (case e7=>k_is)
  (case e8=>k_is)
  (case e9=>k_is)
  (case e10=>k_is)
  (case e11=>k_is)
  (case e12=>k_is)
  (case e13=>k_is)
  (case e14=>k_is)
  (case e15=>k_is)
  (case e16=>k_is)
  (case e17=>k_is)
  (case e18=>k_is)
  (case e19=>k_is)
  (case eR=>k_is)
  (case r1=>k_is)
  (case r2=>k_is)
  (case r3=>k_is)
  (case u1=>k_is)
  (case u2=>k_is)
  (case q5x=>k_exc)
  (case q5r=>k_is)
  (case q5g=>k_is)
  (case q5h=>k_is)
  (case q5b=>k_is)
  (case q5c=>k_is)
  (case q5a=>k_is)
  (case q5o=>k_is)
  (case q5v=>kit_is)
  (case q5k1=>kit_is)
  (case q5k2=>kit_is)
  (case q5k3=>kit_is)
  (case q5k4=>kit_is)
  (case q5k5=>kit_is)
  (case q5k6=>kit_is)
  (case q5k7=>kit_is)
  (case q5k8=>kit_is)
  (case q5k9=>kit_is)
  (case q5k10=>kit_is)
  (case q5k11=>kit_is)
  (case q5k12=>kit_is)
  (case q5k13=>kit_is)
  (case q5k14=>kit_is)
  (case q5k15=>kit_is)
  (case q5k16=>kit_is)
  (case q5k17=>kit_is)
  (case q5k18=>kit_is)
  (case q5k19=>kit_is)
  (case q7x=>k_exc)
  (case q7r=>k_is)
  (case q7g=>k_is)
  (case q7h=>k_is)
  (case q7b=>k_is)
  (case q7c=>k_is)
  (case q7a=>k_is)
  (case q7o=>k_is)
  (case q7v=>kit_is)
  (case q7k1=>kit_is)
  (case q7k2=>kit_is)
  (case q7k3=>kit_is)
  (case q7k4=>kit_is)
  (case q7k5=>kit_is)
  (case q7k6=>kit_is)
  (case q7k7=>kit_is)
  (case q7k8=>kit_is)
  (case q7k9=>kit_is)
  (case q7k10=>kit_is)
  (case q7k11=>kit_is)
  (case q7k12=>kit_is)
  (case q7k13=>kit_is)
  (case q7k14=>kit_is)
  (case q7k15=>kit_is)
  (case q7k16=>kit_is)
  (case q7k17=>kit_is)
  (case q7k18=>kit_is)
  (case q7k19=>kit_is)
  (case aA=>k_is)
  (case aB=>k_is)
  (case q6x=>k_exc)
  (case q8x=>k_exc)
