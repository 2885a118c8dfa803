import PyProof.Rows.All
import Wide.All
import OpenK.AllK
import Wide.FinOn
import Lean
import PyProof.EqAt
import PyProof.EqKinds
import PyProof.TupleCall
import PyProof.SetRoads
import PyProof.FactsAll.set_1
import PyProof.Rows.SetFrom
import PyProof.CollectWalk
import PyProof.Walks
import PyProof.TupleIter
import PyProof.TupleKey
import PyProof.P3Eq
import PyProof.Draws
import PyProof.EnumMake
import PyProof.NeData
import KE.LcSums
import PyProof.WalkInts
import PyProof.SeqI3
import PyProof.Rows.SortRuns
import PyProof.Rows.SortShellK
import KE.KSortTup
import PyProof.Rows.CallKwBuiltin
import KE.KRevIter
import PyProof.FactsAll.range_2
import PyProof.DictCompW
import PySem.Challenge.RW_rooklands_k23_showings_told
local macro_rules | `(tactic| omega) => `(tactic| first | lia | omega +splitDisjunctions)
open PySem renaming wpAny_bind->Qa,PyData->Qb,Program->QB,FuncData->QR,Around->Q3,Expr->Q5,World->Ji,wpAny_mono->JI,wpAny_holding->JJ,wpAny_newObj_type->JS,wpAny_truthy_bool->J3,codeAny_builtin->J8,wpAny_call_entry->Zd,wpAny_of_eq->ZB,wpAny_rule->ZP,wpAny_askSetting->ZQ,plainId_quiet->Yf,Stmt->Yn,ReadsAll->Yx,wpAny_passesOwn->YI,mem_of_lookup->YM,Builtin->YS,wpAny_tryCatch->YW,wpAny_callSpecial?_slot->Qaj,wpAny_Call_Name_kw->Qak,wpAny_setState_of->QaF,NameKind->QaH,Scope->QaM,Reads->QaU,Paired->QaY,wpAny_standAt->Qa2,wpAny_updateSeq->Qbj,codeAny_mono->QbF,isSubtype_type->QbO,wpAny_pyIter_list->QbZ,Fin->Qb2,wpAny_field->Qck,Operator->Qcn,wpAny_pyNext_list_item->QcK,wpAny_pyIter_rangeiter->QcL,wpAny_typeOf->Qdl,wpAny_pyNext_list_end->Qdm,wpAny_execs_nil->Qdn,codeAny_of_tree->Qdo,builtinLookup_eq_fast->Qdp,Builtin->Qdr,wpAny_seqItems->Qep,PassesOwn->Qfd,intKind_is->Qf7,call_meets->Qf8,seqIndex_neg->Qhc,IsPart->Qhi,noFill_tuple_add->Qho,wpAny_letGo->Qjn,typeLookup_type->Qjo,sizeLine_eq->Qjp,seqIndex_of->Qjq,Result->Qjt,Keyword->Qjw,IsRangeIter->Qjx,wpAny_setField->Qko,wpAny_comprehension_free->QmX,wpAny_call->QmY,wpAny_newList->Qm9,wpAny_attempt->Qna,seq_tuple_add->Qnb,rangeSize_one->Qnc,call->Qnf,BindsTo->Qnj,wpAny_pyNext_range_end->Qo0,wpAny_getItem_list_neg->Qo1,concat_meets->QpW,CmpOp->Qp5,wpAny_newFunctionEnv->QtA,wpAny_loadName_local->QtB,codeAny_call_builtin->QtC,wpAny_setEntries_of->QtJ,wpAny_loadName_cell->QtK,wpAny_List_spliced->Qwk,Within->Qwm,wpAny_storeSet_of->QwC,wpAny_sequenceKey->QwD,wpAny_pyIter_slot->QwE,wpAny_pyIter_enum->QwF,wpAny_assign_Name->QwG,wpAny_Name->QwH,typeIs_int->QwI,slot_list_getitem->QwJ,Model->QwW
open PySem.W renaming Frag->Qc,keepIn->Qf,nsIn->Qt,codeIn->QD,fnOf->QH,mg_of->QM,mg_none_of->QZ,kia_one->J1,methodObj->Qdq,instObj->Qes,OpenLaw->Qet,lookIn->Qfb,kitOne->Qfc,cellsFrom_some->Qhe,kitx_list->Qkq,kitx_dict->Qkr,plainGet->Qm2,findIn->Qo4,WalkO->QpZ
open List renaming length_map->Qd,getElem?_eq_getElem->Qk,mem_map->Ql,length_append->Qo,size_toArray->Qq,mem_filter->Qu,mem_append_right->Qv,mem_cons->Qy,mem_singleton->QC,getElem?_map->QF,append_assoc->QJ,length_cons->QL,map_map->QP,getElem?_eq_some_iff->QQ,mem_append->QX,getD_eq_getElem?_getD->QY,pairwise_append->Q9,replicate->Jb,range->Je,length_range->Jf,mem_cons_of_mem->Jg,map_cons->Jh,lookup_cons->Jl,map_append->Jm,mem_iff_getElem?->Jn,append_nil->Jr,mem_range->Js,mem_of_getElem?->Jx,pairwise_map->JA,take_append_drop->JD,getElem?_append_right->JF,getElem?_eq_none->JR,nodup_append->JX,mem_cons_self->J4,mem_append_left->J5,replicate_succ->Ze,getElem?_range->Zf,getElem?_append_left->Zi,drop_zero->Zj,not_mem_nil->Zs,length_take->Zu,all_eq_true->Zv,filter_cons_of_pos->Zz,filter_cons_of_neg->ZA,filterMap_map->ZK,pairwise_iff_getElem->ZM,drop_eq_getElem_cons->ZN,length_set->ZW,flatten_cons->ZX,flatMap_cons->ZY,map_congr_left->Z1,getElem?_replicate->Z2,getElem?_cons_succ->Z3,filterMap_cons->Z4,mem_flatMap->Z8,getElem_mem->Z9,take_of_length_le->Yc,drop_of_length_le->Yd,nodup_cons->Yo,extract_eq_take_drop->YK,any_eq_true->YN,sum_cons->Y1,mem_filterMap->Y2,length_pos_of_mem->Qad,mapM_toArray->Qag,ext_getElem?->Qah,perm_append_comm->Qao,length_replicate->Qap,length_filter_le->Qaq,take_length->QaC,length_drop->QaD,dropLast_concat_getLast->QaI,nil_append->QaT,getElem?_drop->Qa4,take_add_one->Qbq,length_erase_of_mem->Qbr,all_cons->QbG,nodup_range->QbQ,mem_toArray->QbR,getElem?_set_self->QbU,filter_eq_nil_iff->QbV,range_succ->Qcb,length_singleton->Qcc,length_nil->Qcd,foldl_cons->Qce,getElem?_set_ne->QcI,take_take->QcM,zip_cons_cons->Qdx,pairwise_cons->Qdy,getElem?_take->Qdz,filter_append->QdA,any_cons->QdB,zipWith->Qeu,of_mem_zip->Qf2,lookup->Qf3,perm_ext_iff_of_nodup->Qgd,drop_drop->Qhh,pairwise_singleton->Qio,getElem?_cons_zero->Qip,pairwise_lt_range->Qjv,pairwise_flatMap->Qkh,pairwise_and_iff->Qki,getElem?_toArray->Qkj,all_map->Qkk,mem_of_getLast?->Qkv,mem_erase_of_ne->Qkw,getLast?_append->Qkx,toList_toArray->Qm3,map_id->Qm4,length->Qm5,reverse_cons->Qo5,getElem?_set->Qo6,foldl->Qo7,getElem_map->Qp4,take_range->QtG,filter_nil->QtH,take_zero->QtQ,take_nil->Qwp,map_take->Qwq,drop_nil->Qwr,map_nil->QwX,any_map->QwY
open PySem.PyData renaming int->Qe,depthAll->QN,canLayAll0->Q7,eqv->Jj,tuple->Zh,depth->Yk,list->Qac,bool->Qbp,canLay0->Qcm,eqvAll->QtD
open Array renaming length_toList->Qg,toList_append->Jq,getElem?_toList->JQ,getElem?_eq_none->ZF,perm_iff_toList_perm->Yy,toList_inj->Qau,toList_extract->QaE,size_extract->Qa0,getElem?_eq_getElem->Qa6,toList_push->Qbn,toList_reverse->Qcp,mem_toList_iff->Qcq,all_eq_true_iff_forall_mem->QdD,toList_map->Qev,getD_eq_getD_getElem?->Qfh,toList_setIfInBounds->Qf5,toList->Qjy,mem_of_getElem?->Qjz,getElem_toList->Qkl,size_map->QtI
open PyProof.Rows renaming wpS_bind->Qh,wpS_pure->Qi,wpS_forRange->JN,SortSt->JO,slot_tuple_getitem->JP,callWith_type1->Zr,wpS_mono->Ye,SortKind->Yg,wpS_modify->Qab,wpS_get->QbN,step_dedup->Qb0,wpS_lift->Qdw,AllBare->Qew,oneTypeOnly'_eq->Qjr,get?_update_seq->Qjs,listUpdate_at->Qnd,subscriptTail_builtinR->Qo2,seqEpoch_at->QtL,entry_tuple_getitem->QtM,args_tuple_getitem->Qwl
open Nat renaming le_refl->Qj,zero_le->Qr,ne_of_lt->QV,lt_of_lt_of_le->Q0,le_trans->Jd,zero_add->Zo,pow_le_pow_right->ZV,le_of_lt->Ys,lt_succ_of_lt->Yz,lt_irrefl->YA,two_pow_pos->Y7,min_eq_left->Y8,ne_of_gt->Qar,lt_of_le_of_lt->QdP,add_sub_cancel->QdQ,sub_self->QeB,add_zero->QeC,lt_succ_self->Qfe,le_max_right->Qff,succ_mul->Qkt,sub_zero->Qku,testBit_two_pow->Qnh,mod_lt->Qp2,le_of_lt_succ->Qp3,min_le_right->QtF,not_lt_zero->QtP,testBit_or->Qwo
open PySem.Heap renaming get?_push_of_some->Qm,lt_size->Qw,get?_push_size->Qz,get?_update_self->JY,get?_update_other->Za,size_push->YL,SameBut->Qa5
open Bool renaming false_ne_true->Qp,and_eq_true_iff->QK,and_eq_true->Jp,false_eq_true->JT,true_and->Zk,false_and->Zl,eq_iff_iff->ZE,or_eq_true->Qch,and_true->QdC,and_false->QtT
open Option.some renaming inj->Qs
open Int renaming toNat_natCast->QU,natCast_nonneg->Qbf,add_zero->Qco,zero_add->QeE,fdiv_eq_ediv_of_nonneg->Qhj,one_mul->Qni,natCast_add->QtR
open Or renaming inr->Q8,inl->Jc
open PySem.NameKind renaming free->Ja,cell->Yl
open PySem.Builtin renaming bitAnd->Jk,bitOr->QcO
open PySem.Builtin.Range renaming rangeFitsLong->Ju,rangeSize->Zn,rangeFields->Qw9
open PySem.SetTable renaming insertAt->Jw,Probe->QaS,below->Qb1,grown->QeA,runEnd->Qm0
open List.Pairwise renaming filter->JE,imp_of_mem->QaG,map->Qge,sublist->QwZ,of_map->Qw0,nil->Qw1,imp->Qw2
open PySem.Around renaming under_plainId->JK
open ForInStep renaming yield->JL,done->QaN
open PySem.PassesOwn renaming never->JZ
open PySem.Builtin.Int renaming intBits->J6,intTooBig->Qfg
open Option renaming map_eq_some_iff->J7,isSome_iff_exists->Qgc,getD_none->Qng,none->Qwn
open PySem.Obj renaming mapSeq->Zg,data_mapFields->Qbe,mapFields->Qju,isFreed_of_fields->Qks,putSet->Qp0,cls_mapFields->Qp1
open False renaming elim->Zp
open PySem.Value renaming none->ZI,type->ZS,ref->Z6,int->YJ,bool->Qbk,builtin->Qhp,str->QpX,float->QwM
open PySem.F renaming plain_min_loop->ZO,called_set->Y3,args_tuple_add_2->Qa3,entry_tuple_add->Qbl,slot_tuple_add->Qbs,slot_tuple_lt->QbP,entry_min_loop->Qcf,slot_range_reversed->QcN,plainAttrs_list->Qga,args_tuple_lt_2->Qgb,entry_tuple_lt->Qhf,slot_set_iter->Qhs,plain_reversed_new->Qo8,plain_list_iadd->QtS,slot_int_rmul->Qw3,plain_set_new->Qw4
open List.Perm renaming append_left->Ya,append_right->YT,trans->Qas,refl->QbW,eq_of_pairwise->QeD
open PyProof.Rows.F renaming plain_set_update_loop->Yb,entry_set_update_loop->Qbm
open PySem.Builtin.Slice renaming slicePlaces->Yh,sliceAdjust->Qat,sliceApplied->Qde,slicePartIndex->Qw7,sliceFields->Qw8
open PySem.Heap.SameBut renaming update->Yp,refl->Qhk
open PySem.Builtin.Tuple renaming tupleExact->Yq,tupleItemsOf->Qdd,tupleIsExact->Qw5,tupleCompareSizes->Qw6
open Classical renaming byContradiction->Yt
open Prod.mk renaming inj->Y6
open PySem.Challenge renaming rw_rooklands_k23_showings_told->Qan,pw_rooklands_k23_showings_told->QtO
open PySem.SeqAt.Reads renaming unique->QaB
open PySem.Builtin.List renaming listTooLong->QaJ,listExtendWith->Qdf,listSameRef->QdR
open Ne renaming symm->QaZ
open True renaming intro->Qbo
open PySem.Builtin.Builtins renaming bindParams->Qcg
open Sum renaming inl->Qcl,inr->Qf9
open Array.Perm renaming refl->QdE
open PySem.SeqAt renaming eqAt_reads->Qer,notIn_tupleAt->Qkp,notIn_listAt->Qm1,EqAt->Qne
open PySem.Str renaming ofString->Qez
open PySem.Calls renaming Name_function_global->Qf4,call_function_entry->Qgf
open PySem.Shared renaming TypeIs->Qhd
open Nat.succ renaming inj->Qhg
open PySem.SeqAt.EqAt renaming str_int->Qhq,int_str->Qhr
open String renaming splitOnAux->QmZ,splitOn->QpY
open PySem.pickOrder renaming go->Qo3
open PySem.Builtin.Frozenset renaming updateFrom->Qp6,oneOther->Qp7,newClass->Qp8
open PySem.Paired renaming length->QtE
open Sum.inl renaming inj->QtN
open And renaming intro->QtU
open PySem.Heap.IsSliceOf renaming new->Qws
open PySem.Walks renaming range->QwK
open PySem.W.WShape renaming has->QwL
open PyProof.Rows.SortSt renaming mk'->QwN
open PySem.EqMixed renaming ne_str_int->QwO,ne_str_bool->QwP,ne_int_str->QwQ,ne_bool_str->QwR,eq_str_int->QwS,eq_str_bool->QwT,eq_int_str->QwU,eq_bool_str->QwV
open PySem PySem.Spec PyProof.Rows
set_option Elab.async false
set_option linter.all false
set_option maxRecDepth 100000
namespace L2
abbrev Key:=Sum Int Str
def QvB:Key->Value->Bool
 |.inl k,v=>Value.isInt k v
 |.inr x,v=>Value.isStrOf x v
def Qzs(w:Ji):Key->Int
 |.inl k=>hashInt k
 |.inr x=>hashStr w x
theorem ZU:∀{k:Key}{v:Value},QvB k v=true->(∃i t,k=Qcl i/\v=YJ i t)∨(∃x t,k=Qf9 x/\v=QpX x t)
 |.inl i,v,h=>by
  obtain⟨t,e⟩:=Value.isInt_shape (k:=i) (v:=v) h;exact .inl ⟨i,t,rfl,e⟩
 |.inr x,v,h=>by
  obtain⟨t,e⟩:=Value.isStrOf_shape (x:=x) (v:=v) h;exact .inr ⟨x,t,rfl,e⟩
theorem QvA(a b:Int):decide ((Qcl a:Key)=Qcl b)=(a == b):=by
 by_cases e:a=b
 ·subst e;simp
 ·have h:¬(Qcl a:Key)=Qcl b:=λq=>e (QtN q)
  rw[decide_eq_false h];exact(beq_eq_false_iff_ne.mpr e).symm
theorem Qvw(a b:Str):decide ((Qf9 a:Key)=Qf9 b)=decide (a=b):=by
 by_cases e:a=b
 ·subst e;simp
 ·have h:¬(Qf9 a:Key)=Qf9 b:=λq=>e (Sum.inr.inj q)
  rw[decide_eq_false h,decide_eq_false e]
theorem Qvz(a:Int)(b:Str):decide ((Qcl a:Key)=Qf9 b)=false:=decide_eq_false (λq=>nomatch q)
theorem Qvx(a:Str)(b:Int):decide ((Qf9 a:Key)=Qcl b)=false:=decide_eq_false (λq=>nomatch q)
def mixKind(prog:QB)(w:Ji):PySem.KeyKind prog w Key where
 is:=QvB
 hash:=Qzs w
 inj:=λv a b ha hb=>by
  rcases ZU ha with⟨i,t,rfl,rfl⟩ | ⟨x,t,rfl,rfl⟩
  ·rcases ZU hb with⟨j,u,rfl,e⟩ | ⟨y,u,rfl,e⟩
   ·injection e with e1 _;rw[e1]
   ·exact nomatch e
  ·rcases ZU hb with⟨j,u,rfl,e⟩ | ⟨y,u,rfl,e⟩
   ·exact nomatch e
   ·injection e with e1 _;rw[e1]
 byValue:=λk v h=>by
  rcases ZU h with⟨i,t,rfl,rfl⟩ | ⟨x,t,rfl,rfl⟩<;>rfl
 pyHash:=λhv h=>by
  rcases ZU hv with⟨i,t,rfl,rfl⟩ | ⟨x,t,rfl,rfl⟩
  ·exact wpAny_pyHash_int h
  ·exact wpAny_pyHash_str h
 eqBool:=λhu hv h=>by
  rcases ZU hu with⟨i,t,rfl,rfl⟩ | ⟨x,t,rfl,rfl⟩
  ·rcases ZU hv with⟨j,u,rfl,rfl⟩ | ⟨y,u,rfl,rfl⟩
   ·rw[QvA] at h;exact wpAny_eqBool_int h
   ·rw[Qvz] at h;exact Qhr i t y u _ _ _ _ h
  ·rcases ZU hv with⟨j,u,rfl,rfl⟩ | ⟨y,u,rfl,rfl⟩
   ·rw[Qvx] at h;exact Qhq x t j u _ _ _ _ h
   ·rw[Qvw] at h;exact wpAny_eqBool_str h
 «strs» := λk x t v h=>by
  rcases ZU h with⟨i,u,rfl,e⟩ | ⟨y,u,rfl,e⟩
  ·exact nomatch e
  ·injection e with e1 _
   subst e1;cases v<;>rfl
inductive V where
 |non | bl (b:Bool) | int (i:Int) | str (x:Str) | byt (b:Array UInt8) | flt (b:UInt64) | ref (a:Addr) | ty (n:String)
 deriving DecidableEq
def RelV:V->Value->Prop
 |.non,u=>u=ZI
 |.bl b,u=>u=Qbk b
 |.int i,u=>∃t,u=YJ i t
 |.str x,u=>∃t,u=QpX x t
 |.byt b,u=>∃t,u=Value.bytes b t
 |.flt b,u=>∃t,u=QwM b t
 |.ref a,u=>u=Z6 a
 |.ty n,u=>u=ZS n
abbrev Vals:List V->List Value->Prop:=QaY RelV
theorem Vals.length{xs:List V}{us:List Value}(r:Vals xs us):xs.length=us.length:=QtE r
theorem Vals.get:∀{xs:List V}{us:List Value}{i:Nat}{x:V},Vals xs us->xs[i]? = some x->∃u,us[i]? = some u/\RelV x u
 |_,_,_,_,.nil,e=>by simp at e
 |_,_,0,_,.cons r _,e=>by simp at e;subst e;exact⟨_,rfl,r⟩
 |_,_,i+1,x,.cons _ t,e=>by
  obtain⟨u,h1,h2⟩:=Vals.get (i:=i) (x:=x) t (by simpa using e);exact⟨u,by simpa using h1,h2⟩
theorem Vals.set{x:V}{u:Value}(r:RelV x u):∀{xs:List V}{us:List Value}(i:Nat),Vals xs us->Vals (xs.set i x) (us.set i u)
 |_,_,_,.nil=>.nil
 |_,_,0,.cons _ t=>.cons r t
 |_,_,i+1,.cons q t=>.cons q (Vals.set r i t)
theorem Vals.append:∀{xs ys:List V}{us ws:List Value},Vals xs us->Vals ys ws->Vals (xs++ys) (us++ws)
 |_,_,_,_,.nil,s=>s
 |_,_,_,_,.cons r t,s=>.cons r (Vals.append t s)
theorem Vals.take:∀{xs:List V}{us:List Value}(n:Nat),Vals xs us->Vals (xs.take n) (us.take n)
 |_,_,0,_=>.nil
 |_,_,_+1,.nil=>.nil
 |_,_,n+1,.cons r t=>.cons r (Vals.take n t)
theorem Vals.drop:∀{xs:List V}{us:List Value}(n:Nat),Vals xs us->Vals (xs.drop n) (us.drop n)
 |_,_,0,r=>r
 |_,_,_+1,.nil=>.nil
 |_,_,n+1,.cons _ t=>Vals.drop n t
def Qyn:Option V->Option Value->Prop
 |some v,some u=>RelV v u
 |none,none=>True
 |_,_=>False
def KV{κ:Type}:List (κ×V)->List (κ×Value)->Prop:=QaY λ(p:κ×V)(q:κ×Value)=>p.1=q.1/\RelV p.2 q.2
def kV:Key->V
 |.inl i=>.int i
 |.inr x=>.str x
inductive HO where
 /-- a list -/
 |lst (xs:List V)
 /-- a tuple (never changes) -/
 |tup (xs:List V)
 /-- a dict whose keys are ints and texts;one whose keys are tuples of ints and texts (the empty one is both) -/
 |dK (kvs:List (Key×V)) | dT (kvs:List (List Key×V))
 /-- a set of ints: its members,its size -/
 |set (S:Int->Bool) (n:Nat)
 /-- an instance of the class at C,its dict at dx,its attributes -/
 |ins (C dx:Addr) (fs:List (Str×V))
 /-- the dict of the instance at x -/
 |own (x:Addr)
 /-- the dict of an exception -/
 |xd (fs:List (Str×V))
 /-- a bound method,f of x -/
 |met (f x:Addr)
 /-- a range object lo,lo+1,.. below hi -/
 |rng (lo hi:Int)
 /-- a thing that is known to the object (the script;a dict while a loop walks it): read,never written while it is so -/
 |frz (o:Obj) (u:HO)
 /-- a code object's table -/
 |tbl (ps:Array Value)
 /-- any other thing,by what is true of its one object (a def of one's own: SetO a S n:=HO.ext λh=>..) -/
 |ext (φ:Heap->Prop)
abbrev Hp:=Addr->Option HO
def upd(H:Hp)(a:Addr)(o:HO):Hp:=λb=>if b=a then some o else H b
theorem JB{H:Hp}{a:Addr}{o:HO}:upd H a o a=some o:=by unfold upd;rw[if_pos rfl]
theorem JU{H:Hp}{a b:Addr}{o:HO}(h:b≠a):upd H a o b=H b:=by unfold upd;rw[if_neg h]
theorem ZL{H:Hp}{a b:Addr}{o:HO}(h:H a=some o)(h':H b=none):a≠b:=by
 intro e;subst e;rw[h] at h';cases h'
def TupN(h:Heap)(a:Addr)(items:Array Value):Prop:=∃o,h.get? a=some o/\o.cls=.type "tuple" /\ o.dict=none/\∃n,o.data=.seq items n
theorem TupN.tup{h:Heap}{a:Addr}{items:Array Value}(x:TupN h a items):IsTup h a items:=let ⟨o,e,c,_,d⟩:=x;⟨o,e,c,d⟩
theorem TupN.lt{h:Heap}{a:Addr}{items:Array Value}(x:TupN h a items):a<h.objs.size:=let ⟨_,e,_⟩:=x;Qw e
theorem TupN.new(h:Heap)(items:Array Value):TupN (h.push { cls:=.type "tuple",data:=.seq items }) h.objs.size items:=⟨_,Qz _ rfl,rfl,rfl,_,rfl⟩
section
variable(P:QB)(w:Ji)
def ObjOk(H:Hp)(h:Heap)(a:Addr):HO->Prop
 |.lst xs=>xs.length<=sizeLine/\∃(its:List Value)(n:Nat),Vals xs its/\h.get? a=some { cls:=.type "list",data:=.seq its.toArray n }
 |.tup xs=>xs.length<=sizeLine/\∃its:List Value,Vals xs its/\TupN h a its.toArray
 |.dK kvs=>kvs.length<=sizeLine/\(a == sysModules)=false/\∃vs,KV kvs vs/\h.DictOf (mixKind P w) a vs
 |.dT kvs=>kvs.length<=sizeLine/\(a == sysModules)=false/\∃xs:List (List Key×Addr×Value),
   QaY (λ(p:List Key×V)(q:List Key×Addr×Value)=>p.1=q.1/\H q.2.1=some (.tup (p.1.map kV))/\RelV p.2 q.2.2) kvs xs /\
   ∃o es ep,h.get? a=some o/\o.ExactDict/\o.data=.dict es ep/\es.toList=xs.map (entryOfKey (tupleKind (mixKind P w)))/\(xs.map (·.1)).Nodup
 |.set S n=>h.SetOf (intKind P w) a S n
 |.ins C dx fs=>H dx=some (.own a)/\fs.length<=1000/\dx≠a/\h.get? a=some (PySem.W.instObj C dx) /\
   ∃mA,h.Ns1 dx mA/\(∀f,Qyn (fs.lookup f) (mA f))/\PySem.Within mA (fs.map (·.1))
 |.own _=>∃o,h.get? a=some o
 |.xd fs=>∃mA,h.Ns1 a mA/\∀f,Qyn (fs.lookup f) (mA f)
 |.rng lo hi=>∃t u v,h.get? a=some { cls:=.type "range",data:=.fields #[.int lo t,.int hi u,.int 1 v] }
 |.frz o u=>h.get? a=some o/\ObjOk H h a u
 |.tbl ps=>h.get? a=some { cls:=.none,data:=.fields ps }
 |.met f x=>h.get? a=some (PySem.W.methodObj (.ref f) (.ref x))
 |.ext φ=>φ h/\(∃o,h.get? a=some o)/\∀h1 h2:Heap,φ h1->(∀o,h1.get? a=some o->h2.get? a=some o)->φ h2
def HOk(H:Hp)(h:Heap):Prop:=∀a o,H a=some o->ObjOk P w H h a o
end
section
variable{P:QB}{w:Ji}{H H':Hp}{h h':Heap}{a:Addr}{o:HO}
theorem ObjOk.lt(x:ObjOk P w H h a o):a<h.objs.size:=by
 cases o with
 |lst xs=>obtain⟨_,_,_,_,e⟩:=x;exact Qw e
 |tup xs=>obtain⟨_,_,_,p⟩:=x;exact p.lt
 |dK kvs=>obtain⟨_,_,_,_,o,_,_,e,_⟩:=x;exact Qw e
 |dT kvs=>obtain⟨_,_,_,_,o,_,_,e,_⟩:=x;exact Qw e
 |set S n=>obtain⟨o,_,_,_,e,_⟩:=x;exact Qw e
 |ins C dx fs=>obtain⟨_,_,_,e,_⟩:=x;exact Qw e
 |own y=>obtain⟨_,e⟩:=x;exact Qw e
 |xd fs=>obtain⟨_,⟨_,_,_,e,_⟩,_⟩:=x;exact Qw e
 |rng lo hi=>obtain⟨_,_,_,e⟩:=x;exact Qw e
 |frz ob u=>obtain⟨e,_⟩:=x;exact Qw e
 |tbl ps=>exact Qw (show h.get? a=some _ from x)
 |met f y=>exact Qw (show h.get? a=some _ from x)
 |ext φ=>obtain⟨_,⟨_,e⟩,_⟩:=x;exact Qw e
theorem QaY.mapP{α β:Type}{F G:α->β->Prop}:∀{l₁:List α}{l₂:List β},QaY F l₁ l₂->(∀a b,F a b->G a b)->QaY G l₁ l₂
 |_,_,.nil,_=>.nil
 |_,_,.cons r t,f=>.cons (f _ _ r) (QaY.mapP t f)
theorem ObjOk.stay(x:ObjOk P w H h a o)(k:∀b u,(b=a∨H b=some (.own a))->h.get? b=some u->h'.get? b=some u)
  (ho:∀b,H b=some (.own a)->H' b=some (.own a))(ht:∀b xs,H b=some (.tup xs)->H' b=some (.tup xs)):ObjOk P w H' h' a o:=by
 induction o with
 |lst xs=>obtain⟨z,its,n,r,e⟩:=x;exact⟨z,its,n,r,k _ _ (.inl rfl) e⟩
 |tup xs=>obtain⟨z,its,r,ob,e,c⟩:=x;exact⟨z,its,r,ob,k _ _ (.inl rfl) e,c⟩
 |dK kvs=>obtain⟨z,y,vs,r,ob,es,ep,e,c⟩:=x;exact⟨z,y,vs,r,ob,es,ep,k _ _ (.inl rfl) e,c⟩
 |dT kvs=>
  obtain⟨z,y,xs,r,ob,es,ep,e,c⟩:=x;exact⟨z,y,xs,QaY.mapP r λp q z=>⟨z.1,ht _ _ z.2.1,z.2.2⟩,ob,es,ep,k _ _ (.inl rfl) e,c⟩
 |set S n=>obtain⟨ob,es,ep,t,e,c⟩:=x;exact⟨ob,es,ep,t,k _ _ (.inl rfl) e,c⟩
 |ins C dx fs=>
  obtain⟨d,z,ne,e,mA,⟨od,es,ep,e2,c⟩,r⟩:=x;exact⟨ho _ d,z,ne,k _ _ (.inl rfl) e,mA,⟨od,es,ep,k _ _ (.inr d) e2,c⟩,r⟩
 |own y=>obtain⟨ob,e⟩:=x;exact⟨ob,k _ _ (.inl rfl) e⟩
 |xd fs=>obtain⟨mA,⟨od,es,ep,e,c⟩,r⟩:=x;exact⟨mA,⟨od,es,ep,k _ _ (.inl rfl) e,c⟩,r⟩
 |rng lo hi=>obtain⟨t,u,v,e⟩:=x;exact⟨t,u,v,k _ _ (.inl rfl) e⟩
 |frz ob u ih=>obtain⟨e,q⟩:=x;exact⟨k _ _ (.inl rfl) e,ih q⟩
 |tbl ps=>
  have e:h.get? a=some { cls:=.none,data:=.fields ps }:=x;show h'.get? a=some { cls:=.none,data:=.fields ps };exact k a _ (.inl rfl) e
 |met f y=>
  have e:h.get? a=some (PySem.W.methodObj (.ref f) (.ref y)):=x;show h'.get? a=some (PySem.W.methodObj (.ref f) (.ref y));exact k a _ (.inl rfl) e
 |ext φ=>obtain⟨p,⟨o,e⟩,st⟩:=x;exact⟨st _ _ p λo q=>k _ _ (.inl rfl) q,⟨o,k _ _ (.inl rfl) e⟩,st⟩
theorem HOk.lt(x:HOk P w H h)(e:H a=some o):a<h.objs.size:=(x a o e).lt
theorem HOk.fresh(x:HOk P w H h)(e:h.objs.size<=a):H a=none:=by
 cases q:H a with
 |none=>rfl
 |some u=>exact absurd (Q0 (x.lt q) e) (YA _)
theorem HOk.kept(x:HOk P w H h)(k:∀b u,h.get? b=some u->h'.get? b=some u):HOk P w H h':=λa o e=>
 (x a o e).stay (λb u _ q=>k b u q) (λ_ q=>q) λ_ _ q=>q
theorem HOk.laid(x:HOk P w H h)(k:∀b u,h.get? b=some u->h'.get? b=some u)(hp:h.objs.size<=a)(new:ObjOk P w (upd H a o) h' a o):HOk P w (upd H a o) h':=λb u e=>by
 have hn:=x.fresh hp;by_cases hb:b=a
 ·subst hb;rw[JB] at e;cases e;exact new
 ·rw[JU hb] at e;exact(x b u e).stay (λc v _ q=>k c v q) (λc q=>by rw[JU (ZL q hn)];exact q) λc xs q=>by rw[JU (ZL q hn)];exact q
end
def Rd(H:Hp)(a:Addr)(u:HO):Prop:=H a=some u∨∃o,H a=some (.frz o u)
theorem Rd.ok{P:QB}{w:Ji}{H:Hp}{h:Heap}{a:Addr}{u:HO}(r:Rd H a u)(x:HOk P w H h):ObjOk P w H h a u:=by
 rcases r with r | ⟨o,r⟩
 ·exact x a u r
 ·obtain⟨_,q⟩:=x a _ r;exact q
def Mut:Option HO->Prop
 |some (.lst _)=>True
 |some (.dK _)=>True
 |some (.dT _)=>True
 |some (.set _ _)=>True
 |some (.ins _ _ _)=>True
 |some (.ext _)=>True
 |_=>False
section
variable{P:QB}{w:Ji}{H:Hp}{h h':Heap}{x e:Addr}{o':HO}
theorem HOk.write(ok:HOk P w H h)(mu:Mut (H x))(he:e=x∨H e=some (.own x))(k:∀b u,b≠e->h.get? b=some u->h'.get? b=some u)(heo:∃u,h'.get? e=some u)
  (new:ObjOk P w (upd H x o') h' x o'):HOk P w (upd H x o') h':=λb u q=>by
 have nown:∀c y,H c=some (.own y)->c≠x:=λc y r z=>by subst z;rw[r] at mu;exact mu
 have ntup:∀c xs,H c=some (.tup xs)->c≠x:=λc xs r z=>by subst z;rw[r] at mu;exact mu
 by_cases hb:b=x
 ·subst hb;rw[JB] at q;cases q;exact new
 ·rw[JU hb] at q;by_cases hbe:b=e
  ·have q':H b=some (.own x):=by
    rcases he with z | z
    ·exact absurd (hbe.trans z) hb
    ·rw[hbe];exact z
   rw[q] at q';cases q';obtain⟨v,hv⟩:=heo;exact⟨v,by rw[hbe];exact hv⟩
  ·refine(ok b u q).stay (λc v hc r=>k c v ?_ r) (λc r=>by rw[JU (nown c b r)];exact r) λc xs r=>by rw[JU (ntup c xs r)];exact r
   rcases hc with rfl | hc
   ·exact hbe
   ·rintro rfl;rcases he with z | z
    ·exact nown c b hc z
    ·rw[hc] at z;cases z;exact hb rfl
end
structure Un (fs ex:List Addr) (H H':Hp) (h h':Heap):Prop where
 keep:∀b o,h.get? b=some o->H b=none->b∉fs->b∉ex->h'.get? b=some o
 slot:∀b o,h.get? b=some o->H b=none->b∈fs->b∉ex->∃sl,h'.get? b=some { o with slots:=sl }
 free:∀b o,h.get? b=some o->H b=none->b∉ex->H' b=none
 there:∀b o,h.get? b=some o->b∉ex->∃o',h'.get? b=some o'
 tups:∀b xs,H b=some (.tup xs)->H' b=some (.tup xs)
 frzs:∀b o u,H b=some (.frz o u)->H' b=some (.frz o u)
 tbls:∀b ps,H b=some (.tbl ps)->∃more,H' b=some (.tbl (ps++more))
section
variable{fs fs' ex ex':List Addr}{H H1 H2:Hp}{h h1 h2 h':Heap}{a x e:Addr}{o:HO}
theorem Un.any(u:Un fs ex H H1 h h1){b:Addr}{ob:Obj}(q:h.get? b=some ob)(n:H b=none)(hx:b∉ex):∃sl,h1.get? b=some { ob with slots:=sl }:=by
 by_cases hb:b∈fs
 ·exact u.slot b ob q n hb hx
 ·exact⟨ob.slots,u.keep b ob q n hb hx⟩
theorem Un.kept(k:∀b u,h.get? b=some u->h'.get? b=some u):Un fs ex H H h h':=
 ⟨λb ob q _ _ _=>k b ob q,λb ob q _ _ _=>⟨ob.slots,k b ob q⟩,λ_ _ _ n _=>n,λb ob q _=>⟨ob,k b ob q⟩,λ_ _ q=>q,λ_ _ _ q=>q,λ_ ps q=>⟨#[],by rw[q];simp⟩⟩
theorem Un.refl:Un fs ex H H h h:=Un.kept λ_ _ q=>q
theorem Un.laid(k:∀b u,h.get? b=some u->h'.get? b=some u)(hp:h.objs.size<=a)(hn:H a=none):Un fs ex H (upd H a o) h h' where
 keep:=λb u q _ _ _=>k b u q
 slot:=λb u q _ _ _=>⟨u.slots,k b u q⟩
 free:=λb u q n _=>by rw[JU (QV (Q0 (Qw q) hp))];exact n
 there:=λb u q _=>⟨u,k b u q⟩
 tups:=λb xs q=>by rw[JU (ZL q hn)];exact q
 frzs:=λb u xs q=>by rw[JU (ZL q hn)];exact q
 tbls:=λb ps q=>⟨#[],by rw[JU (ZL q hn),q];simp⟩
theorem Un.write(mu:Mut (H x))(he:e=x∨H e=some (.own x))(k:∀b u,b≠e->h.get? b=some u->h'.get? b=some u)(heo:∃u,h'.get? e=some u):Un fs ex H (upd H x o) h h':=by
 have hx:∀b,H b=none->b≠x:=λb n z=>by subst z;rw[n] at mu;exact mu
 have hb:∀b,H b=none->b≠e:=λb n z=>by
  subst z;rcases he with r | r
  ·exact hx b n r
  ·rw[n] at r;cases r
 have hm:∀b u,H b=some u->¬Mut (some u)->b≠x:=λb u q nm z=>by subst z;rw[q] at mu;exact nm mu
 refine⟨λb u q n _ _=>k b u (hb b n) q,λb u q n _ _=>⟨u.slots,k b u (hb b n) q⟩,λb u q n _=>by rw[JU (hx b n)];exact n,λb u q _=>?_,
  λb xs q=>by rw[JU (hm b _ q λz=>z)];exact q,λb u xs q=>by rw[JU (hm b _ q λz=>z)];exact q,λb ps q=>⟨#[],by rw[JU (hm b _ q λz=>z),q];simp⟩⟩
 by_cases hbe:b=e
 ·subst hbe;exact heo
 ·exact⟨u,k b u hbe q⟩
end
def trk(h:Heap)(H:Hp):List Addr:=(Je h.objs.size).filter λa=>(H a).isSome
def Qox(h:Heap)(H:Hp):Heap:=PySem.W.hideAll h (trk h H)
theorem Ql9(h:Heap)(H:Hp):(Qox h H).objs.size=h.objs.size:=PySem.W.hideAll_size _ _
theorem Qow{h:Heap}{H:Hp}{b:Addr}{o:Obj}(e:h.get? b=some o)(n:H b=none):(Qox h H).get? b=some o:=
 PySem.W.hideAll_get _ e λhm=>by
  have q:(H b).isSome=true:=(Qu.mp hm).2;rw[n] at q;simp at q
theorem QsG{h:Heap}{H:Hp}{b:Addr}{o:Obj}(e:(Qox h H).get? b=some o):h.get? b=some o/\H b=none:=by
 have e':h.get? b=some o:=PySem.W.of_hideAll (trk h H) e;refine⟨e',?_⟩;cases q:H b with
 |none=>rfl
 |some x=>
  have hm:b∈trk h H:=Qu.mpr ⟨Js.mpr (Qw e'),by simp[q]⟩;have z:(Qox h H).get? b=none:=PySem.W.hideAll_none (trk h H) hm;rw[z] at e;cases e
def Qtv(g h:Heap)(L:Addr):List (Addr×Obj):=(Je h.objs.size).filterMap λa=>if a=L∨(g.get? a).isSome=true then none else(h.get? a).map λo=>(a,o)
def rest(g h:Heap)(L d:Addr):List (Addr×Obj):=(Qtv g h L).filter λp=>decide (p.1≠d)
structure Mod (K:PySem.W.Frag) (mg:Str->Option Value) (base:Heap):Prop where
 kin:K.In base
 glob:base.Ns mainGlobals mg
 blt:∃mb,base.Ns builtinsNs mb/\∀x:Str,x ≠ "__name__" -> mb x=bootBuiltins x
 nolimit:base.NoLimit
structure Cx where
 prog:QB
 w:Ji
 K:PySem.W.Frag
 mg:Str->Option Value
 base:Heap
 A:Q3
 N:List Str
 s₀:Shared
 H₀:Hp
 env:Env
 outer:List Env
 stack:List Env
 ex:List Addr
 fn:Str->Bool
 calm:Bool
 pn:List (Addr×Obj)
 xe:Value->Shared->Prop
def frs(l:List Env):List Addr:=l.filterMap (·.frame)
abbrev Cx.fs (X:Cx):List Addr:=frs X.outer
def Vis(sc:QaM)(x:Str):Prop:=sc.names.lookup x=some .local∨sc.names.lookup x=some .cell∨sc.names.lookup x=some .free
def Loc(sc:QaM)(x:Str):Prop:=sc.names.lookup x=some .local∨sc.names.lookup x=some .cell
def Look(env:Env)(h:Heap)(m:Str->Option Value)(x:Str)(u:Value):Prop:=
 (env.kindOf x=some .local/\m x=some u)∨((env.kindOf x=some .cell∨env.kindOf x=some .free)/\∃c,env.cells.lookup x=some c/\h.IsCell c (some u))
structure Cx.Ok (X:Cx):Prop where
 mod:Mod X.K X.mg X.base
 kind:X.env.scope.kind=.function
 glob:X.env.globals=mainGlobals
 blt:X.env.builtins=builtinsNs
 above:X.s₀.heap.objs.size<=X.env.locals
 inj:∀x y c,X.env.cells.lookup x=some c->X.env.cells.lookup y=some c->x=y
 has:∀x,(X.env.kindOf x=some .cell∨X.env.kindOf x=some .free)->∃c,X.env.cells.lookup x=some c
 cab:∀x c,X.fn x=true->X.env.cells.lookup x=some c->X.s₀.heap.objs.size<=c
 hd:X.calm=true->X.A.handled=none
 frames:X.A.frames=some X.stack
 stk:X.stack=X.outer∨(X.stack=X.env::X.outer/\X.env.frame=some X.env.locals)
 exf:∀b∈X.ex,b≠X.env.locals/\∀x c,X.env.cells.lookup x=some c->c≠b
 bs:∀b o,X.base.get? b=some o->X.s₀.heap.get? b=some o/\X.H₀ b=none
 bsz:X.base.objs.size<=X.s₀.heap.objs.size
 noex:∀b o,X.base.get? b=some o->b∉X.ex
 exfs:∀b∈X.ex,b∉X.fs
 funs:X.s₀.heap.FunFrames X.base X.outer
 frf:∀b∈X.fs,X.H₀ b=none
structure Inv (X:Cx) (pins:List (Addr×Obj)) (σ:List (Option V)) (H:Hp) (s:Shared):Prop where
 ok:X.Ok
 os:s.os=X.s₀.os
 bare:Qew s.gens
 base:Un X.fs X.ex X.H₀ H X.s₀.heap s.heap
 loc:∃m,s.heap.Ns X.env.locals m/\∀(i:Nat)(x:Str)(v:V),X.N[i]? = some x->σ[i]? = some (some v)->Vis X.env.scope x->∃u,RelV v u/\Look X.env s.heap m x u
 cell:∀x c,X.env.cells.lookup x=some c->∃v,s.heap.IsCell c v
 free:H X.env.locals=none
 freeC:∀x c,X.env.cells.lookup x=some c->H c=none
 pin:∀p∈X.pn++pins,s.heap.get? p.1=some p.2/\H p.1=none/\p.1≠X.env.locals/\p.1∉X.fs/\∀v,p.2.data≠.cell v
 hok:HOk X.prog X.w H s.heap
 len:σ.length=X.N.length
section
variable{X:Cx}{pins:List (Addr×Obj)}{σ:List (Option V)}{H H':Hp}{s:Shared}{h':Heap}
theorem Cx.Ok.nofr(ok:X.Ok){b:Addr}{o:Obj}(e:X.base.get? b=some o):b∉X.fs:=λhb=>by
 have:=(ok.funs.mem hb).1;rw[e] at this;cases this
theorem Inv.bs(I:Inv X pins σ H s):∀b o,X.base.get? b=some o->s.heap.get? b=some o/\H b=none:=λb o e=>
 ⟨I.base.keep b o (I.ok.bs b o e).1 (I.ok.bs b o e).2 (I.ok.nofr e) (I.ok.noex b o e),I.base.free b o (I.ok.bs b o e).1 (I.ok.bs b o e).2 (I.ok.noex b o e)⟩
theorem Inv.bk(I:Inv X pins σ H s):∀b o,X.base.get? b=some o->s.heap.get? b=some o:=λb o e=>(I.bs b o e).1
theorem Inv.mod(I:Inv X pins σ H s):Mod X.K X.mg X.base:=I.ok.mod
theorem Inv.kIn(I:Inv X pins σ H s):X.K.In s.heap:=I.ok.mod.kin.keeps I.bk
theorem Inv.fr(I:Inv X pins σ H s):∃m,Fr X.base X.env.locals s.heap m:=
 let ⟨m,hn,_⟩:=I.loc
 ⟨m,hn,I.bk,Jd I.ok.bsz I.ok.above⟩
theorem Inv.lt(I:Inv X pins σ H s):X.env.locals<s.heap.objs.size:=let ⟨_,hn,_⟩:=I.loc;hn.lt
theorem Inv.sz(I:Inv X pins σ H s):X.s₀.heap.objs.size<=s.heap.objs.size:=Jd I.ok.above (Ys I.lt)
theorem Inv.nofs(I:Inv X pins σ H s){a:Addr}(h:s.heap.objs.size<=a):a∉X.fs:=λhb=>by
 obtain⟨_,o,ho,_⟩:=I.ok.funs.mem hb;exact absurd (Q0 (Qw ho) (Jd I.sz h)) (YA _)
theorem Inv.cne(I:Inv X pins σ H s):∀x c,X.env.cells.lookup x=some c->c≠X.env.locals:=λx c e z=>by
 obtain⟨v,o,ho,hd⟩:=I.cell x c e;obtain⟨m,⟨o',es,ep,ho',hd',_⟩,_⟩:=I.loc;rw[z,ho'] at ho;cases ho;rw[hd'] at hd;cases hd
theorem Inv.funs(I:Inv X pins σ H s):s.heap.FunFrames X.base X.outer:=by
 have all:∀(l:List Env),(∀b∈frs l,b∈X.fs)->X.s₀.heap.FunFrames X.base l->s.heap.FunFrames X.base l:=by
  intro l;induction l with
  |nil=>intro _ _;trivial
  |cons env r ih=>
   intro hs hl;obtain⟨hk,⟨L,o,hf,hn,ho,hd⟩,hr⟩:=hl;have hL:L∈X.fs:=hs L (by unfold frs;rw[Z4,hf];exact J4);obtain⟨sl,e⟩:=I.base.slot L o ho (I.ok.frf L hL) hL λz=>I.ok.exfs L z hL
   exact⟨hk,⟨L,_,hf,hn,e,hd⟩,ih (λb hb=>hs b (by unfold frs;rw[Z4,hf];exact Jg _ hb)) hr⟩
 exact all X.outer (λ_ hb=>hb) I.ok.funs
theorem Inv.stack(I:Inv X pins σ H s):s.heap.FunFrames X.base X.stack:=by
 rcases I.ok.stk with e | ⟨e,hf⟩
 ·rw[e];exact I.funs
 ·rw[e];obtain⟨m,hn,_⟩:=I.loc;refine .cons (by rw[I.ok.kind];decide) hf hn ?_ I.funs
  exact Heap.get?_none_of_le (Jd I.ok.bsz I.ok.above)
theorem Inv.stkSub(I:Inv X pins σ H s):∀b∈frs X.stack,b∈X.env.locals::X.fs:=λb hb=>by
 rcases I.ok.stk with e | ⟨e,hf⟩
 ·rw[e] at hb;exact Jg _ hb
 ·rw[e] at hb;unfold frs at hb;rw[Z4,hf] at hb;exact hb
theorem Inv.stkFree(I:Inv X pins σ H s):∀b∈frs X.stack,H b=none:=λb hb=>by
 rcases Qy.mp (I.stkSub b hb) with e | hb
 ·rw[e];exact I.free
 ·obtain⟨_,o,ho,_⟩:=I.ok.funs.mem hb;exact I.base.free b o ho (I.ok.frf b hb) λz=>I.ok.exfs b z hb
theorem Inv.step{g':Array GenState}{t':Nat}{d':Drawn}{ch:List Addr}(I:Inv X pins σ H s)
  (hch:∀b∈ch,(b∈X.ex∨X.s₀.heap.objs.size<=b)/\b≠X.env.locals/\(∀x c,X.env.cells.lookup x=some c->c≠b)/\∀p∈X.pn++pins,p.1≠b)
  (keep:∀b o,b≠X.env.locals->b∉X.fs->b∉ch->s.heap.get? b=some o->H b=none->h'.get? b=some o)
  (slot:∀b o,b≠X.env.locals->b∈X.fs->b∉ch->s.heap.get? b=some o->H b=none->∃sl,h'.get? b=some { o with slots:=sl })(free:∀b o,b∉ch->s.heap.get? b=some o->H b=none->H' b=none)
  (there:∀b o,b∉ch->s.heap.get? b=some o->∃o',h'.get? b=some o')
  (tups:∀b xs,H b=some (.tup xs)->H' b=some (.tup xs))(frzs:∀b o u,H b=some (.frz o u)->H' b=some (.frz o u))(tbls:∀b ps,H b=some (.tbl ps)->∃more,H' b=some (.tbl (ps++more)))
  (ns:∀m,s.heap.Ns X.env.locals m->h'.Ns X.env.locals m)(hok:HOk X.prog X.w H' h')(hg:Qew g') :
  Inv X pins σ H' { s with heap:=h',gens:=g',drawn:=d',toks:=t' }:=by
 have neL:∀b o,X.s₀.heap.get? b=some o->b≠X.env.locals:=λb o e=>QV (Q0 (Qw e) I.ok.above)
 have neC:∀b o,X.s₀.heap.get? b=some o->b∉X.ex->b∉ch:=λb o e hx hb=>by
  rcases(hch b hb).1 with z | z
  ·exact hx z
  ·exact absurd (Q0 (Qw e) z) (YA _)
 have cellK:∀x c,X.env.cells.lookup x=some c->∀v,s.heap.IsCell c v->h'.IsCell c v:=λx c e v ⟨o,ho,hd⟩=>by
  have nch:c∉ch:=λz=>(hch c z).2.2.1 x c e rfl
  by_cases hc:c∈X.fs
  ·obtain⟨sl,q⟩:=slot c o (I.cne x c e) hc nch ho (I.freeC x c e);exact⟨_,q,hd⟩
  ·exact⟨o,keep c o (I.cne x c e) hc nch ho (I.freeC x c e),hd⟩
 refine⟨I.ok,I.os,hg,⟨λb o e n hb hx=>?_,λb o e n hb hx=>?_,λb o e n hx=>?_,λb o e hx=>?_,λb xs e=>tups b xs (I.base.tups b xs e),λb o xs e=>frzs b o xs (I.base.frzs b o xs e),λb ps e=>?_⟩,?_,λx c e=>?_,?_,λx c e=>?_,λp hp=>?_,hok,I.len⟩
 ·exact keep b o (neL b o e) hb (neC b o e hx) (I.base.keep b o e n hb hx) (I.base.free b o e n hx)
 ·obtain⟨sl,e1⟩:=I.base.slot b o e n hb hx;obtain⟨sl',e2⟩:=slot b _ (neL b o e) hb (neC b o e hx) e1 (I.base.free b o e n hx);exact⟨sl',e2⟩
 ·obtain⟨o',e1⟩:=I.base.there b o e hx;exact free b o' (neC b o e hx) e1 (I.base.free b o e n hx)
 ·obtain⟨o',e1⟩:=I.base.there b o e hx;exact there b o' (neC b o e hx) e1
 ·obtain⟨m1,e1⟩:=I.base.tbls b ps e;obtain⟨m2,e2⟩:=tbls b _ e1;exact⟨m1++m2,by rw[e2,Array.append_assoc]⟩
 ·obtain⟨m,hn,hl⟩:=I.loc;refine⟨m,ns m hn,λi x v e1 e2 e3=>?_⟩;obtain⟨u,r,l⟩:=hl i x v e1 e2 e3;refine⟨u,r,?_⟩;rcases l with l | ⟨k,c,e,z⟩
  ·exact .inl l
  ·exact .inr ⟨k,c,e,cellK x c e _ z⟩
 ·obtain⟨v,z⟩:=I.cell x c e;exact⟨v,cellK x c e v z⟩
 ·obtain⟨m,⟨o,_,_,ho,_⟩,_⟩:=I.loc;exact free _ o (λz=>(hch _ z).2.1 rfl) ho I.free
 ·obtain⟨v,o,ho,hd⟩:=I.cell x c e;exact free c o (λz=>(hch c z).2.2.1 x c e rfl) ho (I.freeC x c e)
 ·obtain⟨e,n,ne,nf,d⟩:=I.pin p hp;have nch:p.1∉ch:=λz=>(hch p.1 z).2.2.2 p hp rfl
  exact⟨keep p.1 p.2 ne nf nch e n,free p.1 p.2 nch e n,ne,nf,d⟩
theorem Inv.un{t':Nat}(I:Inv X pins σ H s)(u:Un X.fs [] H H' s.heap h')(hok:HOk X.prog X.w H' h'):Inv X pins σ H' { s with heap:=h',toks:=t' }:=by
 obtain⟨m,⟨o,es,ep,ho,r⟩,_⟩:=id I.loc;obtain⟨sl,hL⟩:=u.any ho I.free (by simp);exact I.step (g':=s.gens) (d':=s.drawn) (ch:=[]) (λ_ z=>nomatch z) (λb o _ hb _ e n=>u.keep b o e n hb (by simp)) (λb o _ hb _ e n=>u.slot b o e n hb (by simp)) (λb o _ e n=>u.free b o e n (by simp)) (λb o _ e=>u.there b o e (by simp)) u.tups u.frzs u.tbls (λm' hm=>by
  obtain⟨o',es',ep',ho',r'⟩:=hm;rw[ho] at ho';cases ho';exact⟨_,es',ep',hL,r'⟩) hok I.bare
theorem Inv.call{g':Array GenState}{t':Nat}{d':Drawn}{ch:List Addr}(I:Inv X pins σ H s)(u:Un (frs X.stack) ch H H' s.heap h')(hok:HOk X.prog X.w H' h')(hg:Qew g')
  (hch:∀b∈ch,(b∈X.ex∨X.s₀.heap.objs.size<=b)/\b≠X.env.locals/\(∀x c,X.env.cells.lookup x=some c->c≠b)/\∀p∈X.pn++pins,p.1≠b) :
  Inv X pins σ H' { s with heap:=h',gens:=g',drawn:=d',toks:=t' }:=by
 obtain⟨m,⟨o,es,ep,ho,r⟩,_⟩:=id I.loc;obtain⟨sl,hL⟩:=u.any ho I.free λz=>(hch _ z).2.1 rfl
 exact I.step (ch:=ch) hch (λb o hL hb hc e n=>u.keep b o e n (λz=>(Qy.mp (I.stkSub b z)).elim hL hb) hc) (λb o _ _ hc e n=>u.any e n hc) (λb o hc e n=>u.free b o e n hc) (λb o hc e=>u.there b o e hc) u.tups u.frzs u.tbls (λm' hm=>by
  obtain⟨o',es',ep',ho',r'⟩:=hm;rw[ho] at ho';cases ho';exact⟨_,es',ep',hL,r'⟩) hok hg
theorem Inv.turned{t':Nat}{it:Addr}(I:Inv X pins σ H s)(k:∀b o,b≠it->s.heap.get? b=some o->h'.get? b=some o)(hn:H it=none)(hL:it≠X.env.locals)
  (h1:it∈X.ex∨X.s₀.heap.objs.size<=it)(h2:∀x c,X.env.cells.lookup x=some c->c≠it)(h3:∀p∈X.pn++pins,p.1≠it):Inv X pins σ H { s with heap:=h',toks:=t' }:=by
 have nit:∀b u,H b=some u->b≠it:=λb u e z=>by rw[z,hn] at e;cases e
 refine I.step (g':=s.gens) (d':=s.drawn) (ch:=[it]) (λb hb=>?_) (λb o _ _ hc e _=>k b o (λz=>hc (by simp[z])) e) (λb o _ _ hc e _=>⟨o.slots,k b o (λz=>hc (by simp[z])) e⟩) (λ_ _ _ _ n=>n)
  (λb o hc e=>⟨o,k b o (λz=>hc (by simp[z])) e⟩) (λ_ _ e=>e) (λ_ _ _ e=>e) (λb ps e=>⟨#[],by rw[e];simp⟩) (λm hm=>?_) (λb u e=>?_) I.bare
 ·have e:b=it:=by simpa using hb
  subst e;exact⟨h1,hL,h2,h3⟩
 ·obtain⟨o,es,ep,ho,r⟩:=hm;exact⟨o,es,ep,k _ o (QaZ hL) ho,r⟩
 ·refine(I.hok b u e).stay (λc v hc q=>k c v ?_ q) (λ_ q=>q) λ_ _ q=>q
  rcases hc with z | z
  ·rw[z];exact nit b u e
  ·exact nit c _ z
theorem Inv.tok(I:Inv X pins σ H s)(t:Nat):Inv X pins σ H { s with toks:=t }:=I.un (h':=s.heap) (t':=t) Un.refl I.hok
theorem Inv.kept{t':Nat}(I:Inv X pins σ H s)(k:∀b u,s.heap.get? b=some u->h'.get? b=some u):Inv X pins σ H { s with heap:=h',toks:=t' }:=I.un (Un.kept k) (I.hok.kept k)
theorem Inv.laid{a:Addr}{o:HO}{t':Nat}(I:Inv X pins σ H s)(k:∀b u,s.heap.get? b=some u->h'.get? b=some u)(hp:s.heap.objs.size<=a)(new:ObjOk X.prog X.w (upd H a o) h' a o) :
  Inv X pins σ (upd H a o) { s with heap:=h',toks:=t' }:=I.un (Un.laid k hp (I.hok.fresh hp)) (I.hok.laid k hp new)
theorem Inv.write{x e:Addr}{o:HO}{t':Nat}(I:Inv X pins σ H s)(mu:Mut (H x))(he:e=x∨H e=some (.own x))(k:∀b u,b≠e->s.heap.get? b=some u->h'.get? b=some u)(heo:∃u,h'.get? e=some u)
  (new:ObjOk X.prog X.w (upd H x o) h' x o):Inv X pins σ (upd H x o) { s with heap:=h',toks:=t' }:=I.un (Un.write mu he k heo) (I.hok.write mu he k heo new)
theorem Inv.weak{σ':List (Option V)}(I:Inv X pins σ H s)(hl:σ'.length=σ.length)(w:∀(i:Nat) v,σ'[i]? = some (some v)->σ[i]? = some (some v)):Inv X pins σ' H s:=
 ⟨I.ok,I.os,I.bare,I.base,let ⟨m,hn,hl'⟩:=I.loc;⟨m,hn,λi x v e1 e2 e3=>hl' i x v e1 (w i v e2) e3⟩,I.cell,I.free,I.freeC,I.pin,I.hok,hl.trans I.len⟩
theorem Inv.pins_of{pins':List (Addr×Obj)}(I:Inv X pins σ H s)(h:∀p∈pins',s.heap.get? p.1=some p.2/\H p.1=none/\p.1≠X.env.locals/\p.1∉X.fs/\∀v,p.2.data≠.cell v):Inv X pins' σ H s:=
 ⟨I.ok,I.os,I.bare,I.base,I.loc,I.cell,I.free,I.freeC,λp hp=>(QX.mp hp).elim (λz=>I.pin p (J5 _ z)) (h p),I.hok,I.len⟩
theorem QiQ{N:List Str}(hN:N.Nodup){i j:Nat}{x:Str}(a:N[i]? = some x)(b:N[j]? = some x):i=j:=by
 obtain⟨h1,e1⟩:=QQ.mp a;obtain⟨h2,e2⟩:=QQ.mp b;exact(List.getElem_inj hN).mp (e1.trans e2.symm)
theorem Qgm{M:QwW}{A:Q3}{E:Value->Shared->Prop}{i:Nat}{x:Str}{v:V}{u:Value}{Q:Unit->Shared->Prop}(I:Inv X pins σ H s)(hN:X.N.Nodup)(hi:X.N[i]? = some x)(hx:Loc X.env.scope x)(r:RelV v u)
  (h:∀s',Inv X pins (σ.set i (some v)) H s'->(∃a,Qa5 a s.heap s'.heap/\(a=X.env.locals∨X.env.cells.lookup x=some a))->Q () s')(hf:X.fn x=true∨X.env.scope.names.lookup x=some .local:=by first | exact .inl rfl | exact .inr rfl | assumption):wpAny M A (storeName X.env x u) Q E s:=by
 obtain⟨m,hn,hl⟩:=id I.loc;have hcls:(X.env.scope.kind == .class||(X.env.scope.kind == .module&&X.env.locals != X.env.globals))=false:=by rw[I.ok.kind];rfl
 have hiσ:i < σ.length:=by rw[I.len];exact(QQ.mp hi).1
 have cne:=I.cne;have tracked:∀{a:Addr}{h':Heap},(∃o,s.heap.get? a=some o/\H a=none)->Qa5 a s.heap h'->HOk X.prog X.w H h':=λ{a h'} ha hs b ob e=>by
  obtain⟨_,_,hfree⟩:=ha;refine(I.hok b ob e).stay (λc w' hc q=>(hs.2 c ?_).trans q) (λ_ q=>q) λ_ _ q=>q
  rintro rfl;rcases hc with rfl | hc
  ·rw[hfree] at e;cases e
  ·rw[hfree] at hc;cases hc
 rcases hx with hk | hk
 ·refine wpAny_storeName_local hk hn (λh' hn' hs=>?_) hcls;obtain⟨oL,_,_,hoL,_⟩:=id hn;refine h _ ⟨I.ok,I.os,I.bare,⟨λb o e n hb hx=>?_,λb o e n hb hx=>?_,I.base.free,λb o e hx=>?_,I.base.tups,I.base.frzs,I.base.tbls⟩,⟨_,hn',λj y v' e1 e2 e3=>?_⟩,λy c e=>?_,I.free,I.freeC,λp hp=>?_,tracked ⟨oL,hoL,I.free⟩ hs,by simpa using I.len⟩ ⟨_,hs,.inl rfl⟩
  ·exact(hs.2 b (QV (Q0 (Qw e) I.ok.above))).trans (I.base.keep b o e n hb hx)
  ·obtain⟨sl,e1⟩:=I.base.slot b o e n hb hx;exact⟨sl,(hs.2 b (QV (Q0 (Qw e) I.ok.above))).trans e1⟩
  ·obtain⟨o',e1⟩:=I.base.there b o e hx;exact⟨o',(hs.2 b (QV (Q0 (Qw e) I.ok.above))).trans e1⟩
  ·by_cases hj:j=i
   ·subst hj;rw[hi] at e1;cases e1;rw[QbU hiσ] at e2;cases e2;exact⟨u,r,.inl ⟨hk,by simp⟩⟩
   ·rw[QcI (QaZ hj)] at e2;obtain⟨u',r',q⟩:=hl j y v' e1 e2 e3;refine⟨u',r',?_⟩;rcases q with⟨k,e⟩ | ⟨k,c,e,z⟩
    ·refine .inl ⟨k,?_⟩;have:y≠x:=λe=>hj (QiQ hN e1 (e ▸ hi))
     simp[this,e]
    ·exact .inr ⟨k,c,e,z.sameBut hs (cne y c e)⟩
  ·obtain⟨w',z⟩:=I.cell y c e;exact⟨w',z.sameBut hs (cne y c e)⟩
  ·obtain⟨e,n,ne,nf,d⟩:=I.pin p hp;exact⟨(hs.2 p.1 ne).trans e,n,ne,nf,d⟩
 ·have hfn:X.fn x=true:=by
   rcases hf with z | z
   ·exact z
   ·rw[z] at hk;cases hk
  obtain⟨c,hc⟩:=I.ok.has x (.inl hk);obtain⟨w',z⟩:=I.cell x c hc;refine wpAny_storeName_cell I.ok.kind hk hc z (λh' hc' hs=>?_);obtain⟨oc,hoc,hocd⟩:=id z;refine h { s with heap:=h' } ⟨I.ok,I.os,I.bare,⟨λb o e n hb hx=>?_,λb o e n hb hx=>?_,I.base.free,λb o e hx=>?_,I.base.tups,I.base.frzs,I.base.tbls⟩,⟨m,hn.sameBut hs (QaZ (cne x c hc)),λj y v' e1 e2 e3=>?_⟩,λy c' e=>?_,I.free,I.freeC,λp hp=>?_,tracked ⟨oc,hoc,I.freeC x c hc⟩ hs,by simpa using I.len⟩ ⟨c,hs,.inr hc⟩
  ·exact(hs.2 b (QV (Q0 (Qw e) (I.ok.cab x c hfn hc)))).trans (I.base.keep b o e n hb hx)
  ·obtain⟨sl,e1⟩:=I.base.slot b o e n hb hx;exact⟨sl,(hs.2 b (QV (Q0 (Qw e) (I.ok.cab x c hfn hc)))).trans e1⟩
  ·obtain⟨o',e1⟩:=I.base.there b o e hx;exact⟨o',(hs.2 b (QV (Q0 (Qw e) (I.ok.cab x c hfn hc)))).trans e1⟩
  ·by_cases hj:j=i
   ·subst hj;rw[hi] at e1;cases e1;rw[QbU hiσ] at e2;cases e2;exact⟨u,r,.inr ⟨.inl hk,c,hc,hc'⟩⟩
   ·rw[QcI (QaZ hj)] at e2;obtain⟨u',r',q⟩:=hl j y v' e1 e2 e3;refine⟨u',r',?_⟩;rcases q with q | ⟨k,c',e,z'⟩
    ·exact .inl q
    ·refine .inr ⟨k,c',e,z'.sameBut hs ?_⟩;rintro rfl;exact hj (QiQ hN e1 (I.ok.inj _ _ _ e hc ▸ hi))
  ·by_cases hcc:c'=c
   ·subst hcc;exact⟨_,hc'⟩
   ·obtain⟨w2,z2⟩:=I.cell y c' e;exact⟨w2,z2.sameBut hs hcc⟩
  ·obtain⟨e,n,ne,nf,d⟩:=I.pin p hp;refine⟨(hs.2 p.1 ?_).trans e,n,ne,nf,d⟩;intro q;rw[q,hoc] at e;have q':oc=p.2:=Qs e;exact d w' (by rw[<- q'];exact hocd)
theorem Qfn{M:QwW}{A:Q3}{E:Value->Shared->Prop}{i:Nat}{x:Str}{v:V}{u:Value}{Q:Unit->Shared->Prop}(I:Inv X pins σ H s)(hN:X.N.Nodup)(hi:X.N[i]? = some x)(hx:Loc X.env.scope x)(r:RelV v u)
  (h:∀s',Inv X pins (σ.set i (some v)) H s'->Q () s')(hf:X.fn x=true∨X.env.scope.names.lookup x=some .local:=by first | exact .inl rfl | exact .inr rfl | assumption):wpAny M A (storeName X.env x u) Q E s:=
 Qgm I hN hi hx r (λs' I' _=>h s' I') hf
theorem Inv.call'{s':Shared}{ch:List Addr}(I:Inv X pins σ H s)(ho:s'.os=s.os)(u:Un (frs X.stack) ch H H' s.heap s'.heap)(hok:HOk X.prog X.w H' s'.heap)(hg:Qew s'.gens)
  (hch:∀b∈ch,(b∈X.ex∨X.s₀.heap.objs.size<=b)/\b≠X.env.locals/\(∀x c,X.env.cells.lookup x=some c->c≠b)/\∀p∈X.pn++pins,p.1≠b):Inv X pins σ H' s':=by
 obtain⟨h',g',d',t',o'⟩:=s';have e:o'=s.os:=ho;subst e;exact I.call (g':=g') (t':=t') (d':=d') u hok hg hch
end
abbrev XK:=Value->Option Addr->Hp->Prop
abbrev St:=List (Option V)
abbrev VK:=V->Hp->Prop
abbrev TE:=St->Hp->VK->Prop
abbrev TT:=St->Hp->(Bool->Hp->Prop)->Prop
abbrev TA:=St->Hp->(List V->Hp->Prop)->Prop
structure Ends where
 nx:St->Hp->Prop
 rt:VK
 bk:St->Hp->Prop:=λ_ _=>False
 ct:St->Hp->Prop:=λ_ _=>False
abbrev TS:=Ends->St->Hp->Prop
def EP(X:Cx)(pins:List (Addr×Obj))(σ:St)(Q:VK)(u:Value)(s':Shared):Prop:=∃v H',Inv X pins σ H' s'/\RelV v u/\Q v H'
def TP(X:Cx)(pins:List (Addr×Obj))(σ:St)(Q:Bool->Hp->Prop)(b:Bool)(s':Shared):Prop:=∃H',Inv X pins σ H' s'/\Q b H'
def AP(X:Cx)(pins:List (Addr×Obj))(σ:St)(Q:List V->Hp->Prop)(us:List Value)(s':Shared):Prop:=∃vs H',Inv X pins σ H' s'/\Vals vs us/\Q vs H'
def SP(X:Cx)(pins:List (Addr×Obj))(D:Ends)(f:Flow)(s':Shared):Prop:=
 match f with
 |.next=>∃σ' H',Inv X pins σ' H' s'/\D.nx σ' H'
 |.brk=>∃σ' H',Inv X pins σ' H' s'/\D.bk σ' H'
 |.cont=>∃σ' H',Inv X pins σ' H' s'/\D.ct σ' H'
 |.ret u=>∃v σ' H',Inv X pins σ' H' s'/\RelV v u/\D.rt v H'
def PE(X:Cx)(e:Q5)(t:TE):Prop:=
 ∀(pins:List (Addr×Obj))(s:Shared)(σ:St)(H:Hp)(Q:VK),Inv X pins σ H s->t σ H Q->wpAny (model X.prog X.w) X.A (eval e X.env) (EP X pins σ Q) X.xe s
def PT(X:Cx)(e:Q5)(t:TT):Prop:=
 ∀(pins:List (Addr×Obj))(s:Shared)(σ:St)(H:Hp)(Q:Bool->Hp->Prop),Inv X pins σ H s->t σ H Q->wpAny (model X.prog X.w) X.A (isTrue e X.env (eval e X.env)) (TP X pins σ Q) X.xe s
def PW(X:Cx)(e:Q5)(t:TT):Prop:=
 ∀(whole:Sem Value)(pins:List (Addr×Obj))(s:Shared)(σ:St)(H:Hp)(Q:Bool->Hp->Prop),Inv X pins σ H s->t σ H Q->wpAny (model X.prog X.w) X.A (isTrue e X.env whole) (TP X pins σ Q) X.xe s
theorem PW.pt{X:Cx}{e:Q5}{t:TT}(h:PW X e t):PT X e t:=h _
def PA(X:Cx)(es:List Q5)(t:TA):Prop:=
 ∀(pos:Pos)(pins:List (Addr×Obj))(s:Shared)(σ:St)(H:Hp)(Q:List V->Hp->Prop),Inv X pins σ H s->t σ H Q->wpAny (model X.prog X.w) X.A (spliced (backTo pos (starEach es X.env))) (AP X pins σ Q) X.xe s
def PS(X:Cx)(st:Yn)(t:TS):Prop:=
 ∀(pins:List (Addr×Obj))(s:Shared)(σ:St)(H:Hp)(D:Ends),Inv X pins σ H s->t D σ H->wpAny (model X.prog X.w) X.A (exec st X.env) (SP X pins D) X.xe s
def PSs(X:Cx)(st:List Yn)(t:TS):Prop:=
 ∀(pins:List (Addr×Obj))(s:Shared)(σ:St)(H:Hp)(D:Ends),Inv X pins σ H s->t D σ H->wpAny (model X.prog X.w) X.A (execs st X.env) (SP X pins D) X.xe s
theorem thn{α:Type}{t:Sem α}{Q Q':α->Shared->Prop}{M:QwW}{A:Q3}{E:Value->Shared->Prop}{s:Shared}(h:wpAny M A t Q E s)(hQ:∀a s,Q a s->Q' a s):wpAny M A t Q' E s:=JI h hQ λ_ _ x=>x
section
variable{X:Cx}
def Qix(i:Nat):TE:=λσ H Q=>∃v,σ[i]? = some (some v)/\Q v H
def tC(v:V):TE:=λ_ H Q=>Q v H
theorem QuN{i:Nat}{x:Str}{pos:Pos}(hN:X.N[i]? = some x)(hv:Vis X.env.scope x)(hd:(x == ("__debug__" : Str))=false:=by decide)(hcd:(x == ("__classdict__" : Str))=false:=by decide):PE X (.Name x pos) (Qix i):=by
 intro pins s σ H Q I h;obtain⟨v,e,h⟩:=h;obtain⟨m,hn,hl⟩:=I.loc;obtain⟨u,r,l⟩:=hl i x v hN e hv;have fin:EP X pins σ Q u s:=⟨v,H,I,r,h⟩;rcases l with⟨hk,hm⟩ | ⟨hk,c,hc,hcell⟩
 ·exact QwH (QtB I.ok.kind hk hn hm fin) hd
 ·rcases hk with hk | hk
  ·exact QwH (QtK I.ok.kind hk hc hcell fin) hd
  ·exact QwH (wpAny_loadName_free I.ok.kind hk hc hcell fin hcd) hd
theorem Yv{i j pos}:PE X (.Constant (.int i) j pos) (tC (.int i)):=λ_ _ _ H _ I h=>wpAny_Constant_int ⟨.int i,H,I.tok _,⟨_,rfl⟩,h⟩
theorem QxB{b j pos}:PE X (.Constant (.bool b) j pos) (tC (.bl b)):=λ_ _ _ H _ I h=>Constant_bool ⟨.bl b,H,I,rfl,h⟩
def Gl(X:Cx)(x:Str):Prop:=X.env.kindOf x=some .globalImplicit
theorem QlZ{E:Value->Shared->Prop}{pins:List (Addr×Obj)}{s:Shared}{σ:St}{H:Hp}{x:Str}{u:Value}{pos:Pos}{Q:Value->Shared->Prop}(I:Inv X pins σ H s)(hg:Gl X x)(hm:X.mg x=some u)(h:Q u s)
  (hd:(x == ("__debug__" : Str))=false:=by decide):wpAny (model X.prog X.w) X.A (eval (.Name x pos) X.env) Q E s:=
 Qf4 I.ok.kind hg (Calls.loadGlobal_global (by rw[I.ok.glob];exact I.mod.glob.keeps I.bk) hm h) hd
theorem Qdj{E:Value->Shared->Prop}{pins:List (Addr×Obj)}{s:Shared}{σ:St}{H:Hp}{x:Str}{u:Value}{pos:Pos}{Q:Value->Shared->Prop}(I:Inv X pins σ H s)(hg:Gl X x)(hm:X.mg x=none)(hv:bootBuiltins x=some u)(h:Q u s)
  (hn:x ≠ "__name__" := by decide)(hd:(x == ("__debug__" : Str))=false:=by decide):wpAny (model X.prog X.w) X.A (eval (.Name x pos) X.env) Q E s:=by
 obtain⟨mb,h1,h2⟩:=I.mod.blt;exact Qf4 I.ok.kind hg (Calls.loadGlobal_builtin (by rw[I.ok.glob];exact I.mod.glob.keeps I.bk) hm (by rw[I.ok.blt];exact h1.keeps I.bk) ((h2 x hn).trans hv) h) hd
theorem Qr1{x:Str}{v:V}{u:Value}{pos:Pos}(hg:Gl X x)(hm:X.mg x=none)(hv:bootBuiltins x=some u)(r:RelV v u)(hn:x ≠ "__name__" := by decide)(hd:(x == ("__debug__" : Str))=false:=by decide):PE X (.Name x pos) (tC v):=
 λ_ _ _ H _ I h=>Qdj I hg hm hv ⟨v,H,I,r,h⟩ hn hd
variable{a b:Q5}{ta tb:TE}{pos:Pos}
def tB(t:TE):TT:=λσ H Q=>t σ H λx H1=>∃c,x=.bl c/\Q c H1
theorem QuI{e:Q5}{t:TE}(h:PE X e t)(he:∀whole,isTrue e X.env whole=(do let v <- whole;standAt e.pos;holding [v] (truthy v)):=by intro _;rfl):PT X e (tB t):=by
 intro pins s σ H Q I hw;refine isTrue_plain (thn (h pins s σ H _ I hw) λv s1 ⟨x,H1,I1,r1,q1⟩=>?_) (he _);obtain⟨d,rfl,q⟩:=q1;cases r1;exact J3 ⟨H1,I1,q⟩
variable{tA tB':TT}{rest:List Q5}
def Qzh(t u:TT):TT:=λσ H Q=>t σ H λc H1=>if c=true then u σ H1 Q else Q false H1
def tOr(t u:TT):TT:=λσ H Q=>t σ H λc H1=>if c=true then Q true H1 else u σ H1 Q
def Qze(t:TT):TT:=λσ H Q=>t σ H λc H1=>Q (!c) H1
theorem QrO(ha:PT X a tA):PW X (.BoolOp .And [a] pos) tA:=by
 intro wh pins s σ H Q I h;refine isTrue_and (thn (ha pins s σ H Q I h) λc s1 e=>?_);cases c with
 |true=>exact isTrue_and_nil e
 |false=>exact e
theorem QuG(ha:PT X a tA):PW X (.BoolOp .Or [a] pos) tA:=by
 intro wh pins s σ H Q I h;refine isTrue_or (thn (ha pins s σ H Q I h) λc s1 e=>?_);cases c with
 |false=>exact isTrue_or_nil e
 |true=>exact e
theorem QuH(ha:PT X a tA)(hb:PW X (.BoolOp .And (b::rest) pos) tB'):PW X (.BoolOp .And (a::b::rest) pos) (Qzh tA tB'):=by
 intro wh pins s σ H Q I h;refine isTrue_and (thn (ha pins s σ H _ I h) λc s1 ⟨H1,I1,q1⟩=>?_);cases c with
 |true=>exact hb wh pins s1 σ H1 Q I1 q1
 |false=>exact⟨H1,I1,q1⟩
theorem Qxw(ha:PT X a tA)(hb:PW X (.BoolOp .Or (b::rest) pos) tB'):PW X (.BoolOp .Or (a::b::rest) pos) (tOr tA tB'):=by
 intro wh pins s σ H Q I h;refine isTrue_or (thn (ha pins s σ H _ I h) λc s1 ⟨H1,I1,q1⟩=>?_);cases c with
 |true=>exact⟨H1,I1,q1⟩
 |false=>exact hb wh pins s1 σ H1 Q I1 q1
theorem QuJ(ha:PT X a tA):PT X (.UnaryOp .Not a pos) (Qze tA):=by
 intro pins s σ H Q I h;exact isTrue_not (ha pins s σ H (λc H1=>Q (!c) H1) I h)
def Qxm(ta tb:TE):TE:=λσ H Q=>ta σ H λx H1=>∃c,x=.bl c/\if c=true then tb σ H1 Q else Q (.bl false) H1
def Qzd(ta tb:TE):TE:=λσ H Q=>ta σ H λx H1=>∃c,x=.bl c/\if c=true then Q (.bl true) H1 else tb σ H1 Q
def Qxi(ta:TE):TE:=λσ H Q=>ta σ H λx H1=>∃c,x=.bl c/\Q (.bl (!c)) H1
theorem QuO{op}{t:TE}(h:PE X a t):PE X (.BoolOp op [a] pos) t:=λpins s σ H Q I hw=>BoolOp_one (h pins s σ H Q I hw)
theorem QuR(ha:PE X a ta)(hb:PE X (.BoolOp .And (b::rest) pos) tb):PE X (.BoolOp .And (a::b::rest) pos) (Qxm ta tb):=by
 intro pins s σ H Q I h;refine BoolOp_and (thn (ha pins s σ H _ I h) λv s1 ⟨x,H1,I1,r1,q1⟩=>?_);obtain⟨c,rfl,q1⟩:=q1;cases r1;refine J3 ?_
 cases c with
 |true=>exact hb pins s1 σ H1 Q I1 q1
 |false=>exact⟨.bl false,H1,I1,rfl,q1⟩
theorem QxA(ha:PE X a ta)(hb:PE X (.BoolOp .Or (b::rest) pos) tb):PE X (.BoolOp .Or (a::b::rest) pos) (Qzd ta tb):=by
 intro pins s σ H Q I h;refine BoolOp_or (thn (ha pins s σ H _ I h) λv s1 ⟨x,H1,I1,r1,q1⟩=>?_);obtain⟨c,rfl,q1⟩:=q1;cases r1;refine J3 ?_
 cases c with
 |false=>exact hb pins s1 σ H1 Q I1 q1
 |true=>exact⟨.bl true,H1,I1,rfl,q1⟩
theorem QuP(ha:PE X a ta):PE X (.UnaryOp .Not a pos) (Qxi ta):=by
 intro pins s σ H Q I h;refine UnaryOp_ (thn (ha pins s σ H _ I h) λv s1 ⟨x,H1,I1,r1,q1⟩=>?_);obtain⟨c,rfl,q1⟩:=q1;cases r1;exact not_of (J3 ⟨.bl (!c),H1,I1,rfl,q1⟩)
def tIf(t:TT)(ta tb:TE):TE:=λσ H Q=>t σ H λc H1=>if c=true then ta σ H1 Q else tb σ H1 Q
theorem QnQ{c:Q5}(hc:PT X c tA)(ha:PE X a ta)(hb:PE X b tb):PE X (.IfExp c a b pos) (tIf tA ta tb):=by
 intro pins s σ H Q I h;refine wpAny_IfExp (thn (hc pins s σ H _ I h) λd s1 ⟨H1,I1,q1⟩=>?_);cases d with
 |true=>exact ha pins s1 σ H1 Q I1 q1
 |false=>exact hb pins s1 σ H1 Q I1 q1
end
def SqL(K:PySem.W.Frag)(H:Hp)(a:Addr)(xs:List V):Prop:=
 Rd H a (.lst xs) ∨
  ∃(o:Obj)(its:Array Value)(n:Nat),K.lookup a=some o/\o.cls=.type "list" /\ o.dict=none/\o.data=.seq its n/\its.size<=sizeLine/\Vals xs its.toList
def SqT(K:PySem.W.Frag)(H:Hp)(a:Addr)(xs:List V):Prop:=
 Rd H a (.tup xs) ∨
  ∃(o:Obj)(its:Array Value)(n:Nat),K.lookup a=some o/\o.cls=.type "tuple" /\ o.data=.seq its n/\its.size<=sizeLine/\Vals xs its.toList
def Qzy:Value->Option V
 |.none=>some .non
 |.bool b=>some (.bl b)
 |.int i _=>some (.int i)
 |.str x _=>some (.str x)
 |.bytes b _=>some (.byt b)
 |.float b _=>some (.flt b)
 |.ref a=>some (.ref a)
 |.type n=>some (.ty n)
 |_=>none
theorem RelV.abs{x:V}{u:Value}(r:RelV x u):Qzy u=some x:=by
 cases x with
 |non=>cases r;rfl
 |bl _=>cases r;rfl
 |int _=>obtain⟨t,rfl⟩:=r;rfl
 |str _=>obtain⟨t,rfl⟩:=r;rfl
 |byt _=>obtain⟨t,rfl⟩:=r;rfl
 |flt _=>obtain⟨t,rfl⟩:=r;rfl
 |ref _=>cases r;rfl
 |ty _=>cases r;rfl
theorem RelV.inj{x y:V}{u:Value}(r:RelV x u)(q:RelV y u):x=y:=Qs (r.abs.symm.trans q.abs)
theorem Vals.inj:∀{xs ys:List V}{us:List Value},Vals xs us->Vals ys us->xs=ys
 |_,_,_,.nil,.nil=>rfl
 |_,_,_,.cons r t,.cons r' t'=>by rw[r.inj r',Vals.inj t t']
section
variable{X:Cx}{pins:List (Addr×Obj)}{σ:St}{H:Hp}{s:Shared}{a:Addr}{xs ys:List V}
theorem SqL.of{K:PySem.W.Frag}(h:H a=some (.lst xs)):SqL K H a xs:=.inl (.inl h)
theorem SqT.of{K:PySem.W.Frag}(h:H a=some (.tup xs)):SqT K H a xs:=.inl (.inl h)
theorem Inv.list(I:Inv X pins σ H s)(h:SqL X.K H a xs):∃its:List Value,Vals xs its/\PlainL s.heap a its.toArray/\xs.length<=sizeLine:=by
 rcases h with h | ⟨o,its,n,hk,hc,hd,hs,hz,r⟩
 ·obtain⟨z,its,n,r,e⟩:=h.ok I.hok;exact⟨its,r,⟨_,n,e,rfl,rfl,rfl⟩,z⟩
 ·refine⟨its.toList,r,⟨o,n,I.kIn a o hk,hc,hd,by simpa using hs⟩,?_⟩;have e:=r.length;simp only[Qg] at e;omega
theorem Inv.tuple(I:Inv X pins σ H s)(h:SqT X.K H a xs):∃its:List Value,Vals xs its/\IsTup s.heap a its.toArray/\xs.length<=sizeLine:=by
 rcases h with h | ⟨o,its,n,hk,hc,hs,hz,r⟩
 ·obtain⟨z,its,r,p⟩:=h.ok I.hok;exact⟨its,r,p.tup,z⟩
 ·refine⟨its.toList,r,⟨o,I.kIn a o hk,hc,n,by simpa using hs⟩,?_⟩;have e:=r.length;simp only[Qg] at e;omega
theorem Inv.list_inj(I:Inv X pins σ H s)(h:SqL X.K H a xs)(h':SqL X.K H a ys):xs=ys:=by
 obtain⟨its,r,⟨o,n,e,_,_,d⟩,_⟩:=I.list h;obtain⟨its',r',⟨o',n',e',_,_,d'⟩,_⟩:=I.list h';rw[e] at e';cases e';rw[d] at d';injection d' with d1 _
 have:its=its':=by simpa using congrArg Qjy d1
 subst this;exact r.inj r'
theorem Inv.tuple_inj(I:Inv X pins σ H s)(h:SqT X.K H a xs)(h':SqT X.K H a ys):xs=ys:=by
 obtain⟨its,r,⟨o,e,_,n,d⟩,_⟩:=I.tuple h;obtain⟨its',r',⟨o',e',_,n',d'⟩,_⟩:=I.tuple h';rw[e] at e';cases e';rw[d] at d';injection d' with d1 _
 have:its=its':=by simpa using congrArg Qjy d1
 subst this;exact r.inj r'
end
abbrev Cx.wish (X:Cx) (E:Value->Shared->Prop):Cx:={ X with xe:=E }
abbrev Cx.nox (X:Cx):Cx:=X.wish λ_ _=>False
theorem Cx.Ok.wish{X:Cx}(ok:X.Ok)(E:Value->Shared->Prop):(X.wish E).Ok:=
 ⟨ok.mod,ok.kind,ok.glob,ok.blt,ok.above,ok.inj,ok.has,ok.cab,ok.hd,ok.frames,ok.stk,ok.exf,ok.bs,ok.bsz,ok.noex,ok.exfs,ok.funs,ok.frf⟩
theorem Cx.Ok.unwish{X:Cx}{E:Value->Shared->Prop}(ok:(X.wish E).Ok):X.Ok:=
 ⟨ok.mod,ok.kind,ok.glob,ok.blt,ok.above,ok.inj,ok.has,ok.cab,ok.hd,ok.frames,ok.stk,ok.exf,ok.bs,ok.bsz,ok.noex,ok.exfs,ok.funs,ok.frf⟩
section
variable{X:Cx}{pins:List (Addr×Obj)}{σ:St}{H:Hp}{s:Shared}{E:Value->Shared->Prop}
theorem Inv.wish(I:Inv X pins σ H s)(E:Value->Shared->Prop):Inv (X.wish E) pins σ H s:=⟨I.ok.wish E,I.os,I.bare,I.base,I.loc,I.cell,I.free,I.freeC,I.pin,I.hok,I.len⟩
theorem Inv.unwish(I:Inv (X.wish E) pins σ H s):Inv X pins σ H s:=⟨I.ok.unwish,I.os,I.bare,I.base,I.loc,I.cell,I.free,I.freeC,I.pin,I.hok,I.len⟩
theorem SP.unwish{D:Ends}{f:Flow}{s':Shared}(h:SP (X.wish E) pins D f s'):SP X pins D f s':=by
 cases f with
 |next=>obtain⟨σ',H',I,q⟩:=h;exact⟨σ',H',I.unwish,q⟩
 |brk=>obtain⟨σ',H',I,q⟩:=h;exact⟨σ',H',I.unwish,q⟩
 |cont=>obtain⟨σ',H',I,q⟩:=h;exact⟨σ',H',I.unwish,q⟩
 |ret u=>obtain⟨v,σ',H',I,r,q⟩:=h;exact⟨v,σ',H',I.unwish,r,q⟩
theorem PE.nox{e:Q5}{t:TE}(h:PE X.nox e t):PE X e t:=λpins s σ H Q I hw=>
 JI (h pins s σ H Q (I.wish _) hw) (λ_ _ ⟨v,H',I',r,q⟩=>⟨v,H',I'.unwish,r,q⟩) λ_ _ z=>Zp z
theorem PT.nox{e:Q5}{t:TT}(h:PT X.nox e t):PT X e t:=λpins s σ H Q I hw=>
 JI (h pins s σ H Q (I.wish _) hw) (λ_ _ ⟨H',I',q⟩=>⟨H',I'.unwish,q⟩) λ_ _ z=>Zp z
theorem PSs.nox{st:List Yn}{t:TS}(h:PSs X.nox st t):PSs X st t:=λpins s σ H D I hw=>
 JI (h pins s σ H D (I.wish _) hw) (λ_ _ q=>q.unwish) λ_ _ z=>Zp z
end
section
variable{X:Cx}{st:Yn}{rest:List Yn}{t u:TS}{e:Q5}{te:TE}{pos:Pos}
def Qxj:TS:=λD σ H=>D.nx σ H
def Qzb(t u:TS):TS:=λD σ H=>t { D with nx:=u D } σ H
theorem QhH:PSs X [] Qxj:=λ_ _ σ H _ I h=>Qdn ⟨σ,H,I,h⟩
theorem Y5(h1:PS X st t)(h2:PSs X rest u):PSs X (st::rest) (Qzb t u):=by
 intro pins s σ H D I h;refine wpAny_execs_cons (thn (h1 pins s σ H { D with nx:=u D } I h) λf s1 q=>?_);cases f with
 |next=>
  obtain⟨σ',H',I',q⟩:=q;exact h2 pins s1 σ' H' D I' q
 |ret v=>exact q
 |brk=>exact q
 |cont=>exact q
theorem Qby(h1:PS X st t):PSs X [st] t:=by
 intro pins s σ H D I h;refine wpAny_execs_cons (thn (h1 pins s σ H D I h) λf s1 q=>?_);cases f with
 |next=>exact Qdn q
 |ret v=>exact q
 |brk=>exact q
 |cont=>exact q
theorem Inv.quiet{pins:List (Addr×Obj)}{σ:St}{H:Hp}{s:Shared}(I:Inv X pins σ H s):interactive X.env=false:=by simp[interactive,I.ok.kind]
def Qnr(te:TE):TS:=λD σ H=>te σ H λ_ H1=>D.nx σ H1
theorem QhI(he:PE X e te)(hs:swapsWith e none pos.line X.env=pure false:=by rfl):PS X (.Expr e pos) (Qnr te):=by
 intro pins s σ H D I h;exact wpAny_Expr_any (thn (he pins s σ H _ I h) λv s1 ⟨x,H1,I1,r1,q1⟩=>⟨σ,H1,I1,q1⟩) I.quiet hs
def Qzc(te:TE):TS:=λD σ H=>te σ H D.rt
theorem Qcx(he:PE X e te):PS X (.Return (some e) pos) (Qzc te):=by
 intro pins s σ H D I h;exact wpAny_Return_some (thn (he pins s σ H _ I h) λv s1 ⟨x,H1,I1,r1,q1⟩=>⟨x,σ,H1,I1,r1,q1⟩)
def Qzg(c:TT)(t u:TS):TS:=λD σ H=>c σ H λb H1=>if b=true then t D σ H1 else u D σ H1
theorem QrQ{c:Q5}{a b:List Yn}{tc:TT}(hc:PT X c tc)(ha:PSs X a t)(hb:PSs X b u):PS X (.If c a b pos) (Qzg tc t u):=by
 intro pins s σ H D I h;refine wpAny_If (thn (hc pins s σ H _ I h) λd s1 ⟨H1,I1,q1⟩=>?_);cases d with
 |true=>exact ha pins s1 σ H1 D I1 q1
 |false=>exact hb pins s1 σ H1 D I1 q1
end
abbrev TG:=V->St->Hp->(St->Hp->Prop)->Prop
abbrev TGs:=List V->St->Hp->(St->Hp->Prop)->Prop
def PG(X:Cx)(target:Q5)(t:TG):Prop:=
 ∀(pins:List (Addr×Obj))(s:Shared)(σ:St)(H:Hp)(v:V)(u:Value)(Q:St->Hp->Prop),Inv X pins σ H s->RelV v u->t v σ H Q ->
  wpAny (model X.prog X.w) X.A (assign target X.env u) (λ_ s'=>∃σ' H',Inv X pins σ' H' s'/\Q σ' H') X.xe s
def PGs(X:Cx)(ts:List Q5)(t:TGs):Prop:=
 ∀(pins:List (Addr×Obj))(s:Shared)(σ:St)(H:Hp)(vs:List V)(us:List Value)(Q:St->Hp->Prop),Inv X pins σ H s->Vals vs us->t vs σ H Q ->
  wpAny (model X.prog X.w) X.A (assignInOrder ((assignEach ts X.env).map (·.2)) us) (λ_ s'=>∃σ' H',Inv X pins σ' H' s'/\Q σ' H') X.xe s
abbrev TSet:=V->V->V->Hp->(Hp->Prop)->Prop
def Qyo(X:Cx)(t:TSet):Prop:=
 ∀(pins:List (Addr×Obj))(s:Shared)(σ:St)(H:Hp)(o i v:V)(ov iv u:Value)(Q:Hp->Prop),Inv X pins σ H s->RelV o ov->RelV i iv->RelV v u->t o i v H Q ->
  wpAny (model X.prog X.w) X.A (setItem ov iv u) (λ_ s'=>∃H',Inv X pins σ H' s'/\Q H') X.xe s
abbrev TIp:=V->V->Hp->VK->Prop
def PIp(X:Cx)(op:Qcn)(t:TIp):Prop:=
 ∀(pins:List (Addr×Obj))(s:Shared)(σ:St)(H:Hp)(x y:V)(v u:Value)(Q:VK),Inv X pins σ H s->RelV x v->RelV y u->t x y H Q ->
  wpAny (model X.prog X.w) X.A (inplaceOp op v u) (EP X pins σ Q) X.xe s
section
variable{X:Cx}{pos:Pos}
def Qey(i:Nat):TG:=λv σ H Q=>Q (σ.set i (some v)) H
theorem Qd2{i:Nat}{x:Str}(hN:X.N.Nodup)(hi:X.N[i]? = some x)(hx:Loc X.env.scope x)(hf:X.fn x=true∨X.env.scope.names.lookup x=some .local:=by first | exact .inl rfl | exact .inr rfl | assumption):PG X (.Name x pos) (Qey i):=by
 intro pins s σ H v u Q I r h;exact QwG (Qfn I hN hi hx r (λs' I'=>⟨_,H,I',h⟩) hf)
def Qx5:TGs:=λvs σ H Q=>vs=[]/\Q σ H
def QoA(t:TG)(u:TGs):TGs:=λvs σ H Q=>∃v r,vs=v::r/\t v σ H λσ' H'=>u r σ' H' Q
theorem Qlp:PGs X [] Qx5:=by
 intro pins s σ H vs us Q I r h;obtain⟨e,h⟩:=h;subst e;cases r;exact assignInOrder_nil ⟨σ,H,I,h⟩
theorem QfB{e:Q5}{es:List Q5}{t:TG}{u:TGs}(h1:PG X e t)(h2:PGs X es u)
  (hs:(assignEach (e::es) X.env).map (·.2)=assign e X.env::(assignEach es X.env).map (·.2):=by rfl):PGs X (e::es) (QoA t u):=by
 intro pins s σ H vs us Q I r h;obtain⟨v,vr,e1,h⟩:=h;subst e1;cases r with
 |cons r rr=>
  rw[hs];refine assignInOrder_cons (thn (h1 pins s σ H _ _ _ I r h) λ_ s1 ⟨σ1,H1,I1,q1⟩=>?_);exact h2 pins s1 σ1 H1 _ _ Q I1 rr q1
def Qx4(K:PySem.W.Frag)(n:Nat)(t:TGs):TG:=λv σ H Q=>∃a xs,v=.ref a/\SqT K H a xs/\xs.length=n/\t xs σ H Q
theorem Qpp{es:List Q5}{k:Nat}{t:TGs}{n:Nat}(hc:X.calm=true)(h:PGs X es t)
  (hn:(assignEach es X.env).length=n:=by rfl)(hst:(assignEach es X.env).findIdx? (·.1)=none:=by rfl):PG X (.Tuple es k pos) (Qx4 X.K n t):=by
 intro pins s σ H v u Q I r hw;obtain⟨a,xs,e1,hq,hl,hw⟩:=hw;subst e1;cases r;obtain⟨its,rv,ht,hz⟩:=I.tuple hq;refine assign_Tuple_tuple (I.ok.hd hc) ht (by simp[hn,<- hl,rv.length]) hst λh' hx=>?_
 have I1:Inv X pins σ H { s with heap:=h' }:=I.kept (t':=s.toks) λb o e=>hx b o (QV (Qw e)) e
 exact h pins _ σ H xs _ Q I1 (by simpa using rv) hw
def gSub(to ti:TE)(t:TSet):TG:=λv σ H Q=>to σ H λo H1=>ti σ H1 λi H2=>t o i v H2 λH3=>Q σ H3
theorem QuM{o i:Q5}{to ti:TE}{t:TSet}(ho:PE X o to)(hi:PE X i ti)(hs:Qyo X t)
  (ha:∀v,assign (.Subscript o i pos) X.env v=(do
   let ov <- holding [v] (eval o X.env)
   let iv <- holding [v,ov] (eval i X.env)
   standAt pos
   holding [v,ov,iv] (setItem ov iv v)
   release [v,ov,iv] []):=by intro _;rfl):PG X (.Subscript o i pos) (gSub to ti t):=by
 intro pins s σ H v u Q I r h;rw[ha];refine Qa (JJ (thn (ho pins s σ H _ I h) λov s1 ⟨x,H1,I1,r1,q1⟩=>?_));refine Qa (JJ (thn (hi pins s1 σ H1 _ I1 q1) λiv s2 ⟨y,H2,I2,r2,q2⟩=>?_));refine Qa (Qa2 (Qa (JJ (thn (hs pins s2 σ H2 x y v ov iv u _ I2 r1 r2 r q2) λ_ s3 ⟨H3,I3,q3⟩=>?_))));exact wpAny_release ⟨σ,H3,I3,q3⟩
def Qro(te:TE)(g:TG):TS:=λD σ H=>te σ H λx H1=>g x σ H1 D.nx
theorem Qpl{tg e:Q5}{te:TE}{g:TG}(he:PE X e te)(hg:PG X tg g)(hs:swapsWithSole [tg] e pos.line X.env=pure false:=by rfl)(hw:swappedStores [tg] e X.env=pure none:=by rfl)
  (h1:(assignEach [tg] X.env).map (·.2)=[assign tg X.env]:=by rfl):PS X (.Assign [tg] e pos) (Qro te g):=by
 intro pins s σ H D I h;refine wpAny_Assign_stores (thn (he pins s σ H _ I h) λv s1 ⟨x,H1,I1,r1,q1⟩=>?_) hs hw;rw[h1];exact thn (hg pins s1 σ H1 x v _ I1 r1 q1) λ_ s2 q=>q
theorem Qdh{i:Nat}{x:Str}{e:Q5}{te:TE}{pos':Pos}(hN:X.N.Nodup)(hi:X.N[i]? = some x)(hx:Loc X.env.scope x)(he:PE X e te)(hs:swapsWith e (some (.Name x pos')) pos.line X.env=pure false:=by rfl)(hf:X.fn x=true∨X.env.scope.names.lookup x=some .local:=by first | exact .inl rfl | exact .inr rfl | assumption) :
  PS X (.Assign [.Name x pos'] e pos) (Qro te (Qey i)):=by
 intro pins s σ H D I h;refine wpAny_Assign_Name (thn (he pins s σ H _ I h) λv s1 ⟨y,H1,I1,r1,q1⟩=>?_) hs;exact Qfn I1 hN hi hx r1 (λs2 I2=>⟨_,H1,I2,q1⟩) hf
def Qys(i:Nat)(te:TE)(ti:TIp):TS:=λD σ H=>∃x,σ[i]? = some (some x)/\te σ H λy H1=>ti x y H1 λz H2=>D.nx (σ.set i (some z)) H2
theorem QuK{i:Nat}{x:Str}{e:Q5}{te:TE}{op:Qcn}{ti:TIp}{pos':Pos}(hN:X.N.Nodup)(hi:X.N[i]? = some x)(hx:Loc X.env.scope x)(he:PE X e te)(ho:PIp X op ti)(hf:X.fn x=true∨X.env.scope.names.lookup x=some .local:=by first | exact .inl rfl | exact .inr rfl | assumption) :
  PS X (.AugAssign (.Name x pos') op e pos) (Qys i te ti):=by
 intro pins s σ H D I h;obtain⟨v,e1,h⟩:=h;obtain⟨m,hn,hl⟩:=I.loc;have vis:Vis X.env.scope x:=by rcases hx with k | k;exact .inl k;exact .inr (.inl k)
 obtain⟨u,r,l⟩:=hl i x v hi e1 vis;refine wpAny_AugAssign_Name ?_
 have go:wpAny (model X.prog X.w) X.A (eval e X.env) (λw s₂=>wpAny (model X.prog X.w) X.A (inplaceOp op u w) (λr s₃=>wpAny (model X.prog X.w) X.A (storeName X.env x r) (λ_=>SP X pins D .next) X.xe s₃) X.xe s₂) X.xe s:=by
  refine thn (he pins s σ H _ I h) λw s1 ⟨y,H1,I1,r1,q1⟩=>?_
  refine thn (ho pins s1 σ H1 v y u w _ I1 r r1 q1) λz s2 ⟨zv,H2,I2,r2,q2⟩=>?_
  exact Qfn I2 hN hi hx r2 (λs3 I3=>⟨_,H2,I3,q2⟩) hf
 rcases l with⟨hk,hm⟩ | ⟨hk,c,hc,hcell⟩
 ·exact QtB I.ok.kind hk hn hm go
 ·rcases hk with hk | hk
  ·exact QtK I.ok.kind hk hc hcell go
  ·rcases hx with k | k
   ·have:X.env.scope.names.lookup x=some .free:=hk;rw[k] at this;cases this
   ·have:X.env.scope.names.lookup x=some .free:=hk;rw[k] at this;cases this
def Que(to ti te:TE)(tget:V->V->Hp->VK->Prop)(tip:TIp)(tset:TSet):TS:=λD σ H=>to σ H λo H1=>ti σ H1 λi H2=>tget o i H2 λx H3=>te σ H3 λy H4=>tip x y H4 λz H5=>tset o i z H5 λH6=>D.nx σ H6
def Qy6(X:Cx)(t:V->V->Hp->VK->Prop):Prop:=
 ∀(pins:List (Addr×Obj))(s:Shared)(σ:St)(H:Hp)(o i:V)(ov iv:Value)(Q:VK),Inv X pins σ H s->RelV o ov->RelV i iv->t o i H Q ->
  wpAny (model X.prog X.w) X.A (getItem ov iv) (EP X pins σ Q) X.xe s
theorem QrR{o i e:Q5}{to ti te:TE}{tget:V->V->Hp->VK->Prop}{tip:TIp}{tset:TSet}{op:Qcn}{tpos:Pos}(ho:PE X o to)(hi:PE X i ti)(hg:Qy6 X tget)(he:PE X e te)(hp:PIp X op tip)(hs:Qyo X tset)
  (ha:∀ov iv new,augStore i ov iv new=(do holding [new,ov,iv] (setItem ov iv new);release [new,ov,iv] [];pure .next):=by intros;rfl):PS X (.AugAssign (.Subscript o i tpos) op e pos) (Que to ti te tget tip tset):=by
 intro pins s σ H D I h;refine wpAny_AugAssign_SubscriptAny (thn (ho pins s σ H _ I h) λov s1 ⟨x1,H1,I1,r1,q1⟩=>?_) ha;refine thn (hi pins s1 σ H1 _ I1 q1) λiv s2 ⟨x2,H2,I2,r2,q2⟩=>?_
 refine thn (hg pins s2 σ H2 x1 x2 ov iv _ I2 r1 r2 q2) λold s3 ⟨x3,H3,I3,r3,q3⟩=>?_
 refine thn (he pins s3 σ H3 _ I3 q3) λv s4 ⟨x4,H4,I4,r4,q4⟩=>?_
 refine thn (hp pins s4 σ H4 x3 x4 old v _ I4 r3 r4 q4) λnew s5 ⟨x5,H5,I5,r5,q5⟩=>?_
 exact thn (hs pins s5 σ H5 x1 x2 x5 ov iv new _ I5 r1 r2 r5 q5) λ_ s6 ⟨H6,I6,q6⟩=>⟨σ,H6,I6,q6⟩
def ipI(f:Int->Int->Int):TIp:=λx y H Q=>∃i j,x=.int i/\y=.int j/\Q (.int (f i j)) H
theorem QpE:PIp X .Add (ipI λi j=>i+j):=by
 intro pins s σ H x y v u Q I r1 r2 h;obtain⟨i,j,e1,e2,q⟩:=h;subst e1;subst e2;obtain⟨t,rfl⟩:=r1;obtain⟨t',rfl⟩:=r2;exact iadd_int ⟨.int _,H,I.tok _,⟨_,rfl⟩,q⟩
theorem QvH:PIp X .Sub (ipI λi j=>i - j):=by
 intro pins s σ H x y v u Q I r1 r2 h;obtain⟨i,j,e1,e2,q⟩:=h;subst e1;subst e2;obtain⟨t,rfl⟩:=r1;obtain⟨t',rfl⟩:=r2;exact isub_int ⟨.int _,H,I.tok _,⟨_,rfl⟩,q⟩
end
section
variable{X:Cx}{pos:Pos}
def Qt8(c:TT)(tb:TS):TS:=λD σ H=>∃W:Nat->St->Hp->Prop,(∃m,W m σ H)/\∀m σ H,W m σ H ->
 c σ H λb H1=>if b=true then ∃N:St->Hp->Prop,(∀σ' H',N σ' H'->∃m',m'<m/\W m' σ' H')/\tb { D with nx:=N,ct:=N,bk:=D.nx } σ H1 else D.nx σ H1
theorem QnK{c:Q5}{body:List Yn}{tc:TT}{tb:TS}(hp:Qfd (model X.prog X.w) X.A X.env X.xe)(hc:PT X c tc)(hb:PSs X body tb):PS X (.While c body [] pos) (Qt8 tc tb):=by
 intro pins s σ H D I h;obtain⟨W,⟨m0,w0⟩,turn⟩:=h;refine wpAny_While (codeAny_whileLoop (λn s'=>∃σ' H',Inv X pins σ' H' s'/\W n σ' H') ?_ m0 ⟨σ,H,I,w0⟩);rintro n s1 ⟨σ1,H1,I1,w1⟩;refine YI hp (thn (hc pins s1 σ1 H1 _ I1 (turn n σ1 H1 w1)) λb s2 ⟨H2,I2,q2⟩=>?_);cases b with
 |true=>
  obtain⟨N,hN,q2⟩:=q2;rw[if_pos rfl];refine YI hp (thn (hb pins s2 σ1 H2 _ I2 q2) λf s3 q3=>?_);cases f with
  |next=>
   obtain⟨σ3,H3,I3,n3⟩:=q3;obtain⟨m',hm,w3⟩:=hN σ3 H3 n3;exact⟨m',hm,σ3,H3,I3,w3⟩
  |cont=>
   obtain⟨σ3,H3,I3,n3⟩:=q3;obtain⟨m',hm,w3⟩:=hN σ3 H3 n3;exact⟨m',hm,σ3,H3,I3,w3⟩
  |brk=>exact q3
  |ret v=>exact q3
 |false=>
  rw[if_neg Qp];exact Qdn ⟨σ1,H2,I2,q2⟩
end
structure It where
 go:Nat->Hp->Prop
 yld:Nat->Hp->V->Hp->Prop
 stop:Nat->Hp->Prop
def FpOk(X:Cx)(pins:List (Addr×Obj))(H:Hp)(b:Addr):Prop:=
 H b=none/\b≠X.env.locals/\b∉X.fs/\(b∈X.ex∨X.s₀.heap.objs.size<=b)/\(∀x c,X.env.cells.lookup x=some c->c≠b)/\∀p∈X.pn++pins,p.1≠b
theorem Inv.fpOk{X:Cx}{pins:List (Addr×Obj)}{σ:St}{H H':Hp}{s:Shared}{b:Addr}(I:Inv X pins σ H s)(hb:s.heap.objs.size<=b)(hn:H' b=none):FpOk X pins H' b:=by
 refine⟨hn,Qar (Q0 I.lt hb),I.nofs hb,.inr (Jd I.sz hb),λx c e z=>?_,λp hp z=>?_⟩
 ·obtain⟨v,q⟩:=I.cell x c e;exact absurd (Q0 q.lt (by rw[z];exact hb)) (YA _)
 ·exact absurd (Q0 (Qw (I.pin p hp).1) (by rw[z];exact hb)) (YA _)
structure Turn (P:QB) (w:Ji) (K:PySem.W.Frag) (tg:Q5) (J:It) (fp:List Addr) (it:Addr) (tn:Nat->Heap->Prop):Prop where
 mem:it∈fp
 obj:∀i h,tn i h->∀b∈fp,∃o,h.get? b=some o/\∀v,o.data≠.cell v
 keep:∀i h h',tn i h->(∀b∈fp,∀o,h.get? b=some o->h'.get? b=some o)->tn i h'
 item:∀(X:Cx),X.prog=P->X.w=w->X.K=K->X.calm=true->∀(i:Nat)(pins:List (Addr×Obj))(s:Shared)(σ:St)(H:Hp)(E:Value->Shared->Prop),Inv X pins σ H s->(∀b∈fp,FpOk X pins H b)->tn i s.heap->J.go i H ->
  wpAny (model P w) X.A (pyNext (.ref it)) (λr s1=>∃u,r=some u /\
   wpAny (model P w) X.A (letOwnedTupleGo tg (.ref it) u) (λ_ s2=>∃x H',Inv X pins σ H' s2/\RelV x u/\J.yld i H x H'/\tn (i+1) s2.heap/\∀b∈fp,H' b=none) E s1) E s
 done:∀(X:Cx),X.prog=P->X.w=w->X.K=K->X.calm=true->∀(i:Nat)(pins:List (Addr×Obj))(s:Shared)(σ:St)(H:Hp)(E:Value->Shared->Prop),Inv X pins σ H s->(∀b∈fp,FpOk X pins H b)->tn i s.heap->J.stop i H ->
  wpAny (model P w) X.A (pyNext (.ref it)) (λr s1=>r=none/\Inv X pins σ H s1) E s
 self:∀(A:Q3)(i:Nat)(s:Shared)(Q:Value->Shared->Prop)(E:Value->Shared->Prop),tn i s.heap->Q (.ref it) s->wpAny (model P w) A (pyIter (.ref it)) Q E s
abbrev TI:=St->Hp->(It->Hp->Prop)->Prop
def PIE(X:Cx)(pins:List (Addr×Obj))(σ:St)(tg:Q5)(R:It->Hp->Prop)(itv:Value)(s2:Shared):Prop:=
 ∃(it:Addr)(fp:List Addr)(tn:Nat->Heap->Prop)(J:It)(H':Hp),itv=.ref it/\Inv X pins σ H' s2/\Turn X.prog X.w X.K tg J fp it tn/\tn 0 s2.heap/\(∀b∈fp,FpOk X pins H' b)/\R J H'
def PI(X:Cx)(tg iter:Q5)(wi:TI):Prop:=
 ∀(pins:List (Addr×Obj))(s:Shared)(σ:St)(H:Hp)(R:It->Hp->Prop),Inv X pins σ H s->wi σ H R ->
  wpAny (model X.prog X.w) X.A (eval iter X.env) (λv s1=>wpAny (model X.prog X.w) X.A (pyIter v) (PIE X pins σ tg R) X.xe s1) X.xe s
theorem Qoy{M:QwW}{A:Q3}{E:Value->Shared->Prop}{s:Shared}{tg:Q5}{it:Addr}{u:Value}{o:Obj}{n:String}{vs:Array Value}{Q:Unit->Shared->Prop}(ho:s.heap.get? it=some o)(hc:o.cls=.type n)(hd:o.data=.fields vs)
  (hn:["enumerate", "zip", "dict_itemiterator", "dict_reverseitemiterator", "odict_iterator", "itertools.zip_longest", "itertools.pairwise"].contains n=false)(hQ:Q () s):wpAny M A (letOwnedTupleGo tg (.ref it) u) Q E s:=by
 unfold letOwnedTupleGo;cases tg<;>first
  |exact wpAny_pure hQ
  |(cases u<;>first
    |exact wpAny_pure hQ
    |(refine Qa (wpAny_load ho ?_)
      rw[hc,hd];show wpAny M A (if(["enumerate", "zip", "dict_itemiterator", "dict_reverseitemiterator", "odict_iterator", "itertools.zip_longest", "itertools.pairwise"].contains n&&vs[0]? == some (rawInt _))=true then _ else _) Q E s;rw[if_neg (by intro h;rw[hn,Zl] at h;cases h)];exact wpAny_pure hQ))
def Itl(K:PySem.W.Frag)(a:Addr):It:=
 ⟨λi H=>∃xs x,SqL K H a xs/\xs[i]? = some x,λi H x H'=>H'=H/\∀xs,SqL K H a xs->xs[i]? = some x,λi H=>∃xs,SqL K H a xs/\xs.length<=i⟩
def Itt(K:PySem.W.Frag)(a:Addr):It:=
 ⟨λi H=>∃xs x,SqT K H a xs/\xs[i]? = some x,λi H x H'=>H'=H/\∀xs,SqT K H a xs->xs[i]? = some x,λi H=>∃xs,SqT K H a xs/\xs.length<=i⟩
def Itr(lo:Int)(n:Nat):It:=⟨λi _=>i<n,λi H x H'=>H'=H/\x=.int (lo+i),λi _=>n<=i⟩
theorem QkB{P:QB}{w:Ji}{K:PySem.W.Frag}{tg:Q5}(a it:Addr):Turn P w K tg (Itl K a) [it] it (λi h=>h.IsListIter it a i) where
 mem:=by simp
 obj:=λi h st b hb=>by
  have e:b=it:=by simpa using hb
  subst e;obtain⟨o,e,c,d⟩:=st;exact⟨o,e,λv z=>by rw[d] at z;cases z⟩
 keep:=λi h h' st k=>st.at λo e=>k it (by simp) o e
 item:=by
  intro X hP hw hK hc i pins s σ H E I hf st hg;subst hP hw hK;obtain⟨xs,x,hq,hx⟩:=hg;obtain⟨its,rv,p,hz⟩:=I.list hq;obtain⟨u,hu,ru⟩:=rv.get hx;obtain⟨f0,f1,f2,f3,f4,f5⟩:=hf it (by simp);refine QcK st p.isList (x:=u) (by simpa using hu) λh' st' sb=>?_
  have I1:Inv X pins σ H { s with heap:=h' }:=I.turned (t':=s.toks) (λb o hb e=>(sb.2 b hb).trans e) f0 f1 f3 f4 f5;obtain⟨o,e,c,d⟩:=id st';exact⟨u,rfl,Qoy (s:={ s with heap:=h' }) e c d (by decide) ⟨x,H,I1,ru,⟨rfl,λys hy=>by rw[I.list_inj hy hq];exact hx⟩,st',λb hb=>(hf b hb).1⟩⟩
 done:=by
  intro X hP hw hK hc i pins s σ H E I hf st hg;subst hP hw hK;obtain⟨xs,hq,hx⟩:=hg;obtain⟨its,rv,p,hz⟩:=I.list hq;obtain⟨f0,f1,f2,f3,f4,f5⟩:=hf it (by simp);have hl:=rv.length;exact Qdm (I.ok.hd hc) st p.isList (by simp;omega) λh' eb=>⟨rfl,I.turned (t':=s.toks) (λb o hb e=>eb b o hb e) f0 f1 f3 f4 f5⟩
 self:=λ_ _ _ _ _ st h=>wpAny_pyIter_listiter st h
theorem QjB{P:QB}{w:Ji}{K:PySem.W.Frag}{tg:Q5}(a it:Addr):Turn P w K tg (Itt K a) [it] it (λi h=>h.IsTupleIter it a i) where
 mem:=by simp
 obj:=λi h st b hb=>by
  have e:b=it:=by simpa using hb
  subst e;obtain⟨o,e,c,d⟩:=st;exact⟨o,e,λv z=>by rw[d] at z;cases z⟩
 keep:=λi h h' st k=>st.at λo e=>k it (by simp) o e
 item:=by
  intro X hP hw hK hc i pins s σ H E I hf st hg;subst hP hw hK;obtain⟨xs,x,hq,hx⟩:=hg;obtain⟨its,rv,p,hz⟩:=I.tuple hq;obtain⟨u,hu,ru⟩:=rv.get hx;obtain⟨f0,f1,f2,f3,f4,f5⟩:=hf it (by simp);refine wpAny_pyNext_tuple_item st (show s.heap.IsTuple a its.toArray from p) (x:=u) (by simpa using hu) λh' st' sb=>?_
  have I1:Inv X pins σ H { s with heap:=h' }:=I.turned (t':=s.toks) (λb o hb e=>(sb.2 b hb).trans e) f0 f1 f3 f4 f5;obtain⟨o,e,c,d⟩:=id st';exact⟨u,rfl,Qoy (s:={ s with heap:=h' }) e c d (by decide) ⟨x,H,I1,ru,⟨rfl,λys hy=>by rw[I.tuple_inj hy hq];exact hx⟩,st',λb hb=>(hf b hb).1⟩⟩
 done:=by
  intro X hP hw hK hc i pins s σ H E I hf st hg;subst hP hw hK;obtain⟨xs,hq,hx⟩:=hg;obtain⟨its,rv,p,hz⟩:=I.tuple hq;obtain⟨f0,f1,f2,f3,f4,f5⟩:=hf it (by simp);have hl:=rv.length;exact wpAny_pyNext_tuple_end (I.ok.hd hc) st (show s.heap.IsTuple a its.toArray from p) (by simp;omega) λh' eb=>⟨rfl,I.turned (t':=s.toks) (λb o hb e=>eb b o hb e) f0 f1 f3 f4 f5⟩
 self:=λ_ _ _ _ _ st h=>wpAny_pyIter_tupleiter st h
theorem QjC{P:QB}{w:Ji}{K:PySem.W.Frag}{tg:Q5}(it:Addr)(lo:Int)(n:Nat):Turn P w K tg (Itr lo n) [it] it (λi h=>Qjx h it (lo+(i:Nat)*1) ((n:Int) - (i:Nat)) 1) where
 mem:=by simp
 obj:=λi h st b hb=>by
  have e:b=it:=by simpa using hb
  subst e;exact⟨_,st,λv z=>by
   have z':Data.fields _=Data.cell v:=z;cases z'⟩
 keep:=λi h h' st k=>k it (by simp) _ st
 item:=by
  intro X hP hw hK hc i pins s σ H E I hf st hg;subst hP hw hK;obtain⟨f0,f1,f2,f3,f4,f5⟩:=hf it (by simp);have W:=QwK (prog:=X.prog) (w:=X.w) (I.ok.hd hc) it lo 1 n;refine W.item i s _ _ hg st λv h' tk hv st' kk=>?_
  obtain⟨t,rfl⟩:=hv;have I1:Inv X pins σ H { s with heap:=h',toks:=tk }:=I.turned (λb o hb e=>kk b o (by simpa using hb) e) f0 f1 f3 f4 f5;refine⟨_,rfl,Qoy (s:={ s with heap:=h',toks:=tk }) (n := "range_iterator") st' rfl rfl (by decide) ⟨.int (lo+i),H,I1,⟨t,?_⟩,⟨rfl,rfl⟩,st',λb hb=>(hf b hb).1⟩⟩;rw[Int.mul_one]
 done:=by
  intro X hP hw hK hc i pins s σ H E I hf st hg;subst hP hw hK;obtain⟨f0,f1,f2,f3,f4,f5⟩:=hf it (by simp);exact Qo0 (I.ok.hd hc) st (by have:n<=i:=hg;omega) λh' eb=>⟨rfl,I.turned (t':=s.toks) (λb o hb e=>eb b o hb e) f0 f1 f3 f4 f5⟩
 self:=λ_ _ _ _ _ st h=>QcL st h
section
variable{X:Cx}{tg:Q5}
def QxY(K:PySem.W.Frag)(tl:TE):TI:=λσ H R=>tl σ H λx H1=>∃a,x=.ref a/\(∃xs,SqL K H1 a xs)/\R (Itl K a) H1
def Qzu(K:PySem.W.Frag)(tl:TE):TI:=λσ H R=>tl σ H λx H1=>∃a,x=.ref a/\(∃xs,SqT K H1 a xs)/\R (Itt K a) H1
theorem QrV{l:Q5}{tl:TE}(hl:PE X l tl):PI X tg l (QxY X.K tl):=by
 intro pins s σ H R I h;refine thn (hl pins s σ H _ I h) λv s1 ⟨x,H1,I1,r1,q1⟩=>?_
 obtain⟨a,e,⟨xs,hq⟩,q⟩:=q1;subst e;cases r1;obtain⟨its,rv,p,hz⟩:=I1.list hq;refine QbZ p.isList ?_
 refine⟨s1.heap.objs.size,[s1.heap.objs.size],_,_,H1,rfl,I1.kept (t':=s1.toks) λb o e=>Qm _ e,QkB a _,⟨_,Qz _ rfl,rfl,rfl⟩,λb hb=>?_,q⟩;have e:b=s1.heap.objs.size:=by simpa using hb
 subst e;exact I1.fpOk (Qj _) (I1.hok.fresh (Qj _))
theorem Qpo{l:Q5}{tl:TE}(hl:PE X l tl):PI X tg l (Qzu X.K tl):=by
 intro pins s σ H R I h;refine thn (hl pins s σ H _ I h) λv s1 ⟨x,H1,I1,r1,q1⟩=>?_
 obtain⟨a,e,⟨xs,hq⟩,q⟩:=q1;subst e;cases r1;obtain⟨its,rv,p,hz⟩:=I1.tuple hq;refine wpAny_pyIter_tuple (show s1.heap.IsTuple a its.toArray from p) ?_
 refine⟨s1.heap.objs.size,[s1.heap.objs.size],_,_,H1,rfl,I1.kept (t':=s1.toks) λb o e=>Qm _ e,QjB a _,⟨_,Qz _ rfl,rfl,rfl⟩,λb hb=>?_,q⟩;have e:b=s1.heap.objs.size:=by simpa using hb
 subst e;exact I1.fpOk (Qj _) (I1.hok.fresh (Qj _))
theorem QnG{pins:List (Addr×Obj)}{σ:St}{H:Hp}{s:Shared}{R:It->Hp->Prop}{E:Value->Shared->Prop}{lo hi:Int}{t u v:Tok}{tk:Nat}(I:Inv X pins σ H s)(h1 : -(2^62)<=lo)(h2:lo<2^62)(h3 : -(2^62)<=hi)(h4:hi<2^62)
  (q:R (Itr lo (hi - lo).toNat) H):wpAny (model X.prog X.w) X.A (pyIter (.ref s.heap.objs.size)) (PIE X pins σ tg R) E { s with heap:=s.heap.push { cls:=.type "range",data:=.fields #[.int lo t,.int hi u,.int 1 v] },toks:=tk }:=by
 refine wpAny_pyIter_range (IsRange.new ..) (small_one h1 h2 h3 h4) ?_
 have I1:Inv X pins σ H { s with heap:=s.heap.push { cls:=.type "range",data:=.fields #[.int lo t,.int hi u,.int 1 v] },toks:=tk }:=I.kept λb o e=>Qm _ e
 refine⟨(s.heap.push { cls:=.type "range",data:=.fields #[.int lo t,.int hi u,.int 1 v] }).objs.size,[(s.heap.push { cls:=.type "range",data:=.fields #[.int lo t,.int hi u,.int 1 v] }).objs.size],_,_,H,rfl,
  I1.kept (t':=tk) λb o e=>Qm _ e,QjC _ lo (hi - lo).toNat,?_,λb hb=>?_,q⟩
 ·have e1:lo+((0:Nat):Int)*1=lo:=by simp
  have e2:(((hi - lo).toNat:Nat):Int) - ((0:Nat):Int)=Zn lo hi 1:=by rw[Qnc];split<;>omega
  show Qjx _ _ (lo+((0:Nat):Int)*1) ((((hi - lo).toNat:Nat):Int) - ((0:Nat):Int)) 1;rw[e1,e2];exact Qz _ rfl
 ·have e:b=(s.heap.push { cls:=.type "range",data:=.fields #[.int lo t,.int hi u,.int 1 v] }).objs.size:=by simpa using hb
  subst e;exact I1.fpOk (Qj _) (I1.hok.fresh (Qj _))
def QxX(ta:TA):TI:=λσ H R=>ta σ H λvs H1=>∃j:Int,vs=[.int j] /\ -(2^62)<=j/\j<2^62/\R (Itr 0 j.toNat) H1
theorem Qgy{a:Q5}{ta:TA}{p pos:Pos}(hg:Gl X "range")(hm:X.mg "range" = none)(ha:PA X [a] ta)(hs:starEach [a] X.env=[(false,eval a X.env)]:=by rfl):PI X tg (.Call (.Name "range" p) [a] [] pos) (QxX ta):=by
 intro pins s σ H R I h;refine Call_ (Qdj I hg hm boot_range (Zr (thn (ha pos pins s σ H _ I h) λus s1 ⟨vs,H1,I1,r1,q1⟩=>?_) hs rfl));obtain⟨j,e,q1,q2,q⟩:=q1;subst e;cases r1 with
 |cons r rr=>
  cases rr;obtain⟨t,rfl⟩:=r;exact call_range_1 (QnG I1 (by omega) (by omega) q1 q2 (by simpa using q))
def tFor(wi:TI)(g:TG)(tb:TS):TS:=λD σ H=>wi σ H λJ H1=>∃W:Nat->Nat->St->Hp->Prop,(∃m,W 0 m σ H1)/\∀i m σ H,W i m σ H ->
 (J.stop i H/\D.nx σ H)∨(J.go i H/\∃N:St->Hp->Prop,(∀σ' H',N σ' H'->∃m',m'<m/\W (i+1) m' σ' H')/\∀x H',J.yld i H x H'->g x σ H' λσ2 H2=>tb { D with nx:=N,ct:=N,bk:=D.nx } σ2 H2)
def QiN(fp:List Addr)(h:Heap):List (Addr×Obj):=fp.filterMap λb=>(h.get? b).map λo=>(b,o)
theorem Z0{fp:List Addr}{h:Heap}{b:Addr}{o:Obj}(hb:b∈fp)(e:h.get? b=some o):(b,o)∈QiN fp h:=Y2.mpr ⟨b,hb,by rw[e];rfl⟩
theorem QlP{fp:List Addr}{h:Heap}{p:Addr×Obj}(hp:p∈QiN fp h):p.1∈fp/\h.get? p.1=some p.2:=by
 obtain⟨b,hb,e⟩:=Y2.mp hp;cases q:h.get? b with
 |none=>rw[q] at e;cases e
 |some o=>
  rw[q] at e;have e':(b,o)=p:=Qs e;subst e';exact⟨hb,q⟩
theorem Inv.pinned{pins:List (Addr×Obj)}{σ:St}{H:Hp}{s:Shared}{fp:List Addr}(I:Inv X pins σ H s)(hf:∀b∈fp,FpOk X pins H b)(ho:∀b∈fp,∃o,s.heap.get? b=some o/\∀v,o.data≠.cell v):Inv X (pins++QiN fp s.heap) σ H s:=
 I.pins_of λp hp=>(QX.mp hp).elim (λz=>I.pin p (Qv _ z)) λz=>by
  obtain⟨hb,e⟩:=QlP z;obtain⟨f0,f1,f2,_⟩:=hf p.1 hb;obtain⟨o,e',d⟩:=ho p.1 hb;rw[e] at e';cases e';exact⟨e,f0,f1,f2,d⟩
theorem Inv.unpinned{pins pl:List (Addr×Obj)}{σ:St}{H:Hp}{s:Shared}(I:Inv X (pins++pl) σ H s):Inv X pins σ H s:=I.pins_of λp hp=>I.pin p (Qv _ (J5 _ hp))
theorem Qpk{iter:Q5}{body:List Yn}{wi:TI}{g:TG}{tb:TS}{pos:Pos}(hp:Qfd (model X.prog X.w) X.A X.env X.xe)(hc:X.calm=true)(hi:PI X tg iter wi)(hg:PG X tg g)(hb:PSs X body tb)
  (hs:∀x,foldedSetIterable iter X.env x=pure x:=by intro _;rfl):PS X (.For tg iter body [] pos) (tFor wi g tb):=by
 intro pins s σ H D I h;refine wpAny_For (thn (hi pins s σ H _ I h) λv s1 h1=>thn h1 λitv s2 h2=>?_) hs;obtain⟨it,fp,tn,J,H2,e,I2,T,st2,f2,W,⟨m0,w0⟩,turn⟩:=h2;subst e;have stat:∀{H':Hp},(∀b∈fp,H' b=none)->∀b∈fp,FpOk X pins H' b:=λhn b hb=>⟨hn b hb,(f2 b hb).2⟩
 refine codeAny_forLoop_any (λn s'=>∃i σ' H',Inv X pins σ' H' s'/\tn i s'.heap/\(∀b∈fp,H' b=none)/\W i n σ' H') ?_ m0 ⟨0,σ,H2,I2,st2,λb hb=>(f2 b hb).1,w0⟩
 rintro n s3 ⟨i,σ3,H3,I3,st3,fr3,w3⟩;rcases turn i n σ3 H3 w3 with⟨stop,qn⟩ | ⟨go,N,hN,step⟩
 ·refine YI hp (thn (T.done X rfl rfl rfl hc i pins s3 σ3 H3 X.xe I3 (stat fr3) st3 stop) λr s4 ⟨hr,I4⟩=>?_);subst hr;exact Qdn ⟨σ3,H3,I4,qn⟩
 ·refine YI hp (thn (T.item X rfl rfl rfl hc i pins s3 σ3 H3 X.xe I3 (stat fr3) st3 go) λr s4 ⟨u,hr,h4⟩=>?_);subst hr;refine YI hp (thn h4 λ_ s5 ⟨x,H5,I5,r5,y5,st5,fr5⟩=>?_);have I5':=I5.pinned (stat fr5) (T.obj _ _ st5);refine YI hp (thn (hg _ s5 σ3 H5 x u _ I5' r5 (step x H5 y5)) λ_ s6 ⟨σ6,H6,I6,q6⟩=>?_);refine YI hp (thn (hb _ s6 σ6 H6 _ I6 q6) λf s7 q7=>?_);have again:∀{σ7:St}{H7:Hp},Inv X (pins++QiN fp s5.heap) σ7 H7 s7->N σ7 H7->∃m,m<n/\∃i σ' H',Inv X pins σ' H' s7/\tn i s7.heap/\(∀b∈fp,H' b=none)/\W i m σ' H':=λ{σ7 H7} I7 n7=>by
   obtain⟨m',hm,w7⟩:=hN σ7 H7 n7;refine⟨m',hm,i+1,σ7,H7,I7.unpinned,T.keep _ _ _ st5 λb hb o e=>(I7.pin (b,o) (Qv _ (Qv _ (Z0 hb e)))).1,λb hb=>?_,w7⟩;obtain⟨o,e,d⟩:=T.obj _ _ st5 b hb;exact(I7.pin (b,o) (Qv _ (Qv _ (Z0 hb e)))).2.1
  cases f with
  |next=>obtain⟨σ7,H7,I7,n7⟩:=q7;exact again I7 n7
  |cont=>obtain⟨σ7,H7,I7,n7⟩:=q7;exact again I7 n7
  |brk=>obtain⟨σ7,H7,I7,q7⟩:=q7;exact⟨σ7,H7,I7.unpinned,q7⟩
  |ret v=>obtain⟨x7,σ7,H7,I7,r7,q7⟩:=q7;exact⟨x7,σ7,H7,I7.unpinned,r7,q7⟩
end
theorem Qmd{lo:Int}{n:Nat}{g:TG}{tb:TS}{D:Ends}{σ:St}{H:Hp}(Pv:Nat->St->Hp->Prop)(h0:Pv 0 σ H)
  (hs:∀i σ H,i<n->Pv i σ H->g (.int (lo+i)) σ H λσ2 H2=>tb { D with nx:=Pv (i+1),ct:=Pv (i+1),bk:=D.nx } σ2 H2)(hd:∀σ H,Pv n σ H->D.nx σ H) :
  ∃W:Nat->Nat->St->Hp->Prop,(∃m,W 0 m σ H)/\∀i m σ H,W i m σ H ->
   ((Itr lo n).stop i H/\D.nx σ H)∨((Itr lo n).go i H/\∃N:St->Hp->Prop,(∀σ' H',N σ' H'->∃m',m'<m/\W (i+1) m' σ' H')/\∀x H',(Itr lo n).yld i H x H'->g x σ H' λσ2 H2=>tb { D with nx:=N,ct:=N,bk:=D.nx } σ2 H2):=by
 refine⟨λi m σ H=>m=n - i/\i<=n/\Pv i σ H,⟨n,by simp,Qr _,h0⟩,?_⟩;rintro i m σ H ⟨rfl,hi,p⟩;by_cases hlt:i<n
 ·refine .inr ⟨hlt,Pv (i+1),λσ' H' p'=>⟨n - (i+1),by omega,rfl,hlt,p'⟩,λx H' y=>?_⟩;obtain⟨e,y⟩:=y;subst e y;exact hs i σ _ hlt p
 ·have e:i=n:=by omega
  subst e;exact .inl ⟨Qj _,hd σ H p⟩
abbrev R2:=V->V->Hp->VK->Prop
def OpR(X:Cx)(f:Value->Value->Sem Value)(r:R2):Prop:=
 ∀(pins:List (Addr×Obj))(s:Shared)(σ:St)(H:Hp)(x y:V)(v u:Value)(Q:VK),Inv X pins σ H s->RelV x v->RelV y u->r x y H Q ->
  wpAny (model X.prog X.w) X.A (f v u) (EP X pins σ Q) X.xe s
def UnR(X:Cx)(f:Value->Sem Value)(r:V->Hp->VK->Prop):Prop:=
 ∀(pins:List (Addr×Obj))(s:Shared)(σ:St)(H:Hp)(x:V)(v:Value)(Q:VK),Inv X pins σ H s->RelV x v->r x H Q ->
  wpAny (model X.prog X.w) X.A (f v) (EP X pins σ Q) X.xe s
def CallR(X:Cx)(f:Value)(r:List V->Hp->VK->Prop):Prop:=
 ∀(pins:List (Addr×Obj))(s:Shared)(σ:St)(H:Hp)(xs:List V)(us:List Value)(Q:VK),Inv X pins σ H s->Vals xs us->r xs H Q ->
  wpAny (model X.prog X.w) X.A (call f us) (EP X pins σ Q) X.xe s
def Qzz(X:Cx)(r:V->Hp->(Bool->Hp->Prop)->Prop):Prop:=
 ∀(pins:List (Addr×Obj))(s:Shared)(σ:St)(H:Hp)(x:V)(v:Value)(Q:Bool->Hp->Prop),Inv X pins σ H s->RelV x v->r x H Q ->
  wpAny (model X.prog X.w) X.A (truthy v) (TP X pins σ Q) X.xe s
def tOp(r:R2)(ta tb:TE):TE:=λσ H Q=>ta σ H λx H1=>tb σ H1 λy H2=>r x y H2 Q
def tUn(r:V->Hp->VK->Prop)(ta:TE):TE:=λσ H Q=>ta σ H λx H1=>r x H1 Q
def rI(C:Int->Int->Prop)(g:Int->Int->V):R2:=λx y H Q=>∃i j,x=.int i/\y=.int j/\C i j/\Q (g i j) H
def rI0(g:Int->Int->V):R2:=λx y H Q=>∃i j,x=.int i/\y=.int j/\Q (g i j) H
def rU(g:Int->V):V->Hp->VK->Prop:=λx H Q=>∃i,x=.int i/\Q (g i) H
section
variable{X:Cx}{a b c:Q5}{ta tb tc:TE}{pos:Pos}
theorem Qyj(ha:PE X a ta)(hb:PE X b tb){pins:List (Addr×Obj)}{s:Shared}{σ:St}{H:Hp}{R:V->V->Hp->Prop}(I:Inv X pins σ H s)
  (h:ta σ H λx H1=>tb σ H1 λy H2=>R x y H2){Q:Value->Shared->Prop}{f:Value->Value->Sem Value}
  (hf:∀v u s2 x y H2,Inv X pins σ H2 s2->RelV x v->RelV y u->R x y H2->wpAny (model X.prog X.w) X.A (f v u) Q X.xe s2) :
  wpAny (model X.prog X.w) X.A (eval a X.env) (λv s₁=>wpAny (model X.prog X.w) X.A (eval b X.env) (λu s₂=>wpAny (model X.prog X.w) X.A (f v u) Q X.xe s₂) X.xe s₁) X.xe s:=by
 refine thn (ha pins s σ H _ I h) λv s1 ⟨x,H1,I1,r1,q1⟩=>?_
 refine thn (hb pins s1 σ H1 _ I1 q1) λu s2 ⟨y,H2,I2,r2,q2⟩=>?_
 exact hf v u s2 x y H2 I2 r1 r2 q2
theorem Qa8{op:Qcn}{r:R2}(ho:OpR X (binaryOp op) r)(ha:PE X a ta)(hb:PE X b tb):PE X (.BinOp a op b pos) (tOp r ta tb):=by
 intro pins s σ H Q I h;exact wpAny_BinOp (Qyj ha hb I h λv u s2 x y H2 I2 rx ry q=>ho pins s2 σ H2 x y v u Q I2 rx ry q)
theorem Qxz{op:UnaryOp}{r:V->Hp->VK->Prop}(ho:UnR X (unaryOp op) r)(ha:PE X a ta):PE X (.UnaryOp op a pos) (tUn r ta):=by
 intro pins s σ H Q I h;exact UnaryOp_ (thn (ha pins s σ H _ I h) λv s1 ⟨x,H1,I1,r1,q1⟩=>ho pins s1 σ H1 x v Q I1 r1 q1)
theorem opI{f:Value->Value->Sem Value}{C:Int->Int->Prop}{g:Int->Int->Int}
  (rule:∀(i j:Int)(t u:Tok)(s:Shared)(Q:Value->Shared->Prop)(E:Value->Shared->Prop),C i j->Q (.int (g i j) s.toks) { s with toks:=s.toks+1 }->wpAny (model X.prog X.w) X.A (f (.int i t) (.int j u)) Q E s) :
  OpR X f (rI C λi j=>.int (g i j)):=by
 intro pins s σ H x y v u Q I rx ry h;obtain⟨i,j,rfl,rfl,hc,q⟩:=h;obtain⟨t,rfl⟩:=rx;obtain⟨t',rfl⟩:=ry;exact rule i j t t' s _ _ hc ⟨.int (g i j),H,I.tok _,⟨_,rfl⟩,q⟩
theorem Qwx{f:Value->Value->Sem Value}{g:Int->Int->Int}
  (rule:∀(i j:Int)(t u:Tok)(s:Shared)(Q:Value->Shared->Prop)(E:Value->Shared->Prop),Q (.int (g i j) s.toks) { s with toks:=s.toks+1 }->wpAny (model X.prog X.w) X.A (f (.int i t) (.int j u)) Q E s) :
  OpR X f (rI0 λi j=>.int (g i j)):=by
 intro pins s σ H x y v u Q I rx ry h;obtain⟨i,j,rfl,rfl,q⟩:=h;obtain⟨t,rfl⟩:=rx;obtain⟨t',rfl⟩:=ry;exact rule i j t t' s _ _ ⟨.int (g i j),H,I.tok _,⟨_,rfl⟩,q⟩
theorem Qwy{f:Value->Value->Sem Value}{g:Int->Int->Bool}
  (rule:∀(i j:Int)(t u:Tok)(s:Shared)(Q:Value->Shared->Prop)(E:Value->Shared->Prop),Q (.bool (g i j)) s->wpAny (model X.prog X.w) X.A (f (.int i t) (.int j u)) Q E s) :
  OpR X f (rI0 λi j=>.bl (g i j)):=by
 intro pins s σ H x y v u Q I rx ry h;obtain⟨i,j,rfl,rfl,q⟩:=h;obtain⟨t,rfl⟩:=rx;obtain⟨t',rfl⟩:=ry;exact rule i j t t' s _ _ ⟨.bl (g i j),H,I,rfl,q⟩
def Qy8(i j:Int):Prop:=0<=j/\j<=1000000/\i.natAbs<2^64
def CMul(i j:Int):Prop:=(-(2^64)<i/\i<2^64)∨(-(2^64)<j/\j<2^64)
theorem CMul.ok{i j:Int}(h:CMul i j):IntMulOk i j:=by
 rcases h with⟨h1,h2⟩ | ⟨h1,h2⟩
 ·exact .of_left (intBits_le_64 h1 h2)
 ·exact .of_right (intBits_le_64 h1 h2)
theorem QjA(k:Nat):(0:Int)<=2^k:=by
 rw[two_pow_cast];exact Qbf _
theorem QeR:OpR X (binaryOp .Add) (rI0 λi j=>.int (i+j)):=Qwx λ_ _ _ _ _ _ _ q=>add_int q
theorem Qlz:OpR X (binaryOp .Sub) (rI0 λi j=>.int (i - j)):=Qwx λ_ _ _ _ _ _ _ q=>sub_int q
theorem QeQ:OpR X (binaryOp .Mult) (rI CMul λi j=>.int (i*j)):=opI λ_ _ _ _ _ _ _ hc q=>mul_int q hc.ok
theorem QgD:OpR X (binaryOp .Mod) (rI (λ_ j=>0<j) λi j=>.int (i % j)):=opI λi j _ _ _ _ _ hc q=>by
 have h1:(0:Int)<j:=hc;exact mod_int' (by omega) (by rw[Int.fmod_eq_emod_of_nonneg i (by omega)];exact q)
theorem Qps:OpR X (binaryOp .Pow) (rI Qy8 λi j=>.int (i^j.toNat)):=opI λ_ _ _ _ _ _ _ hc q=>pow_int_small hc.1 hc.2.1 hc.2.2 q
theorem QgA:OpR X (binaryOp .LShift) (rI Qy8 λi j=>.int (i*2^j.toNat)):=opI λ_ _ _ _ _ _ _ hc q=>lshift_int_small hc.1 hc.2.1 hc.2.2 q
theorem Qu9:OpR X (binaryOp .RShift) (rI (λ_ j=>0<=j) λi j=>.int (i / 2^j.toNat)):=opI λi j _ _ _ _ _ hc q=>
 rshift_int hc (by rw[Qhj i (QjA _)];exact q)
theorem Qpt:OpR X (binaryOp .BitAnd) (rI0 λi j=>.int (Jk i j)):=Qwx λ_ _ _ _ _ _ _ q=>and_int q
theorem QxJ:OpR X (binaryOp .BitOr) (rI0 λi j=>.int (QcO i j)):=Qwx λ_ _ _ _ _ _ _ q=>or_int q
theorem unI{f:Value->Sem Value}{g:Int->Int}
  (rule:∀(i:Int)(t:Tok)(s:Shared)(Q:Value->Shared->Prop)(E:Value->Shared->Prop),Q (.int (g i) s.toks) { s with toks:=s.toks+1 }->wpAny (model X.prog X.w) X.A (f (.int i t)) Q E s) :
  UnR X f (rU λi=>.int (g i)):=by
 intro pins s σ H x v Q I rx h;obtain⟨i,rfl,q⟩:=h;obtain⟨t,rfl⟩:=rx;exact rule i t s _ _ ⟨.int (g i),H,I.tok _,⟨_,rfl⟩,q⟩
theorem QtX:UnR X (unaryOp .USub) (rU λi=>.int (-i)):=unI λ_ _ _ _ _ q=>neg_int q
end
def Qyv:V->V->Bool
 |.non,.non=>true | .non,.int _=>true | .int _,.non=>true | .non,.bl _=>true | .bl _,.non=>true | .non,.str _=>true | .str _,.non=>true
 |.int _,.int _=>true | .bl _,.bl _=>true | .str _,.str _=>true | .byt _,.byt _=>true
 |.int _,.str _=>true | .str _,.int _=>true | .bl _,.str _=>true | .str _,.bl _=>true
 |_,_=>false
def rEq:R2:=λx y H Q=>Qyv x y=true/\Q (.bl (decide (x=y))) H
def rNe:R2:=λx y H Q=>Qyv x y=true/\Q (.bl (!decide (x=y))) H
theorem Qmm{i j:Int}:decide (V.int i=V.int j)=(i == j):=by
 rw[ZE];simp
theorem QpK{i j:Bool}:decide (V.bl i=V.bl j)=(i == j):=by
 rw[ZE];simp
theorem Qml{i j:Str}:decide (V.str i=V.str j)=(i == j):=by
 rw[ZE];simp
theorem Qmn{i j:Array UInt8}:decide (V.byt i=V.byt j)=(i.toList == j.toList):=by
 rw[ZE];cases i;cases j;simp
section
variable{X:Cx}{a b c:Q5}{ta tb tc:TE}{pos:Pos}
theorem ZD{pins:List (Addr×Obj)}{σ:St}{H:Hp}{s:Shared}{Q:VK}{k k':Bool}(I:Inv X pins σ H s)(q:Q (.bl k) H)(e:k=k'):EP X pins σ Q (.bool k') s:=by
 subst e;exact⟨.bl k,H,I,rfl,q⟩
theorem QxM:OpR X (compareOp .Eq) rEq:=by
 intro pins s σ H x y v u Q I rx ry h;obtain⟨hs,q⟩:=h;cases x with
 |non=>
  cases rx;cases y with
  |non=>cases ry;exact PySem.EqNone.eq_none_none (ZD I q (by simp))
  |bl j=>cases ry;exact PySem.EqNone.eq_none_bool (ZD I q (by simp))
  |int j=>obtain⟨t',rfl⟩:=ry;exact PySem.EqNone.eq_none_int (ZD I q (by simp))
  |str j=>obtain⟨t',rfl⟩:=ry;exact PySem.EqNone.eq_none_str (ZD I q (by simp))
  |_=>exact absurd (show false=true from hs) Qp
 |bl i=>
  cases rx;cases y with
  |non=>cases ry;exact PySem.EqNone.eq_bool_none (ZD I q (by simp))
  |bl j=>cases ry;exact eq_bool (ZD I q QpK)
  |str j=>obtain⟨t',rfl⟩:=ry;exact PySem.EqMixed.eq_bool_str (ZD I q (by simp))
  |_=>exact absurd (show false=true from hs) Qp
 |int i=>
  obtain⟨t,rfl⟩:=rx;cases y with
  |non=>cases ry;exact PySem.EqNone.eq_int_none (ZD I q (by simp))
  |int j=>obtain⟨t',rfl⟩:=ry;exact eq_int (ZD I q Qmm)
  |str j=>obtain⟨t',rfl⟩:=ry;exact PySem.EqMixed.eq_int_str (ZD I q (by simp))
  |_=>exact absurd (show false=true from hs) Qp
 |str i=>
  obtain⟨t,rfl⟩:=rx;cases y with
  |non=>cases ry;exact PySem.EqNone.eq_str_none (ZD I q (by simp))
  |bl j=>cases ry;exact PySem.EqMixed.eq_str_bool (ZD I q (by simp))
  |int j=>obtain⟨t',rfl⟩:=ry;exact PySem.EqMixed.eq_str_int (ZD I q (by simp))
  |str j=>obtain⟨t',rfl⟩:=ry;exact eq_str (ZD I q Qml)
  |_=>exact absurd (show false=true from hs) Qp
 |byt i=>
  obtain⟨t,rfl⟩:=rx;cases y with
  |byt j=>obtain⟨t',rfl⟩:=ry;exact PySem.W.eq_bytes (ZD I q Qmn)
  |_=>exact absurd (show false=true from hs) Qp
 |_=>cases y<;>exact absurd (show false=true from hs) Qp
theorem QxK:OpR X (compareOp .NotEq) rNe:=by
 intro pins s σ H x y v u Q I rx ry h;obtain⟨hs,q⟩:=h;cases x with
 |non=>
  cases rx;cases y with
  |non=>cases ry;exact PySem.EqNone.ne_none_none (ZD I q (by simp))
  |bl j=>cases ry;exact PySem.EqNone.ne_none_bool (ZD I q (by simp))
  |int j=>obtain⟨t',rfl⟩:=ry;exact PySem.EqNone.ne_none_int (ZD I q (by simp))
  |str j=>obtain⟨t',rfl⟩:=ry;exact PySem.EqNone.ne_none_str (ZD I q (by simp))
  |_=>exact absurd (show false=true from hs) Qp
 |bl i=>
  cases rx;cases y with
  |non=>cases ry;exact PySem.EqNone.ne_bool_none (ZD I q (by simp))
  |bl j=>cases ry;exact ne_bool (ZD I q (congrArg not QpK))
  |str j=>obtain⟨t',rfl⟩:=ry;exact PySem.EqMixed.ne_bool_str (ZD I q (by simp))
  |_=>exact absurd (show false=true from hs) Qp
 |int i=>
  obtain⟨t,rfl⟩:=rx;cases y with
  |non=>cases ry;exact PySem.EqNone.ne_int_none (ZD I q (by simp))
  |int j=>obtain⟨t',rfl⟩:=ry;exact ne_int (ZD I q (congrArg not Qmm))
  |str j=>obtain⟨t',rfl⟩:=ry;exact PySem.EqMixed.ne_int_str (ZD I q (by simp))
  |_=>exact absurd (show false=true from hs) Qp
 |str i=>
  obtain⟨t,rfl⟩:=rx;cases y with
  |non=>cases ry;exact PySem.EqNone.ne_str_none (ZD I q (by simp))
  |bl j=>cases ry;exact PySem.EqMixed.ne_str_bool (ZD I q (by simp))
  |int j=>obtain⟨t',rfl⟩:=ry;exact PySem.EqMixed.ne_str_int (ZD I q (by simp))
  |str j=>obtain⟨t',rfl⟩:=ry;exact ne_str (ZD I q (congrArg not Qml))
  |_=>exact absurd (show false=true from hs) Qp
 |byt i=>
  obtain⟨t,rfl⟩:=rx;cases y with
  |byt j=>obtain⟨t',rfl⟩:=ry;exact PySem.W.ne_bytes (ZD I q (congrArg not Qmn))
  |_=>exact absurd (show false=true from hs) Qp
 |_=>cases y<;>exact absurd (show false=true from hs) Qp
theorem QjQ:OpR X (compareOp .Lt) (rI0 λi j=>.bl (decide (i<j))):=Qwy λ_ _ _ _ _ _ _ q=>lt_int q
theorem QjR:OpR X (compareOp .LtE) (rI0 λi j=>.bl (decide (i<=j))):=Qwy λ_ _ _ _ _ _ _ q=>le_int q
theorem QxL:OpR X (compareOp .Gt) (rI0 λi j=>.bl (decide (j<i))):=Qwy λ_ _ _ _ _ _ _ q=>gt_int q
theorem Qsu:OpR X (compareOp .GtE) (rI0 λi j=>.bl (decide (j<=i))):=Qwy λ_ _ _ _ _ _ _ q=>ge_int q
theorem OpR.or{f:Value->Value->Sem Value}{r r':R2}(h:OpR X f r)(h':OpR X f r'):OpR X f (λx y H Q=>r x y H Q∨r' x y H Q):=by
 intro pins s σ H x y v u Q I rx ry q;rcases q with q | q
 ·exact h pins s σ H x y v u Q I rx ry q
 ·exact h' pins s σ H x y v u Q I rx ry q
theorem YR(b:Q5){op:Qp5}(h:op≠.In:=by decide)(h2:op≠.NotIn:=by decide):behindInMarks op b=false:=by
 have e1:(op == CmpOp.In)=false:=by cases op<;>first | rfl | exact absurd rfl h
 have e2:(op == CmpOp.NotIn)=false:=by cases op<;>first | rfl | exact absurd rfl h2
 cases b<;>simp[behindInMarks,e1,e2]
theorem Qr0{op:Qp5}{r:R2}(ho:OpR X (compareOp op) r)(ha:PE X a ta)(hb:PE X b tb)(hm:behindInMarks op b=false):PE X (.Compare a [op] [b] pos) (tOp r ta tb):=by
 intro pins s σ H Q I h;exact wpAny_Compare1 (Qyj ha hb I h λv u s2 x y H2 I2 rx ry q=>ho pins s2 σ H2 x y v u Q I2 rx ry q) hm
def Qt9(t:TE):TT:=λσ H Q=>t σ H λx H'=>∃k,x=.bl k/\Q k H'
theorem Qfz{op:Qp5}{r:R2}(ho:OpR X (compareOp op) r)(ha:PE X a ta)(hb:PE X b tb)(hm:behindInMarks op b=false):PT X (.Compare a [op] [b] pos) (Qt9 (tOp r ta tb)):=by
 intro pins s σ H Q I h;refine wpAny_isTrue_Compare1 (thn (ha pins s σ H _ I h) λv s1 ⟨x,H1,I1,r1,q1⟩=>thn (hb pins s1 σ H1 _ I1 q1) λu s2 ⟨y,H2,I2,r2,q2⟩=>
  thn (ho pins s2 σ H2 x y v u _ I2 r1 r2 q2) λc s3 ⟨z,H3,I3,r3,k,e,q3⟩=>?_) hm
 subst e;cases r3;exact J3 ⟨H3,I3,q3⟩
def Qpc(r r':R2)(ta tb tc:TE):TE:=λσ H Q=>ta σ H λx H1=>tb σ H1 λy H2=>r x y H2 λz H3=>∃k,z=.bl k /\
 (if k=true then tc σ H3 λw' H4=>r' y w' H4 Q else Q (.bl false) H3)
theorem QnR{op op':Qp5}{r r':R2}(ho:OpR X (compareOp op) r)(ho':OpR X (compareOp op') r')(ha:PE X a ta)(hb:PE X b tb)(hc:PE X c tc)
  (hm:lastMarks [op,op'] [b,c]=false:=by with_unfolding_all rfl):PE X (.Compare a [op,op'] [b,c] pos) (Qpc r r' ta tb tc):=by
 intro pins s σ H Q I h;refine Compare_chain (thn (ha pins s σ H _ I h) λv s1 ⟨x,H1,I1,r1,q1⟩=>chain_link (thn (hb pins s1 σ H1 _ I1 q1) λu s2 ⟨y,H2,I2,r2,q2⟩=>
  thn (ho pins s2 σ H2 x y v u _ I2 r1 r2 q2) λd s3 ⟨z,H3,I3,r3,k,e,q3⟩=>?_)) hm
 subst e;cases r3;refine J3 ?_
 cases k with
 |false=>exact ite_ff ⟨.bl false,H3,I3,rfl,q3⟩
 |true=>exact ite_tt (chain_last (thn (hc pins s3 σ H3 _ I3 q3) λw' s4 ⟨z',H4,I4,r4,q4⟩=>ho' pins s4 σ H4 y z' u w' Q I4 r2 r4 q4))
def Qym(K:PySem.W.Frag)(x:V)(H:Hp)(k:Bool):Prop:=
 match x with
 |.non=>k=false
 |.bl b=>k=b
 |.int i=>k=(i != 0)
 |.str y=>y.length<=sizeLine/\k=((y.length:Int) != 0)
 |.byt y=>y.size<=sizeLine/\k=((y.size:Int) != 0)
 |.ref p=>(∃xs,SqL K H p xs/\k = !xs.isEmpty)∨(∃xs,SqT K H p xs/\k = !xs.isEmpty)∨∃kvs,H p=some (.dK kvs)/\k = !kvs.isEmpty
 |_=>False
theorem Qj4{κ:Type}{kvs:List (κ×V)}{vs:List (κ×Value)}(r:KV kvs vs):(!vs.isEmpty) = !kvs.isEmpty:=by
 cases r<;>rfl
theorem Qe4{xs:List V}{its:List Value}(r:Vals xs its):(!its.toArray.isEmpty) = !xs.isEmpty:=by
 cases r<;>simp
theorem QeX:(sizeLine:Nat)<2^63:=by rw[Qjp];decide
theorem Qt0:Qzz X (λx H Q=>∃k,Qym X.K x H k/\Q k H):=by
 intro pins s σ H x v Q I rx h;obtain⟨k,e,q⟩:=h;have hl:=QeX;have hs:sizeLine=16777216:=Qjp;cases x with
 |non=>
  cases rx;have e':k=false:=e;subst e';exact truthy_none ⟨H,I,q⟩
 |bl b=>
  cases rx;have e':k=b:=e;subst e';exact J3 ⟨H,I,q⟩
 |int i=>
  obtain⟨t,rfl⟩:=rx;have e':k=(i != 0):=e;subst e';exact PySem.P.truthy_int ⟨H,I,q⟩
 |str y=>
  obtain⟨t,rfl⟩:=rx;obtain⟨hy,e'⟩:y.length<=sizeLine/\k=((y.length:Int) != 0):=e;subst e';exact PySem.P.truthy_str (by omega) ⟨H,I.tok _,q⟩
 |byt y=>
  obtain⟨t,rfl⟩:=rx;obtain⟨hy,e'⟩:y.size<=sizeLine/\k=((y.size:Int) != 0):=e;subst e';exact PySem.W.truthy_bytes (by omega) ⟨H,I.tok _,q⟩
 |ref p=>
  cases rx;have e':(∃xs,SqL X.K H p xs/\k = !xs.isEmpty)∨(∃xs,SqT X.K H p xs/\k = !xs.isEmpty)∨∃kvs,H p=some (.dK kvs)/\k = !kvs.isEmpty:=e
  rcases e' with⟨xs,hx,e'⟩ | ⟨xs,hx,e'⟩ | ⟨kvs,hx,e'⟩
  ·subst e';obtain⟨its,r,pl,hz⟩:=I.list hx;have hlen:=r.length;exact wpAny_truthy_list pl.isList (by simp only[Qq];omega) ⟨H,I.tok _,by rw[Qe4 r];exact q⟩
  ·subst e';obtain⟨its,r,pl,hz⟩:=I.tuple hx;have hlen:=r.length;exact truthy_tuple pl (by simp only[Qq];omega) ⟨H,I.tok _,by rw[Qe4 r];exact q⟩
  ·subst e';obtain⟨hz,hS,vs,r,m⟩:kvs.length<=sizeLine/\(p == sysModules)=false/\∃vs,KV kvs vs/\s.heap.DictOf (mixKind X.prog X.w) p vs:=I.hok p _ hx
   have hlen:kvs.length=vs.length:=QtE r;exact wpAny_truthy_dict hS m (by omega) ⟨H,I.tok _,by rw[Qj4 r];exact q⟩
 |_=>exact(show False from e).elim
theorem QnJ(ha:PE X a ta)(he:∀whole,isTrue a X.env whole=(do let v <- whole;standAt a.pos;holding [v] (truthy v))) :
  PT X a (λσ H Q=>ta σ H λx H'=>∃k,Qym X.K x H' k/\Q k H'):=by
 intro pins s σ H Q I h;exact isTrue_plain (thn (ha pins s σ H _ I h) λv s1 ⟨x,H1,I1,r1,q1⟩=>Qt0 pins s1 σ H1 x v Q I1 r1 q1) (he _)
theorem vals1{x:V}{us:List Value}(r:Vals [x] us):∃u,us=[u]/\RelV x u:=by
 cases r with
 |cons r1 r2=>cases r2;exact⟨_,rfl,r1⟩
theorem vals2{x y:V}{us:List Value}(r:Vals [x,y] us):∃u w',us=[u,w']/\RelV x u/\RelV y w':=by
 cases r with
 |cons r1 r2=>
  cases r2 with
  |cons r3 r4=>cases r4;exact⟨_,_,rfl,r1,r3⟩
theorem QmH(hc:X.calm=true):CallR X (.builtin "max") (λxs H Q=>∃i j,xs=[.int i,.int j]/\Q (.int (if j > i then j else i)) H):=by
 intro pins s σ H xs us Q I r h;obtain⟨i,j,rfl,q⟩:=h;obtain⟨u,w',rfl,⟨t,rfl⟩,⟨t',rfl⟩⟩:=vals2 r;refine max_two_ints (I.ok.hd hc) λh' tk k=>⟨_,H,I.kept k,?_,q⟩
 by_cases hj:j > i
 ·rw[if_pos hj,if_pos hj];exact⟨_,rfl⟩
 ·rw[if_neg hj,if_neg hj];exact⟨_,rfl⟩
theorem Qg2(hc:X.calm=true):CallR X (.builtin "min") (λxs H Q=>∃i j,xs=[.int i,.int j]/\Q (.int (if j<i then j else i)) H):=by
 intro pins s σ H xs us Q I r h;obtain⟨i,j,rfl,q⟩:=h;obtain⟨u,w',rfl,⟨t,rfl⟩,⟨t',rfl⟩⟩:=vals2 r;refine min_two_ints (I.ok.hd hc) λh' tk k=>⟨_,H,I.kept k,?_,q⟩
 by_cases hj:j<i
 ·rw[if_pos hj,if_pos hj];exact⟨_,rfl⟩
 ·rw[if_neg hj,if_neg hj];exact⟨_,rfl⟩
end
structure ObjM (h:Heap) (x dx C:Addr) (mA:Str->Option Value):Prop where
 obj:h.get? x=some (PySem.W.instObj C dx)
 ns:h.Ns1 dx mA
 ne:dx≠x
theorem QlW{h:Heap}{dx:Addr}{mA:Str->Option Value}(n:h.Ns1 dx mA):∃od,h.get? dx=some od/\∀name,PySem.W.lookIn name od=some (mA name):=by
 obtain⟨o,es,ep,ho,hd,hk,_,hm⟩:=n;refine⟨o,ho,λname=>?_⟩;have e:=hm name;unfold nsFind findBy at e;rw[<- Array.find?_toList] at e;unfold PySem.W.lookIn;rw[hd]
 dsimp only
 split
 ·rename_i y q
  rw[q] at e;exact congrArg some e
 ·rename_i q
  rw[q] at e;have a:es.toList.any (·.refKey)=false:=by
   rw[List.any_eq_false];intro y hy;obtain⟨z,t,hkey⟩:=hk y (Qcq.mp hy);simp[DictEntry.refKey,hkey]
  have a':¬es.toList.any (·.refKey)=true:=by rw[a];exact Qp
  rw[if_neg a'];exact congrArg some e
theorem ObjM.look{h:Heap}{x dx C:Addr}{mA:Str->Option Value}(I:ObjM h x dx C mA):∃od,PySem.W.InstAt h x (PySem.W.instObj C dx) C (some od)/\∀name,PySem.W.lookIn name od=some (mA name):=
 let ⟨od,ho,hl⟩:=QlW I.ns
 ⟨od,⟨I.obj,rfl,rfl,ho⟩,hl⟩
section
variable{prog:QB}{w:Ji}{A:Q3}{E:Value->Shared->Prop}{s:Shared}{K:PySem.W.Frag}{x dx C f:Addr}{mA:Str->Option Value}{name:Str}{v:Value}
end
section
variable{P:QB}{w:Ji}{H H':Hp}{h h':Heap}{a C dx:Addr}{fs fs':List (Str×V)}
theorem QsZ(hok:HOk P w H h)(e:H a=some (.ins C dx fs)):∃mA,ObjM h a dx C mA/\(∀f,Qyn (fs.lookup f) (mA f))/\PySem.Within mA (fs.map (·.1))/\fs.length<=1000/\H dx=some (.own a):=by
 obtain⟨d,z,ne,ob,mA,n,r,q⟩:=(show ObjOk P w H h a (.ins C dx fs) from hok a _ e);exact⟨mA,⟨ob,n,ne⟩,r,q,z,d⟩
end
structure Cls (K:PySem.W.Frag) (C:Addr):Prop where
 pg:PySem.W.plainGet K C Str.empty=true
 hd:PySem.W.hasDictIn K C=true
 po:PySem.W.plainOver K C=true
 sa:PySem.W.findIn K (.ref C) "__setattr__" = some (some (.builtin "object.__setattr__"))
theorem Cls.get{K:PySem.W.Frag}{C:Addr}(c:Cls K C)(f:Str):PySem.W.plainGet K C f=true:=c.pg
section
variable{X:Cx}{pins:List (Addr×Obj)}{σ:St}{H:Hp}{s:Shared}{a C dx:Addr}{fs:List (Str×V)}{f:Str}{v:V}{A:Q3}{E:Value->Shared->Prop}
end
section
variable{X:Cx}{o e value:Q5}{f:Str}{pos pos' tpos:Pos}{ta tv:TE}
def rAdd:V->V->Hp->VK->Prop:=λx y H Q=>∃i j,x=.int i/\y=.int j/\Q (.int (i+j)) H
end
section
variable{X:Cx}{pins:List (Addr×Obj)}{σ:St}{H:Hp}{s:Shared}{A:Q3}{E:Value->Shared->Prop}{Q:Value->Shared->Prop}{c:Value}{b:Bool}
inductive TyOf (K:PySem.W.Frag) (H:Hp):V->Value->Prop where
 |non:TyOf K H .non (.type "NoneType")
 |bl (x:Bool):TyOf K H (.bl x) (.type "bool")
 |int (i:Int):TyOf K H (.int i) (.type "int")
 |str (x:Str):TyOf K H (.str x) (.type "str")
 |flt (x:UInt64):TyOf K H (.flt x) (.type "float")
 |lst {a:Addr} {xs:List V} (e:H a=some (.lst xs)):TyOf K H (.ref a) (.type "list")
 |frz {a:Addr} {o:Obj} {xs:List V} (e:H a=some (.frz o (.lst xs))):TyOf K H (.ref a) (.type "list")
 |tup {a:Addr} {xs:List V} (e:H a=some (.tup xs)):TyOf K H (.ref a) (.type "tuple")
 |dK {a:Addr} {kvs:List (Key×V)} (e:H a=some (.dK kvs)):TyOf K H (.ref a) (.type "dict")
 |dT {a:Addr} {kvs:List (List Key×V)} (e:H a=some (.dT kvs)):TyOf K H (.ref a) (.type "dict")
 |ins {a C dx:Addr} {fs:List (Str×V)} (e:H a=some (.ins C dx fs)) (cl:Cls K C) (ha:PySem.W.findIn K (.ref C) "__class__" = some (some (.builtin "object.__class__")))
   (hn:PySem.W.specialIn K (.builtin "object.__class__") "__get__" = some (some (.builtin "getset_descriptor.__get__"))) (htk:PySem.W.takesIn K (.builtin "object.__class__")=some true)
   (hm:PySem.W.mroIn K C (.type "object")=some true):TyOf K H (.ref a) (.ref C)
theorem Ql4{x:V}{u t:Value}(I:Inv X pins σ H s)(rx:RelV x u)(ty:TyOf X.K H x t)(e:PySem.W.kitOne X.K t c=some b)(h:∀tk,Q (.bool b) { s with toks:=tk }) :
  wpAny (model X.prog X.w) A (call (.builtin "isinstance") [u,c]) Q E s:=by
 cases ty with
 |non=>cases(show u=ZI from rx);exact PySem.W.kia_one PySem.W.kitx_none I.kIn Qbo e (λz=>nomatch z) h
 |bl y=>cases(show u=Qbk y from rx);exact PySem.W.kia_one PySem.W.kitx_bool I.kIn Qbo e (λz=>nomatch z) h
 |int i=>obtain⟨t,q⟩:=(show ∃t,u=YJ i t from rx);cases q;exact PySem.W.kia_one PySem.W.kitx_int I.kIn Qbo e (λz=>nomatch z) h
 |str y=>obtain⟨t,q⟩:=(show ∃t,u=QpX y t from rx);cases q;exact PySem.W.kia_one PySem.W.kitx_str I.kIn Qbo e (λz=>nomatch z) h
 |flt y=>obtain⟨t,q⟩:=(show ∃t,u=QwM y t from rx);cases q;exact PySem.W.kia_one PySem.W.kitx_float I.kIn Qbo e (λz=>nomatch z) h
 |@lst a xs ea=>
  cases(show u=Z6 a from rx);obtain⟨_,_,n,_,h1⟩:=(show ObjOk X.prog X.w H s.heap a (.lst xs) from I.hok a _ ea);exact PySem.W.kia_one PySem.W.kitx_list I.kIn ⟨_,h1,rfl⟩ e (λz=>nomatch z) h
 |@frz a ob xs ea=>
  cases(show u=Z6 a from rx);obtain⟨_,_,_,n,_,h1⟩:=(show ObjOk X.prog X.w H s.heap a (.frz ob (.lst xs)) from I.hok a _ ea);exact PySem.W.kia_one PySem.W.kitx_list I.kIn ⟨_,h1,rfl⟩ e (λz=>nomatch z) h
 |@tup a xs ea=>
  cases(show u=Z6 a from rx);obtain⟨_,_,_,p⟩:=(show ObjOk X.prog X.w H s.heap a (.tup xs) from I.hok a _ ea);obtain⟨o,h1,h2,_⟩:=p;exact PySem.W.kia_one PySem.W.kitx_tuple I.kIn ⟨o,h1,h2⟩ e (λz=>nomatch z) h
 |@dK a kvs ea=>
  cases(show u=Z6 a from rx);obtain⟨_,_,vs,_,p⟩:=(show ObjOk X.prog X.w H s.heap a (.dK kvs) from I.hok a _ ea);obtain⟨o,es,ep,h1,h2,_⟩:=p;exact PySem.W.kia_one PySem.W.kitx_dict I.kIn ⟨o,h1,h2.1⟩ e (λz=>nomatch z) h
 |@dT a kvs ea=>
  cases(show u=Z6 a from rx);obtain⟨_,_,xs,_,o,es,ep,h1,h2,_⟩:=(show ObjOk X.prog X.w H s.heap a (.dT kvs) from I.hok a _ ea);exact PySem.W.kia_one PySem.W.kitx_dict I.kIn ⟨o,h1,h2.1⟩ e (λz=>nomatch z) h
 |@ins a C dx fs ea cl ha hn htk hm=>
  cases(show u=Z6 a from rx);obtain⟨mA,O,_⟩:=QsZ I.hok ea;obtain⟨od,J,_⟩:=O.look;exact PySem.W.kia_one (PySem.W.kitx_own (cl.get _) cl.hd ha hn htk hm) I.kIn J e (λz=>nomatch z) h
end
structure Room (k:Nat) (A:Q3):Prop where
 hd:A.handled=none
 dp:A.depth+3*k+5<recursionLimit
 un:A.units+16*k+200<cLine
theorem Room.mono{j k:Nat}{A:Q3}(r:Room k A)(h:j<=k):Room j A:=⟨r.hd,by have:=r.dp;omega,by have:=r.un;omega⟩
theorem Room.deeper{k:Nat}{A:Q3}(r:Room (k+1) A)(env:Env):Room k (A.deeper env):=
 ⟨r.hd,by have:=r.dp;show A.depth+1+3*k+5<_;omega,by have:=r.un;show A.units+3+16*k+200<_;omega⟩
theorem Room.in1{k:Nat}{A:Q3}(r:Room (k+1) A):Room k A.in1:=
 ⟨r.hd,by have:=r.dp;show A.depth+3*k+5<_;omega,by have:=r.un;show A.units+1+16*k+200<_;omega⟩
theorem Room.depth{k:Nat}{A:Q3}(r:Room k A):A.depth<recursionLimit:=by have:=r.dp;omega
theorem Room.units{k:Nat}{A:Q3}(r:Room k A):A.units+64<cLine:=by have:=r.un;omega
def Qub:TA:=λ_ H Q=>Q [] H
def Qgk(ta:TE)(tr:TA):TA:=λσ H Q=>ta σ H λx H1=>tr σ H1 λxs H2=>Q (x::xs) H2
section
variable{X:Cx}{e:Q5}{es:List Q5}{te:TE}{t:TA}{pos:Pos}
theorem Z5:PA X [] Qub:=λ_ _ _ _ H Q I h=>Calls.spliced_nil ⟨[],H,I,.nil,h⟩
theorem Qbz(ha:PE X e te)(hr:PA X es t)(hs:starEach (e::es) X.env=(false,eval e X.env)::starEach es X.env:=by rfl):PA X (e::es) (Qgk te t):=by
 intro pos pins s σ H Q I h;rw[hs];show wpAny _ _ (spliced ((false,eval e X.env)::backTo pos (starEach es X.env))) _ _ s;refine Calls.spliced_cons (thn (ha pins s σ H _ I h) λu s1 ⟨x,H1,I1,r1,q1⟩=>?_);exact thn (hr pos pins s1 σ H1 _ I1 q1) λus s2 ⟨xs,H2,I2,r2,q2⟩=>⟨x::xs,H2,I2,.cons r1 r2,q2⟩
def Qzf(t:TA):TE:=λσ H Q=>t σ H λxs H1=>xs.length<=sizeLine/\∀p,H1 p=none->Q (.ref p) (upd H1 p (.lst xs))
theorem Qpq(h:PA X es t):PE X (.List es pos) (Qzf t):=by
 intro pins s σ H Q I hq;refine Qwk (thn (h pos pins s σ H _ I hq) λus s1 ⟨xs,H1,I1,r,z,q⟩=>⟨by rw[<- r.length];exact z,?_⟩);have hf:H1 s1.heap.objs.size=none:=I1.hok.fresh (Qj _);refine⟨.ref s1.heap.objs.size,upd H1 s1.heap.objs.size (.lst xs),I1.laid (t':=s1.toks) (λb u e=>Qm _ e) (Qj _) ?_,rfl,q _ hf⟩;exact⟨z,us,0,r,Qz _ rfl⟩
end
abbrev Sp:=List V->Hp->VK->XK->Prop
abbrev CXT:=List Env->Hp->Shared->XK->Value->Shared->Prop
structure Env0 (P:QB) (w:Ji) (K:PySem.W.Frag) (mg:Str->Option Value) (base:Heap) (A:Q3) (outer:List Env) (s:Shared) (H:Hp):Prop where
 frames:A.frames=some outer
 mod:Mod K mg base
 bs:∀b o,base.get? b=some o->s.heap.get? b=some o/\H b=none
 bsz:base.objs.size<=s.heap.objs.size
 funs:s.heap.FunFrames base outer
 frf:∀b∈frs outer,H b=none
 hok:HOk P w H s.heap
 bare:Qew s.gens
def CE(outer:List Env)(P:QB)(w:Ji)(H:Hp)(s:Shared)(Q:VK)(u:Value)(s':Shared):Prop:=
 ∃v H',s'.os=s.os/\Qew s'.gens/\Un (frs outer) [] H H' s.heap s'.heap/\HOk P w H' s'.heap/\RelV v u/\Q v H'
def CR(CX:CXT)(outer:List Env)(P:QB)(w:Ji)(H:Hp)(s:Shared)(Q:VK)(E:XK)(r:Qjt)(s':Shared):Prop:=
 match r with
 |.ok (.ret u)=>CE outer P w H s Q u s'
 |.ok _=>False
 |.error e=>CX outer H s E e s'
structure FnOk (P:QB) (w:Ji) (K:PySem.W.Frag) (mg:Str->Option Value) (base:Heap) (CX:CXT) (k:Nat) (f:Addr) (fd:QR) (ps:List Str) (sp:Sp):Prop where
 len:∀vs H Q E,sp vs H Q E->vs.length=ps.length
 run:∀(A:Q3)(outer:List Env)(s:Shared)(H:Hp)(args:Args)(us:List Value)(vs:List V)(Q:VK)(E:XK),Room k A->Env0 P w K mg base A outer s H->Qnj s fd args (ps.zip us)->Vals vs us->sp vs H Q E ->
  codeAny (model P w) A (.call (.ref f) args) (CR CX outer P w H s Q E) s
theorem FnOk.imp{P:QB}{w:Ji}{K:PySem.W.Frag}{mg:Str->Option Value}{base:Heap}{CX:CXT}{k:Nat}{f:Addr}{fd:QR}{ps:List Str}{sp sp':Sp}(F:FnOk P w K mg base CX k f fd ps sp)
  (h:∀vs H Q E,sp' vs H Q E->sp vs H Q E):FnOk P w K mg base CX k f fd ps sp':=
 ⟨λvs H Q E q=>F.len vs H Q E (h _ _ _ _ q),λA outer s H args us vs Q E hr he hb hv hs=>F.run A outer s H args us vs Q E hr he hb hv (h _ _ _ _ hs)⟩
theorem Env0.in1{P:QB}{w:Ji}{K:PySem.W.Frag}{mg:Str->Option Value}{base:Heap}{A:Q3}{outer:List Env}{s:Shared}{H:Hp}(e:Env0 P w K mg base A outer s H) :
  Env0 P w K mg base A.in1 outer s H:=⟨e.frames,e.mod,e.bs,e.bsz,e.funs,e.frf,e.hok,e.bare⟩
section
variable{X:Cx}{pins:List (Addr×Obj)}{σ:St}{H:Hp}{s s':Shared}
theorem Inv.env0(I:Inv X pins σ H s):Env0 X.prog X.w X.K X.mg X.base X.A X.stack s H:=
 ⟨I.ok.frames,I.ok.mod,I.bs,Jd I.ok.bsz I.sz,I.stack,I.stkFree,I.hok,I.bare⟩
theorem Inv.after{Q:VK}{u:Value}(I:Inv X pins σ H s)(h:CE X.stack X.prog X.w H s Q u s'):EP X pins σ Q u s':=by
 obtain⟨v,H',os,bare,un,hok,r,q⟩:=h;obtain⟨hh,g,d,t,os'⟩:=s';obtain rfl:os'=s.os:=os;exact⟨v,H',I.call (h':=hh) (g':=g) (d':=d) (t':=t) (ch:=[]) un hok bare (λb z=>absurd z (by simp)),r,q⟩
end
def Qud(sp:Sp)(dvs:List V)(E:XK)(t:TA):TE:=λσ H Q=>t σ H λvs H1=>sp (vs++dvs) H1 Q E
def Binds(K:PySem.W.Frag)(fd:QR)(ps:List Str)(ds:List Value):Prop:=
 ∀(s:Shared)(us:List Value),K.In s.heap->(us++ds).length=ps.length->Qnj s fd ⟨us,[]⟩ (ps.zip (us++ds))
theorem Binds.all{K:PySem.W.Frag}{fd:QR}{ps:List Str}(h:∀us:List Value,us.length=ps.length->bindArgs fd ⟨us,[]⟩=pure (ps.zip us)):Binds K fd ps []:=λs us _ hl=>by
 rw[Jr] at hl ⊢;exact .of_eq (h us hl)
def Qen(CX:CXT)(X:Cx)(E:XK):Prop:=∀(pins:List (Addr×Obj))(σ:St)(H:Hp)(s:Shared)(e:Value)(s':Shared),Inv X pins σ H s->CX X.stack H s E e s'->X.xe e s'
section
variable{X:Cx}{CX:CXT}{k:Nat}{f C:Addr}{fd:QR}{ps:List Str}{sp:Sp}{dvs:List V}{ds:List Value}{E:XK}{x m:Str}{p pos apos:Pos}{e o:Q5}{es:List Q5}{ta:TE}{t:TA}
theorem Quo{pins:List (Addr×Obj)}{σ:St}{H:Hp}{s:Shared}{Q:VK}{us:List Value}{vs:List V}(F:FnOk X.prog X.w X.K X.mg X.base CX k f fd ps sp)(hr:Room k X.A)(hb:Binds X.K fd ps ds)(hd:Vals dvs ds)(hx:Qen CX X E)
  (I:Inv X pins σ H s)(r:Vals vs us)(h:sp (vs++dvs) H Q E):wpAny (model X.prog X.w) X.A (call (.ref f) us) (EP X pins σ Q) X.xe s:=by
 have r2:Vals (vs++dvs) (us++ds):=r.append hd;have hl:(us++ds).length=ps.length:=by rw[<- r2.length];exact F.len _ _ _ _ h
 refine QmY (QbF (F.run X.A X.stack s H ⟨us,[]⟩ (us++ds) (vs++dvs) Q E hr I.env0 (hb s us I.kIn hl) r2 h) λr s' hq=>?_);cases r with
 |error e=>exact hx pins σ H s e s' I hq
 |ok fl=>
  cases fl with
  |ret u=>exact I.after hq
  |next=>exact Zp hq
  |brk=>exact Zp hq
  |cont=>exact Zp hq
theorem QhJ(F:FnOk X.prog X.w X.K X.mg X.base CX k f fd ps sp)(hr:Room k X.A)(hg:Gl X x)(hm:X.mg x=some (.ref f))(hk:PySem.W.keepIn X.K (.ref f)=true)(hb:Binds X.K fd ps ds)(hd:Vals dvs ds)(hx:Qen CX X E)
  (ha:PA X (e::es) t)(hdb:(x == ("__debug__" : Str))=false:=by decide)(he:starEach (e::es) X.env=(false,eval e X.env)::starEach es X.env:=by rfl)(hpl:(backTo pos (starEach es X.env)).any (·.1)=false:=by rfl) :
  PE X (.Call (.Name x p) (e::es) [] pos) (Qud sp dvs E t):=by
 intro pins s σ H Q I h;refine Qak (QlZ I hg hm ?_ hdb);refine PySem.W.callWith_K (h₀:=X.base) I.ok.mod.kin hk (thn (ha pos pins s σ H _ I h) λus s1 ⟨vs,H1,I1,r,q⟩=>⟨I1.kIn,?_⟩) he hpl;exact Quo F hr hb hd hx I1 r q
end
section
variable{X:Cx}{CX:CXT}{k:Nat}{f C:Addr}{fd:QR}{ps ks:List Str}{sp:Sp}{E:XK}{x m:Str}{p pos apos kpos:Pos}{e o:Q5}{es:List Q5}{kws:List Qjw}{te ta:TE}{t tk:TA}{nm:Option Str}
variable{g:List Value->List Value->List Value}{gV:List V->List V->List V}
end
structure JH (N P:List Str) (sc:QaM):Prop where
 kind:sc.kind=.function
 co:sc.isCoroutine=false
 gen:sc.isGenerator=false
 nd:N.Nodup
 pre:N.take P.length=P
 par:∀x∈P,sc.names.lookup x=some .local∨sc.names.lookup x=some .cell
 nofree:∀y∈sc.names,y.2≠.free
theorem Qg7{kindOf:Str->Option QaH}{x:Str}:∀{binds:List (Str×Value)}{m:Str->Option Value},(∀v,(x,v)∉binds)->bindL kindOf binds m x=m x
 |[],_,_=>rfl
 |(n,v)::r,m,h=>by
  unfold bindL;rw[Qg7 λw hw=>h w (Jg _ hw)];split
  ·have:x≠n:=by rintro rfl;exact h v J4
   simp[this]
  ·rfl
theorem Qg9{kindOf:Str->Option QaH}{x:Str}:∀{binds:List (Str×Value)}{m:Str->Option Value},(∀v,(x,v)∉binds)->bindC kindOf binds m x=m x
 |[],_,_=>rfl
 |(n,v)::r,m,h=>by
  unfold bindC;rw[Qg9 λw hw=>h w (Jg _ hw)];split
  ·rfl
  ·have:x≠n:=by rintro rfl;exact h v J4
   simp[this]
theorem Qg8{kindOf:Str->Option QaH}{x:Str}{v:Value}:∀{P:List Str}{vs:List Value}{i:Nat}{m:Str->Option Value},P.Nodup->P[i]? = some x->vs[i]? = some v->kindOf x=some .local ->
  bindL kindOf (P.zip vs) m x=some v
 |[],_,_,_,_,h,_,_=>by simp at h
 |_::_,[],_,_,_,_,h,_=>by simp at h
 |p::P,w::vs,0,m,nd,h1,h2,hk=>by
  simp at h1 h2;subst h1;subst h2;show bindL kindOf ((p,w)::P.zip vs) m p=_;unfold bindL;rw[Qg7 λv hv=>(Yo.mp nd).1 (Qf2 hv).1,if_pos hk];simp
 |p::P,w::vs,i+1,m,nd,h1,h2,hk=>by
  show bindL kindOf ((p,w)::P.zip vs) m x=_;unfold bindL;exact Qg8 (i:=i) (Yo.mp nd).2 (by simpa using h1) (by simpa using h2) hk
theorem Qha{kindOf:Str->Option QaH}{x:Str}{v:Value}:∀{P:List Str}{vs:List Value}{i:Nat}{m:Str->Option Value},P.Nodup->P[i]? = some x->vs[i]? = some v->kindOf x≠some .local ->
  bindC kindOf (P.zip vs) m x=some v
 |[],_,_,_,_,h,_,_=>by simp at h
 |_::_,[],_,_,_,_,h,_=>by simp at h
 |p::P,w::vs,0,m,nd,h1,h2,hk=>by
  simp at h1 h2;subst h1;subst h2;show bindC kindOf ((p,w)::P.zip vs) m p=_;unfold bindC;rw[Qg9 λv hv=>(Yo.mp nd).1 (Qf2 hv).1,if_neg hk];simp
 |p::P,w::vs,i+1,m,nd,h1,h2,hk=>by
  show bindC kindOf ((p,w)::P.zip vs) m x=_;unfold bindC;exact Qha (i:=i) (Yo.mp nd).2 (by simpa using h1) (by simpa using h2) hk
def start(N:List Str)(vs:List V):St:=vs.map some++Jb (N.length - vs.length) none
def Qm7(CX:CXT)(P:QB)(w:Ji)(K:PySem.W.Frag)(mg:Str->Option Value)(base:Heap)(N:List Str)(qual:Str)(scope:QaM)(f:Addr)(cd:Value)(A:Q3)(outer:List Env)(s:Shared)(H:Hp)(E:XK):Cx where
 prog:=P
 w:=w
 K:=K
 mg:=mg
 base:=base
 A:=A.deeper (envOfC qual scope s.heap.objs.size f cd)
 N:=N
 s₀:=s
 H₀:=H
 env:=envOfC qual scope s.heap.objs.size f cd
 outer:=outer
 stack:=envOfC qual scope s.heap.objs.size f cd::outer
 ex:=[]
 calm:=true
 fn:=λ_=>true
 pn:=[]
 xe:=λe s'=>wpAny (model P w) (A.deeper (envOfC qual scope s.heap.objs.size f cd)) (leaving (envOfC qual scope s.heap.objs.size f cd) e) (λ_ s''=>CX outer H s E e s'') (λe' s''=>CX outer H s E e' s'') s'
theorem Qjj{sc:QaM}{n:Nat}{x:Str}(h:sc.names.lookup x=some .cell):∃c,(cellsFrom n sc.names []).lookup x=some c:=by
 have q:=PySem.W.cellsFrom_some sc.names n [] (.inl h);exact Qgc.mp q
theorem Ql6{CX:CXT}{P:QB}{w:Ji}{K:PySem.W.Frag}{mg:Str->Option Value}{base:Heap}{N ps:List Str}{qual:Str}{scope:QaM}{f:Addr}{cd:Value}{A:Q3}{outer:List Env}{s s1:Shared}{H:Hp}{E:XK}{us:List Value}{vs:List V}
  (S:JH N ps scope)(hd:A.handled=none)(e0:Env0 P w K mg base A outer s H)(hl:vs.length=ps.length)(r:Vals vs us)
  (x:InCallC s s.heap.objs.size (bindL (envOfC qual scope s.heap.objs.size f cd).kindOf (ps.zip us) λ_=>none) (cellsFrom (s.heap.objs.size+1) scope.names []) (bindC (envOfC qual scope s.heap.objs.size f cd).kindOf (ps.zip us) λ_=>none) s1) :
  Inv (Qm7 CX P w K mg base N qual scope f cd A outer s H E) [] (start N vs) H s1:=by
 have hpl:ps.length<=N.length:=by have:=congrArg Qm5 S.pre;rw[Zu] at this;omega
 obtain⟨h1,tk,rfl,hk⟩:=x.done;have noA:∀b:Addr,b∉(Qm7 CX P w K mg base N qual scope f cd A outer s H E).ex:=λb z=>absurd (show b∈([]:List Addr) from z) (by simp)
 refine⟨⟨e0.mod,S.kind,rfl,rfl,Qj _,λy z c h1 h2=>?_,λy hy=>?_,λy c _ h=>?_,λ_=>hd,Around.frames_deeper e0.frames,.inr ⟨rfl,rfl⟩,λb z=>absurd z (noA b),e0.bs,e0.bsz,λb _ _=>noA b,λb z=>absurd z (noA b),e0.funs,e0.frf⟩,
  rfl,e0.bare,Un.kept hk,⟨_,x.toInCall.ns,λi y v h1 h2 h3=>?_⟩,λy c h=>⟨_,x.cell y c h⟩,e0.hok.fresh (Qj _),λy c h=>?_,λp hp=>absurd (show p∈([]:List (Addr×Obj)) from hp) (by simp),e0.hok.kept hk,?_⟩
 ·exact name_of_addr x.apart (PySem.mem_of_lookup h1) (PySem.mem_of_lookup h2)
 ·have hy:scope.names.lookup y=some .cell∨scope.names.lookup y=some .free:=hy;rcases hy with hy | hy
  ·exact Qjj hy
  ·exact absurd rfl (S.nofree _ (PySem.mem_of_lookup hy))
 ·exact Ys (x.above y c (PySem.mem_of_lookup h))
 ·have hi:i<vs.length:=by
   unfold start at h2;by_cases hi:i<vs.length
   ·exact hi
   ·rw[JF (by simpa using hi)] at h2;rw[Z2] at h2;split at h2<;>cases h2
  have ha:vs[i]? = some v:=by
   unfold start at h2;rw[Zi (by simpa using hi),QF] at h2;cases e:vs[i]? with
   |none=>rw[e] at h2;cases h2
   |some a=>rw[e] at h2;cases h2;rfl
  obtain⟨u,hu,rv⟩:=r.get ha;have hp:ps[i]? = some y:=by
   rw[<- S.pre,List.getElem?_take_of_lt (by omega)];exact h1
  have ndP:ps.Nodup:=by rw[<- S.pre];exact S.nd.sublist (List.take_sublist _ _)
  refine⟨u,rv,?_⟩;rcases S.par y (Jx hp) with k | k
  ·exact .inl ⟨k,Qg8 ndP hp hu k⟩
  ·obtain⟨c,e⟩:=Qjj (n:=s.heap.objs.size+1) k;refine .inr ⟨.inl k,c,e,?_⟩;have q:=x.cell y c e;rw[Qha ndP hp hu (by show scope.names.lookup y≠_;rw[k];decide)] at q;exact q
 ·exact e0.hok.fresh (Ys (x.above y c (PySem.mem_of_lookup h)))
 ·unfold start;show _=N.length;rw[Qo,Qd,Qap];omega
theorem Qx7{CX:CXT}{P:QB}{w:Ji}{K:PySem.W.Frag}{mg:Str->Option Value}{base:Heap}{k:Nat}{f:Addr}{name qual:Str}{params:Arguments}{body:List Yn}{scope:QaM}{dV kV doc pm cdv ct oc:Value}{an od:Option Addr}
  {osl:Array (Option Value)} {N ps:List Str} {sp:Sp} (lk:K.lookup f=some ⟨oc,od,.func (PySem.W.fnOf name qual params body scope dV kV doc pm an cdv ct),osl⟩) (hcd:PySem.W.codeIn K cdv qual=true) (S:JH N ps scope)
  (len:∀vs H Q E,sp vs H Q E->vs.length=ps.length)
  (hbody:∀(A:Q3)(outer:List Env)(s:Shared)(H:Hp)(vs:List V)(Q:VK)(E:XK),Room k (A.deeper (envOfC qual scope s.heap.objs.size f cdv))->sp vs H Q E ->
   ∃t,PSs (Qm7 CX P w K mg base N qual scope f cdv A outer s H E) body t/\t { nx:=λ_ H'=>Q .non H',rt:=Q } (start N vs) H) :
  FnOk P w K mg base CX (k+1) f (PySem.W.fnOf name qual params body scope dV kV doc pm an cdv ct) ps sp:=by
 refine⟨len,λA outer s H args us vs Q E hr e0 hb r hsp=>?_⟩;have hl:=len _ _ _ _ hsp;have KX:K.In s.heap:=e0.mod.kin.keeps λb o e=>(e0.bs b o e).1
 have lim:s.heap.NoLimit:=e0.mod.nolimit.keeps λb o e=>(e0.bs b o e).1
 have hkind:∀y∈ps.zip us,scope.names.lookup y.1=some .local∨(scope.names.lookup y.1=some .cell/\((cellsFrom (s.heap.objs.size+1) scope.names []).lookup y.1).isSome=true):=λ⟨n,v⟩ hy=>by
  rcases S.par n (Qf2 hy).1 with q | q
  ·exact .inl q
  ·exact .inr ⟨q,PySem.W.cellsFrom_some _ _ _ (.inl q)⟩
 refine codeAny_call_function hr.depth (KX _ _ lk) rfl S.co S.gen rfl (PySem.W.codeRec_of KX hcd) (hb _ _ _ _ ?_);refine wpAny_newFunctionEnv_cells S.kind hkind λenv he s1 x=>?_
 subst he;refine⟨lim.keeps x.toInCall.keep,codeAny_func ?_⟩;obtain⟨t,ht,hq⟩:=hbody A outer s H vs Q E (hr.deeper _) hsp;have I:Inv (Qm7 CX P w K mg base N qual scope f cdv A outer s H E) [] (start N vs) H s1:=Ql6 S hr.hd e0 hl r x;refine JI (ht [] s1 (start N vs) H _ I hq) (λfl s' hs=>?_) λe s' hs=>hs
 have fin:∀{σ':St}{H':Hp}{v:V}{u:Value},Inv (Qm7 CX P w K mg base N qual scope f cdv A outer s H E) [] σ' H' s'->RelV v u->Q v H'->CE outer P w H s Q u s':=
  λ{σ' H' v u} J rv q=>⟨v,H',J.os,J.bare,J.base,J.hok,rv,q⟩
 cases fl with
 |ret u=>
  obtain⟨v,σ',H',J,rv,q⟩:=hs;exact fin J rv q
 |next=>
  obtain⟨σ',H',J,q⟩:=hs;exact fin (v:=V.non) (u:=ZI) J rfl q
 |brk=>
  obtain⟨_,_,_,q⟩:=hs;exact Zp q
 |cont=>
  obtain⟨_,_,_,q⟩:=hs;exact Zp q
section
variable{X:Cx}{x:Str}{p pos:Pos}{e:Q5}{es:List Q5}{t:TA}{id T:String}{r:List V->Hp->VK->Prop}
def tCB(r:List V->Hp->VK->Prop)(t:TA):TE:=λσ H Q=>t σ H λvs H1=>r vs H1 Q
theorem Qa9(hc:CallR X (.builtin id) r)(hg:Gl X x)(hm:X.mg x=none)(hv:bootBuiltins x=some (.builtin id))(ha:PA X (e::es) t)(hn:x ≠ "__name__" := by decide)(hdb:(x == ("__debug__" : Str))=false:=by decide)
  (he:starEach (e::es) X.env=(false,eval e X.env)::starEach es X.env:=by rfl)(hpl:(backTo pos (starEach es X.env)).any (·.1)=false:=by rfl):PE X (.Call (.Name x p) (e::es) [] pos) (tCB r t):=by
 intro pins s σ H Q I h;refine Qak (Qdj I hg hm hv ?_ hn hdb);exact PyProof.Rows.callWith_builtin1 (thn (ha pos pins s σ H _ I h) λus s1 ⟨vs,H1,I1,r1,q1⟩=>hc pins s1 σ H1 vs us Q I1 r1 q1) he hpl
theorem Qcy(hc:CallR X (.type T) r)(hg:Gl X x)(hm:X.mg x=none)(hv:bootBuiltins x=some (.type T))(ha:PA X (e::es) t)(hn:x ≠ "__name__" := by decide)(hdb:(x == ("__debug__" : Str))=false:=by decide)
  (he:starEach (e::es) X.env=(false,eval e X.env)::starEach es X.env:=by rfl)(hpl:(backTo pos (starEach es X.env)).any (·.1)=false:=by rfl):PE X (.Call (.Name x p) (e::es) [] pos) (tCB r t):=by
 intro pins s σ H Q I h;refine Qak (Qdj I hg hm hv ?_ hn hdb);exact Zr (thn (ha pos pins s σ H _ I h) λus s1 ⟨vs,H1,I1,r1,q1⟩=>hc pins s1 σ H1 vs us Q I1 r1 q1) he hpl
end
end L2
namespace HT
theorem QiH(A:Q3)(s:Shared)(a:Int)(t:Tok)(c:Int)(u:Tok)(prog:QB)(w:Ji)(E:Value->Shared->Prop)(Q:Value->Shared->Prop)(h:Q (.bool (decide (a<c))) s) :
  wpAny (model prog w) A (richCompare .Lt (.int a t) (.int c u)) Q E s:=
 (PyProof.Rows.lt_int h:wpAny (model prog w) A (compareOp .Lt (.int a t) (.int c u)) Q E s)
section
open PySem.SeqAt
open PySem.AutoSeq1 (wpAny_loadPart')
open PySem.MeetsSeq PySem.MeetsSeq2 PySem.MeetsSeq3
end
section
variable{prog:QB}{w:Ji}{A:Q3}{E:Value->Shared->Prop}{s:Shared}
theorem Qtq{t b:Addr}{vs ws:List Value}{Q:Value->Shared->Prop}(ht:IsTup s.heap t vs.toArray)(hb:IsTup s.heap b ws.toArray)(hv:vs≠[])
  (h1:ws=[]->Q (.ref t) s)(h2:ws≠[]->Q (.ref s.heap.objs.size) { s with heap:=s.heap.push { cls:=.type "tuple",data:=.seq (vs++ws).toArray } })
  (hsz:vs.length+ws.length<=sizeLine):wpAny (model prog w) A (binaryOp .Add (.ref t) (.ref b)) Q E s:=by
 obtain⟨⟨cls,dd,data,sl⟩,ho,hc,n,hd⟩:=id ht;obtain⟨⟨cls2,dd2,data2,sl2⟩,ho2,hc2,n2,hd2⟩:=id hb;simp only at hc hd hc2 hd2;subst hc hd hc2 hd2;have e:vs.toArray++ws.toArray=(vs++ws).toArray:=by simp
 by_cases hw:ws=[]
 ·exact QpW ⟨_,ho,rfl⟩ ⟨_,ho2,rfl⟩ Qho Qnb PySem.F.slot_tuple_add PySem.F.entry_tuple_add (PySem.F.args_tuple_add_2 _ _)
   (tuple_addW1 t b vs.toArray ws.toArray n n2 dd dd2 sl sl2 (by simpa using hv) (by simp[hw])) ⟨ho,ho2,h1 hw⟩
 ·refine QpW ⟨_,ho,rfl⟩ ⟨_,ho2,rfl⟩ Qho Qnb PySem.F.slot_tuple_add PySem.F.entry_tuple_add (PySem.F.args_tuple_add_2 _ _)
   (tuple_addW2 t b vs.toArray ws.toArray n n2 dd dd2 sl sl2 (by simpa using hv) (by simpa using hw) (by rw[Qq,Qq];exact hsz)) ⟨ho,ho2,?_⟩
  rw[e];exact h2 hw
def sIx(n d:Nat):Option Int->Nat
 |none=>d
 |some v=>if v<0 then(v+(n:Int)).toNat else min v.toNat n
theorem QiE(n d:Nat):sIx n d none=d:=rfl
theorem QrB(n d k:Nat):sIx n d (some (k:Int))=min k n:=by
 show(if(k:Int)<0 then((k:Int)+(n:Int)).toNat else min (k:Int).toNat n)=min k n;rw[if_neg (by omega),QU]
theorem Qun(n d:Nat)(hd:d<=n)(o:Option Int):sIx n d o<=n:=by
 cases o with
 |none=>exact hd
 |some v=>
  show(if v<0 then(v+(n:Int)).toNat else min v.toNat n)<=n;by_cases hv:v<0
  ·rw[if_pos hv];omega
  ·rw[if_neg hv];exact QtF _ _
theorem QmB(v:Int)(n d:Nat):(if v<0 then max (v+(n:Int)) 0 else min v (n:Int))=((sIx n d (some v):Nat):Int):=by
 show(if v<0 then max (v+(n:Int)) 0 else min v (n:Int))=(((if v<0 then(v+(n:Int)).toNat else min v.toNat n):Nat):Int);by_cases hv:v<0
 ·simp only[if_pos hv];omega
 ·simp only[if_neg hv];omega
theorem Qke(lo hi:Option Int)(n:Nat):Qat lo hi 1 (n:Int)=(((sIx n 0 lo:Nat):Int),((sIx n n hi:Nat):Int)):=by
 have h1:¬((1:Int)<0):=by omega
 unfold Qat;simp only[h1,if_false];refine Prod.ext ?_ ?_
 ·cases lo with
  |none=>rfl
  |some v=>exact QmB v n 0
 ·cases hi with
  |none=>rfl
  |some v=>exact QmB v n n
theorem QjN(i j:Nat):Yh (i:Int) (j:Int) 1=j - i:=by
 unfold Yh;have h1:(1:Int) > 0:=by omega
 simp only[h1,if_true,Int.ediv_one];split<;>omega
theorem QeI{v:Value}{o:Option Int}{Q:Option Int->Shared->Prop}(p:Qhi v o)(h:Q o s):wpAny (model prog w) A (Qw7 v) Q E s:=by
 cases p with
 |none=>exact slicePart_none h
 |int i t=>exact slicePart_int h
theorem Qbg{sl:Addr}{vl vu:Value}{lo hi:Option Int}{n:Nat}{Q:Int×Int×Nat->Shared->Prop}(hs:s.heap.IsSliceOf sl vl vu .none)(pl:Qhi vl lo)(pu:Qhi vu hi)
  (h:Q (((sIx n 0 lo:Nat):Int),1,sIx n n hi - sIx n 0 lo) s):wpAny (model prog w) A (Qde (.ref sl) (pure (n:Int))) Q E s:=by
 obtain⟨os,hos,hcs,hds⟩:=id hs;unfold Qde Qw8;refine Qa (Qa (Qck hos hds (x:=vl) rfl (Qa (Qck hos hds (x:=vu) rfl (Qa (Qck hos hds (x:=.none) rfl (wpAny_pure ?_)))))));refine Qa (slicePart_none ?_);show wpAny _ _ (if((1:Int) == 0)=true then _ else _) _ _ s;rw[if_neg (by decide)];refine Qa (QeI pl (Qa (QeI pu (Qa (wpAny_pure ?_)))));show wpAny _ _ (match Qat lo hi 1 (n:Int) with | (lo,hi)=>pure (lo,(1:Int),Yh lo hi 1)) _ _ s;rw[Qke lo hi n];show wpAny _ _ (pure (((sIx n 0 lo:Nat):Int),(1:Int),Yh ((sIx n 0 lo:Nat):Int) ((sIx n n hi:Nat):Int) 1)) _ _ s;rw[QjN];exact wpAny_pure h
theorem QnM(xs:Array Value)(i k:Nat):((Je k).filterMap λ(m:Nat)=>xs[((i:Int)+(m:Int)*1).toNat]?).toArray=((xs.toList.drop i).take k).toArray:=by
 have e:(λ(m:Nat)=>xs[((i:Int)+(m:Int)*1).toNat]?)=λm=>xs[i+m]? := by
  funext m
  have:((i:Int)+(m:Int)*1).toNat=i+m:=by omega
  rw[this]
 rw[e];have:=pick_run xs i k;rw[ZK] at this;have e2:((λx=>xs[x]?)∘λx=>i+x)=λm=>xs[i+m]? := rfl
 rw[e2] at this;rw[this]
theorem Qc7{t sl:Addr}{items:Array Value}{vl vu:Value}{lo hi:Option Int}{Q:Value->Shared->Prop}(ht:IsTup s.heap t items)(hs:s.heap.IsSliceOf sl vl vu .none)(pl:Qhi vl lo)(pu:Qhi vu hi)
  (hw:¬(sIx items.size 0 lo=0/\sIx items.size items.size hi=items.size))
  (h:Q (.ref s.heap.objs.size) { s with heap:=s.heap.push { cls:=.type "tuple",data:=.seq ((items.toList.drop (sIx items.size 0 lo)).take (sIx items.size items.size hi - sIx items.size 0 lo)).toArray } })
  (hsz:items.size<=sizeLine):wpAny (model prog w) A (getItem (.ref t) (.ref sl)) Q E s:=by
 have htake:sizeOk (.seq ((items.toList.drop (sIx items.size 0 lo)).take (sIx items.size items.size hi - sIx items.size 0 lo)).toArray):=by
  show((items.toList.drop (sIx items.size 0 lo)).take (sIx items.size items.size hi - sIx items.size 0 lo)).toArray.size<=sizeLine;rw[Qq,Zu,QaD,Qg];omega
 have hj:sIx items.size items.size hi<=items.size:=Qun _ _ (Qj _) hi;obtain⟨os,hos,hcs,hds⟩:=id hs;have hTs:s.TypeIs (.ref sl) "slice" := ⟨os,hos,hcs⟩;unfold getItem
 try with_reducible refine JJ ?_
 first | refine Qa (wpAny_pure ?_) | skip
 refine Qa (QwD ht.typeIs (by decide) ?_);refine Qa (Qaj (name:=Qez "__getitem__") ht.typeIs JP
  (Zd JP ht.typeIs QtM ?_ (Qwl _ _)))
 show wpAny _ _ (Qdd (.ref t) >>= _) _ _ s;refine Qa (tupleItemsOf_ ht ?_);refine Qa (Qdl hTs ?_);rw[if_pos (by decide)];refine Qa (Qbg hs pl pu ?_);have hno:¬((((sIx items.size 0 lo:Nat):Int) == 0&&(1:Int) == 1&&(sIx items.size items.size hi - sIx items.size 0 lo) == items.size)=true):=by
  intro q;rw[Jp,Jp] at q;have q1:((sIx items.size 0 lo:Nat):Int)=0:=eq_of_beq q.1.1;have q2:sIx items.size items.size hi - sIx items.size 0 lo=items.size:=eq_of_beq q.2;exact hw ⟨by omega,by omega⟩
 show wpAny _ _ (if(((sIx items.size 0 lo:Nat):Int) == 0&&(1:Int) == 1&&(sIx items.size items.size hi - sIx items.size 0 lo) == items.size)=true then _ else _) _ _ s;rw[if_neg hno,QnM]
 first
  |exact Qa (m:=Yq _) (JS (wpAny_pure ⟨_,rfl,wpAny_pure h⟩) htake)
  |exact Qa (m:=Yq _) (JS (Qa (wpAny_pure (wpAny_pure ⟨_,rfl,wpAny_pure h⟩))) htake)
  |exact Qa (Qa (m:=Yq _) (JS (wpAny_pure (wpAny_pure ⟨_,rfl,wpAny_pure h⟩)) htake))
  |exact Qa (Qa (m:=Yq _) (JS (wpAny_pure ⟨_,rfl,wpAny_pure h⟩) htake))
end
end HT
namespace L2
abbrev TO:=St->Hp->(Option Int->Hp->Prop)->Prop
def PO(X:Cx)(e:Option Q5)(t:TO):Prop:=
 ∀(pins:List (Addr×Obj))(s:Shared)(σ:St)(H:Hp)(Q:Option Int->Hp->Prop),Inv X pins σ H s->t σ H Q ->
  wpAny (model X.prog X.w) X.A (evalPart e X.env) (λu s'=>∃o H',Inv X pins σ H' s'/\Qhi u o/\Q o H') X.xe s
def Qrn:TO:=λ_ H Q=>Q none H
def Qxh(t:TE):TO:=λσ H Q=>t σ H λx H1=>∃i,x=.int i/\Q (some i) H1
theorem intsAre_of{ns:List Int}:∀{us:List Value},Vals (ns.map V.int) us->IntsAre us ns:=by
 induction ns with
 |nil=>intro us r;rw[QwX] at r;cases r;exact .nil
 |cons n ns ih=>
  intro us r;rw[Jh] at r;cases r with
  |cons r1 r2=>
   obtain⟨t,e⟩:=r1;subst e;exact .cons n t (ih r2)
section
variable{X:Cx}{e:Q5}{te:TE}{lo hi:Option Q5}{tl th:TO}{pos p2:Pos}
theorem QrU:PO X none Qrn:=by
 intro pins s σ H Q I h;rw[evalPart_none];exact wpAny_pure ⟨none,H,I,.none,h⟩
theorem QrT(h:PE X e te):PO X (some e) (Qxh te):=by
 intro pins s σ H Q I hw;rw[evalPart_some];refine thn (h pins s σ H _ I hw) λu s1 ⟨x,H1,I1,r1,q1⟩=>?_
 obtain⟨i,rfl,q⟩:=q1;obtain⟨t,rfl⟩:=r1;exact⟨some i,H1,I1,.int i t,q⟩
def SlR(X:Cx)(r:V->Option Int->Option Int->Hp->VK->Prop):Prop:=
 ∀(pins:List (Addr×Obj))(s:Shared)(σ:St)(H:Hp)(x:V)(v vl vu:Value)(lo hi:Option Int)(sl:Addr)(Q:VK),Inv X pins σ H s->RelV x v->s.heap.IsSliceOf sl vl vu .none->Qhi vl lo->Qhi vu hi->r x lo hi H Q ->
  ∃T id,typeLookup (.type T) "__getitem__" = pure (some (.builtin id))/\s.TypeIs v T/\wpAny (model X.prog X.w) X.A (getItem v (.ref sl)) (EP X pins σ Q) X.xe s
def tSl(r:V->Option Int->Option Int->Hp->VK->Prop)(te:TE)(tl th:TO):TE:=λσ H Q=>te σ H λx H1=>tl σ H1 λl H2=>th σ H2 λu H3=>r x l u H3 Q
theorem QnN{r:V->Option Int->Option Int->Hp->VK->Prop}(hr:SlR X r)(he:PE X e te)(hl:PO X lo tl)(hu:PO X hi th):PE X (.Subscript e (.Slice lo hi none p2) pos) (tSl r te tl th):=by
 intro pins s σ H Q I h;refine Subscript_ (thn (he pins s σ H _ I h) λv s1 ⟨x,H1,I1,r1,q1⟩=>?_);refine wpAny_Slice (thn (hl pins s1 σ H1 _ I1 q1) λvl s2 ⟨l,H2,I2,pl,q2⟩=>thn (hu pins s2 σ H2 _ I2 q2) λvu s3 ⟨u,H3,I3,pu,q3⟩=>?_);rw[evalPart_none];refine wpAny_pure ?_
 have I4:Inv X pins σ H3 { s3 with heap:=s3.heap.push { cls:=.type "slice",data:=.fields #[vl,vu,.none] } }:=I3.kept (t':=s3.toks) λb ob q=>Qm _ q
 obtain⟨T,id,hT,ht,hg⟩:=hr pins { s3 with heap:=s3.heap.push { cls:=.type "slice",data:=.fields #[vl,vu,.none] } } σ H3 x v vl vu l u s3.heap.objs.size Q I4 r1 (Qws ..) pl pu q3;show wpAny (model X.prog X.w) X.A (subscriptTail e (.Slice lo hi none p2) v (.ref s3.heap.objs.size)) (EP X pins σ Q) X.xe { s3 with heap:=s3.heap.push { cls:=.type "slice",data:=.fields #[vl,vu,.none] } };exact tail_any (ops:=[.ref s3.heap.objs.size,v]) ht hT hg (by with_unfolding_all rfl)
def Qje(xs:List V)(lo hi:Option Int):List V:=(xs.drop (HT.sIx xs.length 0 lo)).take (HT.sIx xs.length xs.length hi - HT.sIx xs.length 0 lo)
theorem Qek(xs:List V)(lo hi:Option Int):(Qje xs lo hi).length<=xs.length:=by
 unfold Qje;rw[Zu,QaD];omega
def Qzi(K:PySem.W.Frag):V->Option Int->Option Int->Hp->VK->Prop:=λx lo hi H Q=>∃a xs,x=.ref a/\SqT K H a xs /\
 ¬(HT.sIx xs.length 0 lo=0/\HT.sIx xs.length xs.length hi=xs.length)/\∀p,H p=none->Q (.ref p) (upd H p (.tup (Qje xs lo hi)))
theorem Qui:SlR X (Qzi X.K):=by
 intro pins s σ H x v vl vu lo hi sl Q I rx hs pl pu h;obtain⟨a,xs,rfl,hx,hw,q⟩:=h;cases rx;obtain⟨its,r,ht,hz⟩:=I.tuple hx;have hlen:its.toArray.size=xs.length:=by rw[Qq];exact r.length.symm
 refine⟨"tuple",_,JP.lookup,ht.typeIs,?_⟩;refine HT.Qc7 ht hs pl pu (by rw[hlen];exact hw) ?_ (by rw[hlen];exact hz)
 rw[hlen];refine⟨.ref s.heap.objs.size,_,I.laid (t':=s.toks) (o:=.tup (Qje xs lo hi)) (λb ob q=>Qm _ q) (Qj _) ?_,rfl,q _ (I.hok.fresh (Qj _))⟩;exact⟨Jd (Qek xs lo hi) hz,_,(r.drop (HT.sIx xs.length 0 lo)).take (HT.sIx xs.length xs.length hi - HT.sIx xs.length 0 lo),TupN.new _ _⟩
def Qxu(K:PySem.W.Frag):R2:=λx y H Q=>∃a b xs ys,x=.ref a/\y=.ref b/\SqT K H a xs/\SqT K H b ys/\xs≠[]/\xs.length+ys.length<=sizeLine /\
 (ys=[]->Q (.ref a) H)/\(ys≠[]->∀p,H p=none->Q (.ref p) (upd H p (.tup (xs++ys))))
theorem Vals.nil_iff{xs:List V}{us:List Value}(r:Vals xs us):us=[]↔xs=[]:=by
 cases r with
 |nil=>simp
 |cons _ _=>simp
theorem Qsv:OpR X (binaryOp .Add) (Qxu X.K):=by
 intro pins s σ H x y v u Q I rx ry h;obtain⟨a,b,xs,ys,rfl,rfl,ha,hb,hx,hz,q1,q2⟩:=h;cases rx;cases ry;obtain⟨its,r1,p1,_⟩:=I.tuple ha;obtain⟨its2,r2,p2,_⟩:=I.tuple hb;refine HT.Qtq p1 p2 (λz=>hx (r1.nil_iff.mp z)) (λz=>⟨.ref a,H,I,rfl,q1 (r2.nil_iff.mp z)⟩) (λz=>?_) (by rw[<- r1.length,<- r2.length];exact hz);refine⟨.ref s.heap.objs.size,_,I.laid (t':=s.toks) (o:=.tup (xs++ys)) (λb ob q=>Qm _ q) (Qj _) ?_,rfl,q2 (λw=>z (r2.nil_iff.mpr w)) _ (I.hok.fresh (Qj _))⟩;exact⟨by rw[Qo];exact hz,_,r1.append r2,TupN.new _ _⟩
end
def ixN(n:Nat)(i:Int):Option Nat:=if 0<=i then(if i<n then some i.toNat else none) else if -(n:Int)<=i then some (i+n).toNat else none
def atI{α:Type}(xs:List α)(i:Int):Option α:=(ixN xs.length i).bind λj=>xs[j]?
theorem Ql3{n:Nat}{i:Int}{j:Nat}(h:ixN n i=some j):seqIndex? i n=some j/\j<n /\ -(n:Int)<=i/\i<n:=by
 unfold ixN at h;by_cases h0:0<=i
 ·rw[if_pos h0] at h;by_cases h1:i<n
  ·rw[if_pos h1] at h;have e:i.toNat=j:=Qs h;exact⟨by rw[Qjq h0 h1,e],by omega,by omega,h1⟩
  ·rw[if_neg h1] at h;cases h
 ·rw[if_neg h0] at h;by_cases h1 : -(n:Int)<=i
  ·rw[if_pos h1] at h;have e:(i+n).toNat=j:=Qs h;exact⟨by rw[Qhc (by omega) h1,e],by omega,h1,by omega⟩
  ·rw[if_neg h1] at h;cases h
theorem Qij{α:Type}{xs:List α}{i:Int}{v:α}(h:atI xs i=some v):∃j,seqIndex? i xs.length=some j/\xs[j]? = some v/\j<xs.length /\ -(xs.length:Int)<=i/\i<xs.length:=by
 unfold atI at h;cases e:ixN xs.length i with
 |none=>rw[e] at h;cases h
 |some j=>
  rw[e] at h;obtain⟨h1,h2,h3,h4⟩:=Ql3 e;exact⟨j,h1,h,h2,h3,h4⟩
theorem Jv{α:Type}{xs:List α}{j:Nat}{v:α}(h:xs[j]? = some v):atI xs (j:Int)=some v:=by
 have hj:j<xs.length:=(QQ.mp h).1;have e:ixN xs.length (j:Int)=some j:=by
  unfold ixN;rw[if_pos (by omega),if_pos (by omega)];simp
 unfold atI;rw[e];exact h
theorem QoX{α:Type}(xs:List α)(v:α):atI (xs++[v]) (-1)=some v:=by
 have hl:(xs++[v]).length=xs.length+1:=by simp
 have e:ixN (xs++[v]).length (-1)=some xs.length:=by
  unfold ixN;rw[hl,if_neg (by decide),if_pos (by omega)]
  congr 1
  omega
 unfold atI;rw[e];show(xs++[v])[xs.length]? = some v;simp
def Qin(b:Q5):Prop:=∀o i,subscripted b false o i=operate [o,i] (getItem o i)
def IxR(X:Cx)(r:R2):Prop:=
 ∀(value slice:Q5)(pins:List (Addr×Obj))(s:Shared)(σ:St)(H:Hp)(x y:V)(v u:Value)(Q:VK),Inv X pins σ H s->RelV x v->RelV y u->r x y H Q ->
  subscripted slice false v u=operate [v,u] (getItem v u)->wpAny (model X.prog X.w) X.A (subscriptTail value slice v u) (EP X pins σ Q) X.xe s
def MtR(X:Cx)(id:String)(r:V->List V->Hp->VK->Prop):Prop:=
 ∀(pins:List (Addr×Obj))(s:Shared)(σ:St)(H:Hp)(x:V)(xs:List V)(v:Value)(us:List Value)(Q:VK),Inv X pins σ H s->RelV x v->Vals xs us->r x xs H Q ->
  wpAny (model X.prog X.w) X.A (call (.builtin id) (v::us)) (EP X pins σ Q) X.xe s
section
variable{X:Cx}{a b:Q5}{ta tb:TE}{pos:Pos}
theorem Qlr{r:R2}(hr:IxR X r)(ha:PE X a ta)(hb:PE X b tb)(hs:Qin b):PE X (.Subscript a b pos) (tOp r ta tb):=by
 intro pins s σ H Q I h;exact Subscript_ (Qyj ha hb I h λv u s2 x y H2 I2 rx ry q=>hr a b pins s2 σ H2 x y v u Q I2 rx ry q (hs _ _))
def Qwu(K:PySem.W.Frag):R2:=λx y H Q=>∃p xs i v,x=.ref p/\y=.int i/\SqL K H p xs/\atI xs i=some v/\Q v H
def QyC(K:PySem.W.Frag):R2:=λx y H Q=>∃p xs i v,x=.ref p/\y=.int i/\SqT K H p xs/\atI xs i=some v/\Q v H
theorem QfJ:IxR X (Qwu X.K):=by
 intro value slice pins s σ H x y v u Q I rx ry h hs;obtain⟨p,xs,i,z,rfl,rfl,hq,he,q⟩:=h;cases rx;obtain⟨t,rfl⟩:=ry;obtain⟨its,r,pl,hz⟩:=I.list hq;obtain⟨j,h1,h2,h3,h4,h5⟩:=Qij he;obtain⟨w,ew,rw'⟩:=r.get h2;have hl:=r.length;have hn:=QeX;have fin:EP X pins σ Q w s:=⟨z,H,I,rw',q⟩;by_cases h0:0<=i
 ·have hj:i.toNat=j:=by
   rw[Qjq h0 h5] at h1;exact Qs h1
  exact item_listR pl.isList h0 (by omega) (by rw[hj];simpa using ew) fin hs
 ·have hj:(i+(its.toArray.size:Int)).toNat=j:=by
   rw[Qhc (by omega) h4] at h1;rw[Qq,<- hl];exact Qs h1
  exact Qo2 (x:=w) pl.isList.typeIs QwJ.lookup
   (Qo1 (Q:=λr s'=>r=w/\EP X pins σ Q r s') pl.isList (by omega) (by rw[Qq]<;>omega) (by omega) (by rw[hj];simpa using ew) ⟨rfl,fin⟩) hs
theorem QpC:IxR X (QyC X.K):=by
 intro value slice pins s σ H x y v u Q I rx ry h hs;obtain⟨p,xs,i,z,rfl,rfl,hq,he,q⟩:=h;cases rx;obtain⟨t,rfl⟩:=ry;obtain⟨its,r,pl,hz⟩:=I.tuple hq;obtain⟨j,h1,h2,h3,h4,h5⟩:=Qij he;obtain⟨w,ew,rw'⟩:=r.get h2;have hl:=r.length;have hn:=QeX;have fin:EP X pins σ Q w s:=⟨z,H,I,rw',q⟩;exact Qo2 (x:=w) pl.typeIs slot_tuple_getitem.lookup
  (getItem_tuple (j:=j) (Q:=λr s'=>r=w/\EP X pins σ Q r s') pl (by omega) (by omega) (by rw[Qq,<- hl];exact h1) (by simpa using ew) ⟨rfl,fin⟩) hs
theorem Qj0(its:List Value)(n j:Nat)(u:Value):Zg (·.setIfInBounds j u) { cls:=.type "list",data:=.seq its.toArray n }={ cls:=.type "list",data:=.seq (its.set j u).toArray n }:=by
 simp[Zg]
theorem Inv.lst{pins:List (Addr×Obj)}{σ:St}{H:Hp}{s:Shared}{p:Addr}{xs:List V}(I:Inv X pins σ H s)(h:H p=some (.lst xs)) :
  ∃(its:List Value)(n:Nat),Vals xs its/\s.heap.get? p=some { cls:=.type "list",data:=.seq its.toArray n }/\xs.length<=sizeLine:=by
 obtain⟨z,its,n,r,e⟩:=I.hok p _ h;exact⟨its,n,r,e,z⟩
theorem Inv.lstUpd{pins:List (Addr×Obj)}{σ:St}{H:Hp}{s:Shared}{p:Addr}{xs ys:List V}{its its':List Value}{n n':Nat}{f:Obj->Obj}(I:Inv X pins σ H s)(h:H p=some (.lst xs))
  (ho:s.heap.get? p=some { cls:=.type "list",data:=.seq its.toArray n })(hf:f { cls:=.type "list",data:=.seq its.toArray n }={ cls:=.type "list",data:=.seq its'.toArray n' })(r:Vals ys its')(hz:ys.length<=sizeLine)(t:Nat) :
  Inv X pins σ (upd H p (.lst ys)) { s with heap:=s.heap.update p f,toks:=t }:=by
 have e:(s.heap.update p f).get? p=some { cls:=.type "list",data:=.seq its'.toArray n' }:=by
  rw[JY f ho (by rw[hf]<;>rfl),hf]
 refine I.write (x:=p) (e:=p) (by rw[h];trivial) (.inl rfl) (λb u hb q=>(Za _ _ (QaZ hb)).trans q) ⟨_,e⟩ ?_
 exact⟨hz,its',n',r,e⟩
def Quu:V->V->V->Hp->(Hp->Prop)->Prop:=λo i v H Q=>∃p xs k j,o=.ref p/\i=.int k/\H p=some (.lst xs)/\ixN xs.length k=some j/\Q (upd H p (.lst (xs.set j v)))
theorem QiC:Qyo X Quu:=by
 intro pins s σ H o i v ov iv u Q I ro ri rv h;obtain⟨p,xs,k,j,rfl,rfl,hp,hj,q⟩:=h;cases ro;obtain⟨t,rfl⟩:=ri;obtain⟨its,n,r,ho,hz⟩:=I.lst hp;obtain⟨h1,h2,h3,h4⟩:=Ql3 hj;have hl:=r.length;have hn:=QeX;have I':Inv X pins σ (upd H p (.lst (xs.set j v))) { s with heap:=s.heap.update p (Zg (·.setIfInBounds j u)) }:=
  I.lstUpd hp ho (Qj0 its n j u) (r.set rv j) (by rw[ZW];exact hz) s.toks
 by_cases h0:0<=k
 ·have hk:k.toNat=j:=by
   rw[Qjq h0 h4] at h1;exact Qs h1
  exact PySem.W.ki_setAt ho h0 (by omega) (by rw[Qq,<- hl];exact h4) (by rw[hk];exact⟨_,I',q⟩)
 ·have hk:(k+(its.toArray.size:Int)).toNat=j:=by
   rw[Qhc (by omega) h3] at h1;rw[Qq,<- hl];exact Qs h1
  exact PySem.W.ki_setBack ho (by omega) (by rw[Qq,<- hl];exact h3) (by omega) (by rw[hk];exact⟨_,I',q⟩)
theorem Qgp(lo hi:Option Int)(n:Nat):(sliceBounds lo hi none n).1=((HT.sIx n 0 lo:Nat):Int)/\(sliceBounds lo hi none n).2.1=((HT.sIx n n hi:Nat):Int)/\(sliceBounds lo hi none n).2.2=1:=by
 refine⟨?_,?_,rfl⟩
 ·cases lo with
  |none=>simp[sliceBounds,HT.sIx]
  |some i=>
   simp only[sliceBounds,HT.sIx,Qng,show(1:Int) > 0 by decide,if_true];by_cases h:i<0
   ·simp only[h,if_true]<;>omega
   ·simp only[h,if_false]<;>omega
 ·cases hi with
  |none=>simp[sliceBounds,HT.sIx]
  |some i=>
   simp only[sliceBounds,HT.sIx,Qng,show(1:Int) > 0 by decide,if_true];by_cases h:i<0
   ·simp only[h,if_true]<;>omega
   ·simp only[h,if_false]<;>omega
theorem Qfq(its:List Value)(lo hi:Option Int):slicePick its.toArray lo hi none=((its.drop (HT.sIx its.length 0 lo)).take (HT.sIx its.length its.length hi - HT.sIx its.length 0 lo)).toArray:=by
 obtain⟨h1,h2,h3⟩:=Qgp lo hi its.toArray.size;unfold slicePick;rw[h1,h2,h3];simp only[sliceRange_one,pick_run,Qq]<;>rfl
def Qzj(K:PySem.W.Frag):V->Option Int->Option Int->Hp->VK->Prop:=λx lo hi H Q=>∃a xs,x=.ref a/\SqL K H a xs/\∀p,H p=none->Q (.ref p) (upd H p (.lst (Qje xs lo hi)))
theorem Qrs:SlR X (Qzj X.K):=by
 intro pins s σ H x v vl vu lo hi sl Q I rx hs pl pu h;obtain⟨a,xs,rfl,hx,q⟩:=h;cases rx;obtain⟨its,r,ht,hz⟩:=I.list hx;have hlen:=r.length;refine⟨"list",_,QwJ.lookup,ht.isList.typeIs,?_⟩;refine wpAny_getItem_list_slice ht.isList hs pl pu .none (by simp) ?_ (by rw[Qq]<;>omega)
 rw[Qfq,<- hlen];refine⟨.ref s.heap.objs.size,_,I.laid (t':=s.toks) (o:=.lst (Qje xs lo hi)) (λb ob q=>Qm _ q) (Qj _) ?_,rfl,q _ (I.hok.fresh (Qj _))⟩;exact⟨Jd (Qek xs lo hi) hz,_,0,(r.drop (HT.sIx xs.length 0 lo)).take (HT.sIx xs.length xs.length hi - HT.sIx xs.length 0 lo),Qz _ rfl⟩
def QfM:V->Bool
 |.non=>true
 |.bl _=>true
 |.int _=>true
 |.str _=>true
 |_=>false
def eqV:V->V->Bool
 |.non,.non=>true
 |.bl a,.bl b=>a == b
 |.bl a,.int b=>(if a then 1 else 0) == b
 |.int a,.bl b=>a == (if b then 1 else 0)
 |.int a,.int b=>a == b
 |.str a,.str b=>a == b
 |_,_=>false
theorem QvM{A:Q3}{s:Shared}{y x:V}{u v:Value}(ry:RelV y u)(rx:RelV x v)(fy:QfM y=true)(fx:QfM x=true):Qne A s u v (eqV y x):=by
 cases y with
 |non=>
  cases ry;cases x with
  |non=>cases rx;exact SeqAt.EqAt.same _
  |bl b=>cases rx;exact SeqAt.EqAt.none_bool b
  |int b=>obtain⟨t,rfl⟩:=rx;exact SeqAt.EqAt.none_int b t
  |str b=>obtain⟨t,rfl⟩:=rx;exact SeqAt.EqAt.none_str b t
  |_=>exact absurd (show false=true from fx) Qp
 |bl a=>
  cases ry;cases x with
  |non=>cases rx;exact SeqAt.EqAt.bool_none a
  |bl b=>cases rx;exact SeqAt.EqAt.bool_bool a b
  |int b=>obtain⟨t,rfl⟩:=rx;exact SeqAt.EqAt.bool_int a b t
  |str b=>obtain⟨t,rfl⟩:=rx;exact SeqAt.EqAt.bool_str a b t
  |_=>exact absurd (show false=true from fx) Qp
 |int a=>
  obtain⟨t',rfl⟩:=ry;cases x with
  |non=>cases rx;exact SeqAt.EqAt.int_none a t'
  |bl b=>cases rx;exact SeqAt.EqAt.int_bool a t' b
  |int b=>obtain⟨t,rfl⟩:=rx;exact SeqAt.EqAt.int_int a t' b t
  |str b=>obtain⟨t,rfl⟩:=rx;exact Qhr a t' b t
  |_=>exact absurd (show false=true from fx) Qp
 |str a=>
  obtain⟨t',rfl⟩:=ry;cases x with
  |non=>cases rx;exact SeqAt.EqAt.str_none a t'
  |bl b=>cases rx;exact SeqAt.EqAt.str_bool a t' b
  |int b=>obtain⟨t,rfl⟩:=rx;exact Qhq a t' b t
  |str b=>obtain⟨t,rfl⟩:=rx;exact SeqAt.EqAt.str_str a t' b t
  |_=>exact absurd (show false=true from fx) Qp
 |_=>exact absurd (show false=true from fy) Qp
def eqU(x:V)(u:Value):Bool:=match u with
 |.none=>eqV .non x
 |.bool b=>eqV (.bl b) x
 |.int i _=>eqV (.int i) x
 |.str z _=>eqV (.str z) x
 |_=>false
theorem QpI{x y:V}{u:Value}(r:RelV y u)(f:QfM y=true):eqU x u=eqV y x:=by
 cases y with
 |non=>cases r;rfl
 |bl b=>cases r;rfl
 |int i=>obtain⟨t,rfl⟩:=r;rfl
 |str z=>obtain⟨t,rfl⟩:=r;rfl
 |_=>exact absurd (show false=true from f) Qp
theorem Qim{x:V}:∀{xs:List V}{us:List Value},Vals xs us->xs.all QfM=true->us.any (eqU x)=xs.any λy=>eqV y x
 |_,_,.nil,_=>rfl
 |y::xs,u::us,.cons r t,f=>by
  rw[QbG,Jp] at f;rw[QdB,QdB,QpI r f.1,Qim t f.2]
theorem QfG{A:Q3}{s:Shared}{x:V}{v:Value}(rx:RelV x v)(fx:QfM x=true):∀{xs:List V}{us:List Value},Vals xs us->xs.all QfM=true->∀u∈us,Qne A s u v (eqU x u)
 |_,_,.nil,_=>λu hu=>by cases hu
 |y::xs,u::us,.cons r t,f=>λu' hu=>by
  rw[QbG,Jp] at f;rcases Qy.mp hu with rfl | hu
  ·rw[QpI r f.1];exact QvM r rx f.1 fx
  ·exact QfG rx fx t f.2 u' hu
def inV(x:V)(xs:List V):Bool:=xs.any λy=>eqV y x
def rIn(K:PySem.W.Frag)(neg:Bool):R2:=λx y H Q=>∃p xs,y=.ref p/\(SqL K H p xs∨SqT K H p xs)/\QfM x=true/\xs.all QfM=true/\Q (.bl (if neg then !inV x xs else inV x xs)) H
theorem QgB:OpR X (compareOp .NotIn) (rIn X.K true):=by
 intro pins s σ H x y v u Q I rx ry h;obtain⟨p,xs,rfl,hq,fx,fs,q⟩:=h;cases ry;rcases hq with hq | hq
 ·obtain⟨its,r,pl,hz⟩:=I.list hq;refine Qm1 (eqU x) pl.isList (λw hw=>QfG rx fx r fs w (by simpa using hw)) ⟨.bl _,H,I,rfl,?_⟩;rw[show its.toArray.any (eqU x)=its.any (eqU x) by simp,Qim r fs];exact q
 ·obtain⟨its,r,pl,hz⟩:=I.tuple hq;refine Qkp (eqU x) pl (λw hw=>QfG rx fx r fs w (by simpa using hw)) ⟨.bl _,H,I,rfl,?_⟩;rw[show its.toArray.any (eqU x)=its.any (eqU x) by simp,Qim r fs];exact q
theorem QbD:CallR X (.builtin "len") (λxs H Q=>∃p ys,xs=[.ref p]/\(SqL X.K H p ys∨SqT X.K H p ys)/\Q (.int ys.length) H):=by
 intro pins s σ H xs us Q I r h;obtain⟨p,ys,rfl,hq,q⟩:=h;obtain⟨u,rfl,rx⟩:=vals1 r;cases rx;have hn:=QeX;rcases hq with hq | hq
 ·obtain⟨its,r',pl,hz⟩:=I.list hq;have hlen:=r'.length;exact Calls.call_len_list pl.isList (by simp only[Qq]<;>omega) ⟨.int ys.length,H,I.tok _,⟨s.toks+1,by rw[Qq,hlen]⟩,q⟩
 ·obtain⟨its,r',pl,hz⟩:=I.tuple hq;have hlen:=r'.length;exact len_tuple pl (by simp only[Qq]<;>omega) ⟨.int ys.length,H,I.tok _,⟨s.toks+1,by rw[Qq,hlen]⟩,q⟩
theorem Qg3:CallR X (.type "list") (λxs H Q=>∃p ys,xs=[.ref p]/\(SqL X.K H p ys∨SqT X.K H p ys)/\∀l,H l=none->Q (.ref l) (upd H l (.lst ys))):=by
 intro pins s σ H xs us Q I r h;obtain⟨p,ys,rfl,hq,q⟩:=h;obtain⟨u,rfl,rx⟩:=vals1 r;cases rx;have fin:∀(its:List Value),Vals ys its->ys.length<=sizeLine->∀(h':Heap)(c':Nat),(∀b o',s.heap.get? b=some o'->h'.get? b=some o') ->
   h'.get? s.heap.objs.size=some { cls:=.type "list",dict:=none,data:=.seq its.toArray c',slots:=#[] }->EP X pins σ Q (.ref s.heap.objs.size) { s with heap:=h' }:=λits r' hz h' c' kp e=>
  ⟨.ref s.heap.objs.size,_,I.laid (t':=s.toks) kp (Qj _) (show ObjOk X.prog X.w _ h' _ (.lst ys) from⟨hz,its,c',r',e⟩),rfl,q _ (I.hok.fresh (Qj _))⟩
 rcases hq with hq | hq
 ·obtain⟨its,r',pl,hz⟩:=I.list hq;have hlen:=r'.length;obtain⟨o,ho,hc,n,hd⟩:=pl.isList;exact call_list_seq p (.inl rfl) ho hc hd (λh' c' kp e=>fin its r' hz h' c' kp e) (by simp only[Qq]<;>omega)
 ·obtain⟨its,r',pl,hz⟩:=I.tuple hq;have hlen:=r'.length;obtain⟨o,ho,hc,n,hd⟩:=pl;exact call_list_seq p (.inr rfl) ho hc hd (λh' c' kp e=>fin its r' hz h' c' kp e) (by simp only[Qq]<;>omega)
theorem QcG:CallR X (.type "tuple") (λxs H Q=>∃p ys,xs=[.ref p]/\((SqL X.K H p ys/\∀l,H l=none->Q (.ref l) (upd H l (.tup ys)))∨(SqT X.K H p ys/\Q (.ref p) H))):=by
 intro pins s σ H xs us Q I r h;obtain⟨p,ys,rfl,h⟩:=h;obtain⟨u,rfl,rx⟩:=vals1 r;cases rx;rcases h with⟨hq,q⟩ | ⟨hq,q⟩
 ·obtain⟨its,r',pl,hz⟩:=I.list hq;have hlen:=r'.length;refine call_tuple_list pl.isList (λh' kp=>?_) (by simp only[Qq]<;>omega);have I1:Inv X pins σ H { s with heap:=h' }:=I.kept (t':=s.toks) kp;have I2:Inv X pins σ (upd H h'.objs.size (.tup ys)) { s with heap:=h'.push { cls:=.type "tuple",data:=.seq its.toArray } }:=
   I1.laid (t':=s.toks) (λb o e=>Qm _ e) (Qj _) (show ObjOk X.prog X.w _ _ _ (.tup ys) from⟨hz,its,r',TupN.new _ _⟩)
  exact⟨.ref h'.objs.size,_,I2,rfl,q _ (I1.hok.fresh (Qj _))⟩
 ·obtain⟨its,r',pl,hz⟩:=I.tuple hq;exact call_tuple_same pl ⟨.ref p,H,I,rfl,q⟩
def tyV(K:PySem.W.Frag)(T:String)(x:V)(H:Hp):Prop:=match x with
 |.str _=>T = "str"
 |.int _=>T = "int"
 |.ref p=>(T = "list" /\ ∃xs,SqL K H p xs)∨(T = "tuple" /\ ∃o,K.lookup p=some o/\o.cls=.type "tuple" /\ o.dict=none) ∨
   (T = "dict" /\ ((∃kvs,H p=some (.dK kvs))∨∃kvs,H p=some (.dT kvs)))∨(T = "set" /\ ∃S n,H p=some (.set S n))
 |_=>False
theorem QtY{pins:List (Addr×Obj)}{σ:St}{H:Hp}{s:Shared}{T:String}{x:V}{v:Value}(I:Inv X pins σ H s)(r:RelV x v)(ty:tyV X.K T x H) :
  s.TypeIs v T/\∀a,v=.ref a->∃ob,s.heap.get? a=some ob/\ob.dict=none:=by
 cases x with
 |str z=>
  obtain⟨t,rfl⟩:=r;cases(show T = "str" from ty);exact⟨typeIs_str s z t,λ_ e=>nomatch e⟩
 |int i=>
  obtain⟨t,rfl⟩:=r;cases(show T = "int" from ty);exact⟨QwI s i t,λ_ e=>nomatch e⟩
 |ref p=>
  cases r;rcases ty with⟨rfl,xs,hq⟩ | ⟨rfl,o,hk,hc,hd⟩ | ⟨rfl,hk⟩ | ⟨rfl,S,n,hk⟩
  ·obtain⟨its,_,pl,_⟩:=I.list hq;refine⟨pl.isList.typeIs,λa e=>?_⟩;cases e;obtain⟨o,n,e,c,hd,_⟩:=pl;exact⟨o,e,hd⟩
  ·refine⟨⟨o,I.kIn p o hk,hc⟩,λa e=>?_⟩;cases e;exact⟨o,I.kIn _ o hk,hd⟩
  ·have z:∃o,s.heap.get? p=some o/\o.ExactDict:=by
    rcases hk with⟨kvs,hk⟩ | ⟨kvs,hk⟩
    ·obtain⟨_,_,_,_,o,_,_,e,ex,_⟩:=I.hok p _ hk;exact⟨o,e,ex⟩
    ·obtain⟨_,_,_,_,o,_,_,e,ex,_⟩:=I.hok p _ hk;exact⟨o,e,ex⟩
   obtain⟨o,e,ex⟩:=z;refine⟨⟨o,e,ex.1⟩,λa e2=>?_⟩;cases e2;exact⟨o,e,ex.2.1⟩
  ·obtain⟨o,_,_,_,e,ex,_⟩:=I.hok p _ hk;refine⟨⟨o,e,ex.1⟩,λa e2=>?_⟩;cases e2;exact⟨o,e,ex.2.1⟩
 |_=>exact Zp ty
def tBM(K:PySem.W.Frag)(T:String)(r:V->List V->Hp->VK->Prop)(to:TE)(t:TA):TE:=λσ H Q=>to σ H λx H1=>tyV K T x H1/\t σ H1 λxs H2=>r x xs H2 Q
variable{o e:Q5}{es:List Q5}{to:TE}{t:TA}{name:Str}{apos cpos:Pos}{T id:String}{r:V->List V->Hp->VK->Prop}
theorem QuQ(pa:PlainAttrs T)(slot:Slot T name id)(hty:typeOf (.builtin id)=pure (.type "method_descriptor"))(hm:MtR X id r)(ho:PE X o to)(ha:PA X (e::es) t)
  (hbase:attributeBase o name X.env (eval o X.env)=eval o X.env:=by rfl)
  (hfew:((backTo cpos (starEach (e::es) X.env)).all (λx => !x.1)&&(backToKw cpos (keywordEach [] X.env)).all (λx=>x.1.isSome)
   && decide ((e::es).length+([]:List Qjw).length+(if([]:List Qjw).isEmpty then 0 else 1)<30))=true:=by rfl)
  (hline:(apos.endLine == cpos.line)=true:=by rfl) (hs:starEach (e::es) X.env=(false,eval e X.env)::starEach es X.env:=by rfl) (hplain:(backTo cpos (starEach es X.env)).any (·.1)=false:=by rfl) :
  PE X (.Call (.Attribute o name apos) (e::es) [] cpos) (tBM X.K T r to t):=by
 intro pins s σ H Q I h;refine wpAny_Call_method_late hbase hfew hline rfl (thn (ho pins s σ H _ I h) λv s1 ⟨x,H1,I1,r1,ty,q1⟩=>?_);obtain⟨h1,h2⟩:=QtY I1 r1 ty;refine⟨T,id,pa,slot,hty,h1,h2,?_⟩;have hA:=ha cpos pins s1 σ H1 _ I1 q1;rw[hs] at hA ⊢;refine Calls.callWith_builtin (by show(false||(backTo cpos (starEach es X.env)).any (·.1))=false;rw[hplain]<;>rfl) (Calls.evalArgs_plain ?_);exact thn hA λus s2 ⟨vs,H2,I2,r2,q2⟩=>hm pins s2 σ H2 x vs v us Q I2 r1 r2 q2
end
def MtM(X:Cx)(id:String)(r:V->List V->Hp->VK->Prop):Prop:=
 ∀(pins:List (Addr×Obj))(s:Shared)(σ:St)(H:Hp)(x:V)(xs:List V)(v:Value)(us:List Value)(Q:VK),Inv X pins σ H s->RelV x v->Vals xs us->r x xs H Q ->
  wpAny (model X.prog X.w) X.A (call (.builtin id) (v::us)) (EP X pins σ Q) X.xe s
theorem Vals.one:∀{x:V}{us:List Value},Vals [x] us->∃u,us=[u]/\RelV x u
 |_,_,.cons r .nil=>⟨_,rfl,r⟩
theorem Vals.zero:∀{us:List Value},Vals [] us->us=[]
 |_,.nil=>rfl
theorem Vals.reverse{xs:List V}{us:List Value}(h:Vals xs us):Vals xs.reverse us.reverse:=by
 induction h with
 |nil=>exact .nil
 |cons r t ih=>rw[Qo5,Qo5];exact Vals.append ih (.cons r .nil)
theorem Vals.rep{xs:List V}{us:List Value}(h:Vals xs us):∀k:Nat,Vals (Jb k xs).flatten (Jb k us).flatten
 |0=>.nil
 |k+1=>by
  rw[Ze,Ze,ZX,ZX];exact Vals.append h (Vals.rep h k)
theorem foldl_rep(its:List Value):∀(k:Nat)(acc:List Value),
  Qo7 (λx1 x2=>x1++x2) acc.toArray (Jb k its.toArray)=(acc++(Jb k its).flatten).toArray
 |0,acc=>by simp
 |k+1,acc=>by
  have e:acc.toArray++its.toArray=(acc++its).toArray:=by simp
  have e2:(acc++its)++(Jb k its).flatten=acc++(Jb (k+1) its).flatten:=by
   rw[Ze,ZX,QJ]
  rw[<- e2,<- foldl_rep its k (acc++its),<- e,Ze,Qce]
section
variable{X:Cx}{pins:List (Addr×Obj)}{σ:St}{H:Hp}{s:Shared}{l b:Addr}{xs ys zs:List V}
theorem Inv.lset{its its':List Value}{n:Nat}{f:Array Value->Array Value}{t':Nat}(I:Inv X pins σ H s)(hH:H l=some (.lst xs))
  (e:s.heap.get? l=some { cls:=.type "list",data:=.seq its.toArray n })(hf:f its.toArray=its'.toArray)(hv:Vals ys its')(hz:ys.length<=sizeLine) :
  Inv X pins σ (upd H l (.lst ys)) { s with heap:=s.heap.update l (Zg f),toks:=t' }:=by
 have q:=PySem.IsL.update e f;rw[hf] at q;refine I.write (x:=l) (e:=l) (by rw[hH];exact trivial) (.inl rfl) (λb' u hb hu=>(Za s.heap (Zg f) (QaZ hb)).trans hu) ⟨_,q⟩ ?_
 exact⟨hz,its',_,hv,q⟩
theorem Inv.lnew{its:List Value}{t':Nat}(I:Inv X pins σ H s)(hv:Vals ys its)(hz:ys.length<=sizeLine) :
  Inv X pins σ (upd H s.heap.objs.size (.lst ys)) { s with heap:=s.heap.push { cls:=.type "list",data:=.seq its.toArray },toks:=t' }:=
 I.laid (λ_ _ q=>Qm _ q) (Qj _) ⟨hz,its,0,hv,Qz _ rfl⟩
theorem Inv.fresh(I:Inv X pins σ H s):H s.heap.objs.size=none:=I.hok.fresh (Qj _)
theorem Inv.lstM(I:Inv X pins σ H s)(hH:H l=some (.lst xs)):xs.length<=sizeLine/\∃(its:List Value)(n:Nat),Vals xs its/\xs.length=its.length/\s.heap.get? l=some { cls:=.type "list",data:=.seq its.toArray n }:=by
 obtain⟨z,its,n,r,e⟩:=I.hok l _ hH;exact⟨z,its,n,r,r.length,e⟩
theorem Qoh{n:Nat}(h:n<=sizeLine):QaJ n=false:=by
 unfold QaJ;exact decide_eq_false (by omega)
end
section
variable{X:Cx}
def Qlb:V->List V->Hp->VK->Prop:=λx vs H Q=>∃l xs y,x=.ref l/\vs=[y]/\H l=some (.lst xs)/\xs.length<sizeLine/\Q .non (upd H l (.lst (xs++[y])))
theorem QgI:MtM X "list.append" Qlb:=by
 intro pins s σ H x vs v us Q I rx rv h;obtain⟨l,xs,y,rfl,rfl,hH,hz,q⟩:=h;cases rx;obtain⟨u,rfl,ru⟩:=rv.one;obtain⟨z,its,n,r,hl,e⟩:=I.lstM hH;refine Qf8 F.slot_list_append ⟨_,e,rfl⟩ F.entry_list_append (F.args_list_append_2 _ _) (PySem.list_append l its.toArray n u (by rw[Qq];omega)) ⟨e,?_⟩;refine⟨.non,_,I.lset (its':=its++[u]) hH e (by simp) (r.append (.cons ru .nil)) ?_,rfl,q⟩;rw[Qo,Qcc];omega
def QyH:R2:=λx y H Q=>∃l b xs zs,x=.ref l/\y=.ref b/\H l=some (.lst xs)/\H b=some (.lst zs)/\xs.length+zs.length<=sizeLine/\∀p,H p=none->Q (.ref p) (upd H p (.lst (xs++zs)))
theorem Qvi:OpR X (binaryOp .Add) QyH:=by
 intro pins s σ H x y v u Q I rx ry h;obtain⟨l,b,xs,zs,rfl,rfl,hH,hB,hz,q⟩:=h;cases rx;cases ry;obtain⟨z,its,n,r,hl,e⟩:=I.lstM hH;obtain⟨z2,its2,n2,r2,hl2,e2⟩:=I.lstM hB;refine PySem.P.add_list e e2 ?_ (by rw[Qq,Qq];omega)
 have ea:its.toArray++its2.toArray=(its++its2).toArray:=by simp
 rw[ea];exact⟨.ref _,_,I.lnew (t':=s.toks) (r.append r2) (by rw[Qo];omega),rfl,q _ I.fresh⟩
def Qyy:R2:=λx y H Q=>∃l k xs,x=.ref l/\y=.int k/\H l=some (.lst xs) /\ -(2^63)<=k/\k<2^63/\xs.length*k.toNat<=sizeLine /\
 ∀p,H p=none->Q (.ref p) (upd H p (.lst (Jb k.toNat xs).flatten))
theorem QsR{α:Type}(xs:List α)(k:Nat):(Jb k xs).flatten.length=k*xs.length:=by
 induction k with
 |zero=>simp
 |succ k ih=>rw[Ze,ZX,Qo,ih,Qkt,Nat.add_comm]
theorem Qva:OpR X (binaryOp .Mult) Qyy:=by
 intro pins s σ H x y v u Q I rx ry h;obtain⟨l,k,xs,rfl,rfl,hH,h1,h2,hz,q⟩:=h;cases rx;obtain⟨t,rfl⟩:=ry;obtain⟨z,its,n,r,hl,e⟩:=I.lstM hH;have hlen:its.toArray.size*k.toNat<=sizeLine:=by rw[Qq,<- hl];exact hz
 have hcap:¬its.toArray.size*k.toNat > (2^63 - 1) / 8:=by
  have:(sizeLine:Nat)<=(2^63 - 1) / 8:=by decide
  omega
 have hfit:¬(!Builtin.List.listFitsIndex k)=true:=by
  rw[fitsIndex_both h1 h2];exact Qp
 have hlong:¬QaJ (its.toArray.size*k.toNat)=true:=by
  rw[Qoh hlen];exact Qp
 have hnew:Qo7 (λx1 x2=>x1++x2) #[] (Jb (if its.toArray.isEmpty=true then 0 else k.toNat) its.toArray)=(Jb k.toNat its).flatten.toArray:=by
  have f0:∀m:Nat,Qo7 (λx1 x2=>x1++x2) #[] (Jb m its.toArray)=(Jb m its).flatten.toArray:=λm=>by
   have:=foldl_rep its m [];rw[QaT] at this;exact this
  rw[f0];cases its with
  |nil=>simp
  |cons a r'=>rw[if_neg (by simp)]
 refine wpAny_binaryOp_repeat_ref (T := "list") (U := "int") (by decide) ⟨_,e,rfl⟩ (λs'=>QwI s' k t) noFill_list_mul F.fills_int_mul Qw3 repeat_list F.slot_int_index.lookup
  (Qf8 Qw3 (QwI s k t) F.entry_int_rmul (F.args_int_rmul_2 _ _) (int___rmul___int_list k t l its.toArray n)
   ⟨e,rfl,⟨_,e,rfl⟩,Qf8 F.slot_list_mul ⟨_,e,rfl⟩ F.entry_list_mul (F.args_list_mul_2 _ _) (AutoListH.list___mul___list_int_3 l its.toArray n k t hfit hcap hlong) ⟨e,?_⟩⟩)
 rw[hnew];exact⟨.ref _,_,I.lnew (t':=s.toks) (r.rep k.toNat) (by rw[QsR,Nat.mul_comm];exact hz),rfl,q _ I.fresh⟩
end
section
variable{prog:QB}{w:Ji}{A:Q3}{E:Value->Shared->Prop}{s:Shared}
end
section
variable{X:Cx}
end
end L2
namespace Att
open PySem.W PySem.Calls
theorem Qec{P:Params}{h:Heap}:∀(ns:List Int)(vs:List Value),WellAll P h vs (ns.map WData.int)->IntsAre vs ns:=by
 intro ns;induction ns with
 |nil=>
  intro vs w;rw[QwX] at w;cases w;exact .nil
 |cons n ns ih=>
  intro vs w;rw[Jh] at w;cases w with
  |cons a b=>
   cases a;exact .cons _ _ (ih _ b)
theorem QkQ{l:OpenLaw}{n:Nat}(hn:l.most=some n){P:Params}{h:Heap}{args:List WData}{vals:List Value}
  (hpre:l.row.toRowW.claim.pre args=true)(hwl:WellAll P h vals args) :
  ∃a vs ns,vals=[Z6 a]/\args=[WData.list (ns.map WData.int)]/\h.get? a=some { cls:=.type "list",data:=.seq vs.toArray }/\IntsAre vs ns/\ns.length<=n:=by
 have hsh:WShape.hasAll [] args [.list .int]=true:=(pre_splitW hpre).1;have hc:l.pre.holds [] { args:=args }=true:=(pre_splitW hpre).2;obtain⟨d,r,rfl,h1,h2⟩:=hasAllW_cons hsh;obtain rfl:=hasAllW_nil h2;obtain⟨xs,rfl,h3⟩:=hasW_list h1;obtain⟨ns,rfl⟩:=items_int h3;have hlen:ns.length<=n:=by
  unfold OpenLaw.pre at hc;have h4:(WTm.not (.lt (.lit (.int (n:Int))) (.len (.arg 0)))).holds [] { args:=[.list (ns.map .int)] }=true:=by
   have h4:=(holds_andW hc).1;rw[hn] at h4;exact h4
  have h5:=condW_of h4 (w_not (w_lt w_lit (w_len_list (w_arg rfl))));rw[Qd] at h5;refine Nat.le_of_not_lt λq=>?_
  have q':(n:Int)<((ns.length:Nat):Int):=by omega
  first
   |(rw[decide_eq_true q'] at h5;exact absurd h5 (by decide))
   |(simp at h5;omega)
 cases hwl with
 |cons w1 w2=>
  cases w2;cases w1 with
  |list ho hall=>exact⟨_,_,ns,rfl,rfl,ho,Qec ns _ hall,hlen⟩
theorem Qlo(l:OpenLaw)(args:List WData):l.row.toRowW.claim.post args (.bool true) args=true:=
 postW_of (r:=l.row.toRowW) (X:=(true == true))
  (show QwL [] (.bool true) .bool=true by first | rfl | decide | simp[QwL,WShape.arms,WShape.armsAll])
  (show(WTm.eq .res (.lit (.bool true))).value [] { args:=args,res:=some (.bool true),after:=args }=some (.bool (true == true)) from w_eq_bool (w_res rfl) w_lit) rfl
theorem Qii{l:OpenLaw}{n:Nat}{q:QB}{loose:List Str}{XP:(Str->Option Value)->Heap->Prop}{YP:Ji->Heap->Prop}{d:DefRec}
  (hn:l.most=some n)(hdf:d.params.defaults=[])
  (call:∀(w:Ji)(s₀ s₁:Shared)(mg mb:Str->Option Value)(fa:Addr)(o:Obj)(pm cd doc:Value)(a:Addr)(vs:List Value)(ns:List Int),
   Ground q loose [] XP w s₀ mg mb s₁.heap->YP w s₁.heap ->
   s₁.heap.get? fa=some o->o.data=.func (docDef d.name d.params d.body d.scope pm cd doc)->s₁.heap.CodeRec cd d.name->mg d.name=some (.ref fa) ->
   s₁.heap.get? a=some { cls:=.type "list",data:=.seq vs.toArray }->IntsAre vs ns->ns.length<=n->s₁.gens=#[] ->
   codeAny (model l.prog w) callerA (.call (.ref fa) ⟨[.ref a],[]⟩) (λr s'=>r=.ok (.ret (.bool true))/\OldK s₁.heap s'.heap/\s'.os=s₁.os/\Qew s'.gens) s₁) :
  WalkO q loose XP YP l.row.toRowW d [] (λf vs=>PySem.call f vs):=by
 intro w s₀ s₁ mg mb G Y fa o pm cd doc dV kV ho hd hcd hD hmg hg args vals as hpre hlay hrd hwl hlo;obtain rfl:dV=.none:=Dflts.none hD hdf;obtain rfl:kV=.none:=Dflts.noKw hD;obtain⟨a,vs,ns,rfl,rfl,hobj,hints,hlen⟩:=QkQ hn hpre hwl;refine enter_call (QbF (call w s₀ s₁ mg mb fa o pm cd doc a vs ns G Y ho (fd_plain hd) hcd hmg hobj hints hlen hg) λr s' hq=>?_);obtain⟨rfl,h2,h3,h4⟩:=hq;exact⟨.inl ⟨.bool true,.bool true,[],rfl,λ_=>rfl,.bool true,Qlo l _,λ_=>⟨Qw1,λ_ hm=>(nomatch hm)⟩⟩,h2,h3,h4⟩
section
variable{prog:QB}{w:Ji}{A:Q3}{E:Value->Shared->Prop}{s:Shared}{K:Frag}
end
end Att
namespace L2
theorem Qgh:∀{vs:List Value}{ns:List Int},IntsAre vs ns->Vals (ns.map V.int) vs
 |_,_,.nil=>.nil
 |_,_,.cons n t h=>.cons ⟨t,rfl⟩ (Qgh h)
def Qyp(H:Hp):Prop:=∀b,H b=none∨∃o xs,H b=some (.frz o (.lst xs))
theorem Qou{P:QB}{w:Ji}{K:PySem.W.Frag}{mg mb:Str->Option Value}{CX:CXT}{k:Nat}{fa a:Addr}{fd:QR}{x:Str}{sp:Sp}{s₁:Shared}{vs:List Value}{ns:List Int}
  (KX:K.In s₁.heap)(hns:s₁.heap.Ns mainGlobals mg)(hb:s₁.heap.Ns builtinsNs mb)(hbb:∀x:Str,x ≠ "__name__" -> mb x=bootBuiltins x)(hlim:s₁.heap.NoLimit)(hg:s₁.gens=#[])
  (ha:s₁.heap.get? a=some { cls:=.type "list",data:=.seq vs.toArray })(hi:IntsAre vs ns)(hl:ns.length<=sizeLine)(hr:Room k callerA)
  (F:∀base:Heap,K.In base->base.Ns mainGlobals mg->FnOk P w K mg base CX k fa fd [x] sp)(hbind:∀(s:Shared)(u:Value),Qnj s fd ⟨[u],[]⟩ [(x,u)])
  (hsp:∀H:Hp,Qyp H->SqL K H a (ns.map V.int)->sp [.ref a] H (λv _=>v=.bl true) λ_ _ _=>False)
  (hCX:∀H e s',CX [] H s₁ (λ_ _ _=>False) e s'->False) :
  codeAny (model P w) callerA (.call (.ref fa) ⟨[.ref a],[]⟩) (λr s'=>r=.ok (.ret (.bool true))/\OldK s₁.heap s'.heap/\s'.os=s₁.os/\Qew s'.gens) s₁:=by
 have rv:=Qgh hi;have lenV:=hi.length;have core:∀H:Hp,Qyp H->SqL K H a (ns.map V.int)->HOk P w H s₁.heap->(∀b,H b≠none->b=a)->(H a≠none->K.lookup a=none) ->
   codeAny (model P w) callerA (.call (.ref fa) ⟨[.ref a],[]⟩) (λr s'=>r=.ok (.ret (.bool true))/\OldK s₁.heap s'.heap/\s'.os=s₁.os/\Qew s'.gens) s₁:=by
  intro H hO hS hok hA hK;have base_of:∀{b:Addr}{o:Obj},s₁.heap.get? b=some o->H b=none->(Qox s₁.heap H).get? b=some o:=λe n=>Qow e n
  have noA:∀{b:Addr}{o:Obj}{es:Array DictEntry}{ep:Nat},s₁.heap.get? b=some o->o.data=.dict es ep->H b=none:=λ{b o es ep} e d=>by
   cases q:H b with
   |none=>rfl
   |some u=>
    have e':b=a:=hA b (by rw[q];simp);subst e';rw[ha] at e;cases e;have d':Data.seq vs.toArray _=Data.dict es ep:=d;cases d'
  have nsK:∀{b:Addr}{m:Str->Option Value},s₁.heap.Ns b m->(Qox s₁.heap H).Ns b m:=λ{b m} ⟨o,es,ep,e,d,r⟩=>⟨o,es,ep,base_of e (noA e d),d,r⟩
  have hKb:K.In (Qox s₁.heap H):=λb o e=>base_of (KX b o e) (by
   cases q:H b with
   |none=>rfl
   |some u=>
    have e':b=a:=hA b (by rw[q];simp);subst e';rw[hK (by rw[q];simp)] at e;cases e)
  have hM:Mod K mg (Qox s₁.heap H):=⟨hKb,nsK hns,⟨mb,nsK hb,hbb⟩,let ⟨mc,h1,h2⟩:=hlim;⟨mc,nsK h1,h2⟩⟩;have e0:Env0 P w K mg (Qox s₁.heap H) callerA [] s₁ H:=⟨rfl,hM,λb o e=>QsG e,Nat.le_of_eq (Ql9 _ _),trivial,λb hb=>absurd (show b∈([]:List Addr) from hb) (by simp),hok,.of_eq hg⟩;refine QbF ((F _ hKb (nsK hns)).run callerA [] s₁ H ⟨[.ref a],[]⟩ [.ref a] [.ref a] _ _ hr e0 (hbind s₁ (.ref a)) (.cons rfl .nil) (hsp H hO hS)) λr s' h=>?_
  cases r with
  |error e=>exact(hCX H e s' h).elim
  |ok fl=>
   cases fl with
   |next=>exact Zp h
   |brk=>exact Zp h
   |cont=>exact Zp h
   |ret u=>
    obtain⟨v,H',os,bare,un,hok',r',q⟩:=h;have q':v=.bl true:=q;subst q';obtain rfl:u=Qbk true:=r';refine⟨rfl,OldK.of_keep λb o e=>?_,os,bare⟩;cases q:H b with
    |none=>exact un.keep b o e q (by intro z;exact absurd (show b∈([]:List Addr) from z) (by simp)) (by simp)
    |some u=>
     rcases hO b with z | ⟨ob,xs,z⟩
     ·rw[q] at z;cases z
     ·have z2:=un.frzs b ob _ z;obtain⟨e1,_⟩:=hok b _ z;obtain⟨e2,_⟩:=hok' b _ z2;rw[e] at e1;cases e1;exact e2
 cases hk:K.lookup a with
 |some o=>
  have e:=KX a o hk;rw[ha] at e;cases e;refine core (λ_=>none) (λ_=>.inl rfl) (.inr ⟨_,vs.toArray,_,hk,rfl,rfl,rfl,by rw[Qq,lenV];exact hl,by simpa using rv⟩) (λb u z=>by have z':(none:Option HO)=some u:=z;cases z') (λb z=>absurd rfl z) λz=>absurd rfl z
 |none=>
  refine core (λb=>if b=a then some (.frz { cls:=.type "list",data:=.seq vs.toArray } (.lst (ns.map V.int))) else none) (λb=>?_) (.inl (.inr ⟨{ cls:=.type "list",data:=.seq vs.toArray },if_pos rfl⟩)) (λb u z=>?_) (λb z=>?_) λ_=>hk
  ·by_cases hb:b=a
   ·exact .inr ⟨_,_,if_pos hb⟩
   ·exact .inl (if_neg hb)
  ·by_cases hb:b=a
   ·have z':=(if_pos hb).symm.trans z;cases z';subst hb;exact⟨ha,by rw[Qd];exact hl,vs,_,rv,ha⟩
   ·have z':=(if_neg hb).symm.trans z;cases z'
  ·by_cases hb:b=a
   ·exact hb
   ·exact absurd (if_neg hb) z
theorem Qrg{l:PySem.W.OpenLaw}{n k:Nat}{q:QB}{loose:List Str}{XP:(Str->Option Value)->Heap->Prop}{YP:Ji->Heap->Prop}{d:DefRec}{K:Params->PySem.W.Frag}{CX:Ji->CXT}{sp:Ji->Sp}{x:Str}
  (hn:l.most=some n)(hn2:n<=sizeLine)(hdf:d.params.defaults=[])(hr:Room k callerA)
  (hY:∀(w:Ji)(h:Heap),YP w h->(K w.params).In h)
  (F:∀(w:Ji)(mg:Str->Option Value)(fa:Addr)(h:Heap),(K w.params).In h->h.Ns mainGlobals mg->mg d.name=some (.ref fa) ->
   ∃fd:QR,(∀(s:Shared)(u:Value),Qnj s fd ⟨[u],[]⟩ [(x,u)]) /\
    ∀base:Heap,(K w.params).In base->base.Ns mainGlobals mg->FnOk l.prog w (K w.params) mg base (CX w) k fa fd [x] (sp w))
  (hsp:∀(w:Ji)(H:Hp)(a:Addr)(ns:List Int),ns.length<=n->Qyp H->SqL (K w.params) H a (ns.map V.int)->sp w [.ref a] H (λv _=>v=.bl true) λ_ _ _=>False)
  (hCX:∀(w:Ji)(H:Hp)(s:Shared)(e:Value)(s':Shared),CX w [] H s (λ_ _ _=>False) e s'->False) :
  PySem.W.WalkO q loose XP YP l.row.toRowW d [] (λf vs=>PySem.call f vs):=by
 refine Att.Qii hn hdf λw s₀ s₁ mg mb fa o pm cd doc a vs ns G Y ho hd hcd hmg hobj hints hlen hg=>?_
 have KX:=hY w _ Y;obtain⟨fd,hb,hF⟩:=F w mg fa _ KX G.T.g hmg;exact Qou KX G.T.g G.T.b G.T.builtins G.T.nolimit hg hobj hints (Jd hlen hn2) hr hF hb (λH hO hS=>hsp w H a ns hlen hO hS) λH e s'=>hCX w H s₁ e s'
def JM(s:Yn):Arguments:=match s with
 |.FunctionDef _ a _ _ _ _ _ _ _ _=>a
 |_=>{ posonlyargs:=[],args:=[],vararg:=none,kwonlyargs:=[],kw_defaults:=[],kwarg:=none,defaults:=[] }
def Jz(s:Yn):List Yn:=match s with
 |.FunctionDef _ _ b _ _ _ _ _ _ _=>b
 |_=>[]
def Qx(s:Yn):QaM:=match s with
 |.FunctionDef _ _ _ _ _ _ sc _ _ _=>sc
 |_=>{ kind:=.function,names:=[],isGenerator:=false,isCoroutine:=false }
abbrev CX0:CXT:=λ_ _ _ _ _ _=>False
abbrev E0:XK:=λ_ _ _=>False
structure Fun (K:PySem.W.Frag) (x qual:Str) (st:Yn) (f:Addr) (fd:QR):Prop where
 ex:∃(oc:Value)(od:Option Addr)(kV doc pm:Value)(an:Option Addr)(cdv ct:Value)(osl:Array (Option Value)),
  fd=PySem.W.fnOf x qual (JM st) (Jz st) (Qx st) .none kV doc pm an cdv ct/\K.lookup f=some ⟨oc,od,.func fd,osl⟩/\PySem.W.codeIn K cdv qual=true
 kp:PySem.W.keepIn K (.ref f)=true
section
variable{P:QB}{w:Ji}{K:PySem.W.Frag}{mg:Str->Option Value}{base:Heap}
theorem Fun.ok{x qual:Str}{st:Yn}{f:Addr}{fd:QR}{N ps:List Str}{k:Nat}{sp:Sp}(F:Fun K x qual st f fd)(S:JH N ps (Qx st))(len:∀vs H Q E,sp vs H Q E->vs.length=ps.length)
  (hbody:∀(cdv:Value)(A:Q3)(outer:List Env)(s:Shared)(H:Hp)(vs:List V)(Q:VK)(E:XK),Room k (A.deeper (envOfC qual (Qx st) s.heap.objs.size f cdv))->sp vs H Q E ->
   ∃t,PSs (Qm7 CX0 P w K mg base N qual (Qx st) f cdv A outer s H E).nox (Jz st) t/\t { nx:=λ_ H'=>Q .non H',rt:=Q } (start N vs) H):FnOk P w K mg base CX0 (k+1) f fd ps sp:=by
 obtain⟨oc,od,kV,doc,pm,an,cdv,ct,osl,rfl,lk,hcd⟩:=F.ex;refine Qx7 lk hcd S len λA outer s H vs Q E hr hsp=>?_
 obtain⟨t,h,q⟩:=hbody cdv A outer s H vs Q E hr hsp;exact⟨t,h.nox,q⟩
theorem Fun.binds{x qual:Str}{st:Yn}{f:Addr}{fd:QR}{ps:List Str}(F:Fun K x qual st f fd)
  (h:∀(kV doc pm:Value)(an:Option Addr)(cdv ct:Value)(us:List Value),us.length=ps.length->bindArgs (PySem.W.fnOf x qual (JM st) (Jz st) (Qx st) .none kV doc pm an cdv ct) ⟨us,[]⟩=pure (ps.zip us)):Binds K fd ps []:=by
 obtain⟨oc,od,kV,doc,pm,an,cdv,ct,osl,rfl,lk,hcd⟩:=F.ex;exact .all (h kV doc pm an cdv ct)
theorem ZC{x qual:Str}{st:Yn}{f:Addr}{oc:Value}{od an:Option Addr}{osl:Array (Option Value)}{kV doc pm cdv ct:Value}(l:K.lookup f=some ⟨oc,od,.func (PySem.W.fnOf x qual (JM st) (Jz st) (Qx st) .none kV doc pm an cdv ct),osl⟩)
  (c:PySem.W.codeIn K cdv qual=true)(k:PySem.W.keepIn K (.ref f)=true):Fun K x qual st f (PySem.W.fnOf x qual (JM st) (Jz st) (Qx st) .none kV doc pm an cdv ct):=⟨⟨oc,od,kV,doc,pm,an,cdv,ct,osl,rfl,l,c⟩,k⟩
end
section
variable{X:Cx}
theorem pv(i:Nat){x:Str}{pos:Pos}(hN:X.N[i]? = some x:=by rfl)(hv:Vis X.env.scope x:=by first | exact Jc rfl | exact Q8 (Jc rfl) | exact Q8 (Q8 rfl))(hd:(x == ("__debug__" : Str))=false:=by decide)
  (hcd:(x == ("__classdict__" : Str))=false:=by decide):PE X (.Name x pos) (Qix i):=QuN hN hv hd hcd
end
theorem Qzt{A B:Prop}(h:B):if false=true then A else B:=by
 rw[if_neg Qp];exact h
theorem QyM{A B:Prop}(h:A):if true=true then A else B:=by
 rw[if_pos rfl];exact h
theorem QyN{c A B:Prop}[Decidable c](h1:c->A)(h2:¬c->B):if c then A else B:=by
 by_cases h:c
 ·rw[if_pos h];exact h1 h
 ·rw[if_neg h];exact h2 h
def Same(H H':Hp):Prop:=∀b o,H b=some o->H' b=some o
theorem Same.refl(H:Hp):Same H H:=λ_ _ h=>h
theorem Same.trans{H H1 H2:Hp}(a:Same H H1)(b:Same H1 H2):Same H H2:=λc o h=>b c o (a c o h)
theorem Same.free{H H':Hp}(e:Same H H'){l:Addr}(h:H' l=Qwn):H l=Qwn:=by
 cases q:H l with
 |none=>rfl
 |some o=>
  rw[e l o q] at h;cases h
theorem Same.seq{K:PySem.W.Frag}{H H':Hp}{a:Addr}{xs:List V}(e:Same H H')(h:SqL K H a xs):SqL K H' a xs:=by
 rcases h with(h | ⟨o,h⟩) | h
 ·exact .inl (.inl (e _ _ h))
 ·exact .inl (.inr ⟨o,e _ _ h⟩)
 ·exact .inr h
end L2
set_option maxHeartbeats 4000000
namespace Zt
def f5(M x:Nat):Nat:=(x*5+1) % M
def it5(M:Nat):Nat->Nat->Nat
 |0,x=>x
 |n+1,x=>it5 M n (f5 M x)
def Qy3(M:Nat):Nat->Nat->Nat->Nat
 |0,_,acc=>acc
 |n+1,x,acc=>Qy3 M n (f5 M x) (acc ||| 2^x)
def Qx3(M:Nat):Bool:=decide (Qy3 M M 0 0=2^M - 1)&&decide (it5 M M 0=0)
def stps(t:SetTable):Nat->QaS->QaS
 |0,p=>p
 |n+1,p=>stps t n (t.advance p)
theorem Qiz:∀{P Q:List Nat},P.Nodup->(∀p∈P,p∈Q)->P.length<=Q.length
 |[],_,_,_=>Qr _
 |p::P,Q,nd,h=>by
  have nd:=Yo.mp nd;have hp:=h p (.head _);have:=Qiz (P:=P) (Q:=Q.erase p) nd.2 λx hx=>(Qkw (show x≠p from λe=>nd.1 (e ▸ hx))).mpr (h x (.tail _ hx))
  rw[Qbr hp] at this;have:=Qad hp;rw[QL];omega
structure Tab (t:SetTable):Prop where
 pw:t.place.toList.Pairwise (· < ·)
 le:∀x∈t.place.toList,x<=t.mask
 dm:t.dummies=#[]
 gd:Qx3 (t.mask+1)=true
 pl:t.plain=true
 od:t.mask % 2=1
theorem Tab.room{t:SetTable}(x:Tab t)(hs:t.place.size<=t.mask):∃j,j<t.mask+1/\j∉t.place.toList:=by
 apply Yt
 intro hn;have:∀p∈Je (t.mask+1),p∈t.place.toList:=λp hp=>by
  apply Yt
  intro h;exact hn ⟨p,Js.mp hp,h⟩
 have:=Qiz QbQ this;rw[Jf,Qg] at this;omega
structure PIn (t:SetTable) (p:QaS):Prop where
 a:p.j+p.more<=t.mask
 b:p.i<=t.mask
theorem Qgq{mask i:Nat}(h:i<=mask):i+(Qm0 mask i - i)<=mask:=by unfold Qm0;split<;>omega
theorem PIn.adv{t:SetTable}{p:QaS}(x:PIn t p):PIn t (t.advance p):=by
 unfold SetTable.advance;split
 ·exact⟨by show p.j+1+(p.more - 1)<=_;have:=x.a;omega,x.b⟩
 ·have:(SetTable.leap t.mask p.i p.perturb).1<=t.mask:=Qp3 (Qp2 _ (Nat.succ_pos _));exact⟨Qgq this,this⟩
theorem PIn.stps{t:SetTable}:∀(n:Nat){p:QaS},PIn t p->PIn t (stps t n p)
 |0,_,x=>x
 |n+1,_,x=>PIn.stps n x.adv
theorem PIn.start(t:SetTable)(h:Int):PIn t (t.probeStart h):=by
 have:SetTable.bits h % (t.mask+1)<=t.mask:=Qp3 (Qp2 _ (Nat.succ_pos _));exact⟨Qgq this,this⟩
def Rch(t:SetTable)(j:Nat)(h:Int):Prop:=∃n,(stps t n (t.probeStart h)).j=j/\∀m,m<n->(stps t m (t.probeStart h)).j∈t.place.toList
theorem QcQ:Slot "set_iterator" "__next__" "set_iterator.__next__" :=
 .of (owner := "set_iterator") (n := "__next__") (by rw[Qjo,Qdp];kernel_rfl) (by decide +kernel) (by decide +kernel) (by decide +kernel) (by first | exact .inl (by decide +kernel) | exact .inr (by decide +kernel)) (by rw[QbO];kernel_rfl)
theorem Qmi:entryFor table "set_iterator.__next__" = some YS.«set_iterator.__next__» := entryFor_of_fast (by kernel_rfl)
theorem Qu5:Manifest.owners.lookup (String.ofList ['r', 'o', 't', 'a', 'r', 'e', 't', 'i', '_', 't', 'e', 's'].reverse)=some Manifest.sig_set_iterator:=by kernel_rfl
theorem QmS(a:Value):argsOk "set_iterator.__next__" ⟨[a],[]⟩:=by
 unfold argsOk;rw[signature?_of (id := "set_iterator.__next__") (n:=['_', '_', 't', 'x', 'e', 'n', '_', '_']) (o:=['r', 'o', 't', 'a', 'r', 'e', 't', 'i', '_', 't', 'e', 's']) (by kernel_rfl) Qu5];kernel_rfl
theorem Qta:entryFor table "set.__iter__" = some YS.«frozenset.__iter__» := entryFor_alias (id' := "frozenset.__iter__") (by kernel_rfl) (by first | rfl | decide +kernel | (unfold QpY;simp +decide [QmZ])) (by decide +kernel) (by kernel_rfl)
def IsSI(h:Heap)(I:Addr)(first:Value)(i a n ep:Nat):Prop:=∃o,h.get? I=some o/\o.cls=.type "set_iterator" /\ o.data=.fields #[first,.int i 0,.ref a,.int n 0,.int ep 0]
theorem IsSI.typeIs{s:Shared}{I:Addr}{first:Value}{i a n ep:Nat}(x:IsSI s.heap I first i a n ep):s.TypeIs (.ref I) "set_iterator" := let ⟨o,h,c,_⟩:=x;⟨o,h,c⟩
structure SetAt (h:Heap) (a:Addr) (es:Array (Int×Value)) (ep:Nat) (t:SetTable):Prop where
 at_:∃o,h.get? a=some o/\o.ExactSet/\o.data=.set es ep t
 ft:t.fits es.size=true
section
variable{prog:QB}{w:Ji}{A:Q3}{E:Value->Shared->Prop}{s:Shared}
theorem QsH{I a:Addr}{i ep slot nx:Nat}{es:Array (Int×Value)}{t:SetTable}{x:Value}{Q:Option Value->Shared->Prop}(hit:IsSI s.heap I (.int slot 0) i a es.size ep)(ha:SetAt s.heap a es ep t)
  (hN:∀(A:Q3)(E:Value->Shared->Prop)(Q':Option (Value×Nat)->Shared->Prop),Q' (some (x,nx)) s->wpAny (model prog w) A (setNext a slot i ep) Q' E s)
  (hQ:∀h',IsSI h' I (.int nx 0) (i+1) a es.size ep->Qa5 I s.heap h'->Q (some x) { s with heap:=h' }):wpAny (model prog w) A (pyNext (.ref I)) Q E s:=by
 obtain⟨o,ho,hc,hd⟩:=id hit;obtain⟨os,hos,hex,hds⟩:=ha.at_;unfold pyNext;refine Qa (Qna (Qaj (name:=Qez "__next__") hit.typeIs QcQ (Zd QcQ hit.typeIs Qmi ?_ (QmS _))));unfold YS.«set_iterator.__next__»
 wp_walk
 rw[hd];refine wpAny_pure ?_
 dsimp only
 refine Qa (QtJ hos hds ha.ft ?_);rw[if_neg (by simp)];refine Qa ?_
 refine hN _ _ _ ?_
 dsimp only
 refine Qa (Qko ho hd (by simp) ?_);have g1:(s.heap.update I (Qju λx=>x.setIfInBounds 0 (rawInt ↑nx))).get? I=some (Qju (λx=>x.setIfInBounds 0 (rawInt ↑nx)) o):=JY _ ho (Qks (Qbe hd _));have d1:(Qju (λx=>x.setIfInBounds 0 (rawInt ↑nx)) o).data=.fields #[.int nx 0,.int i 0,.ref a,.int es.size 0,.int ep 0]:=by rw[Qbe hd];simp[rawInt]
 refine Qa (Qko g1 d1 (by simp) (wpAny_pure ⟨x,rfl,wpAny_pure (hQ _ ?_ ((Yp ..).trans (Yp ..)))⟩));exact⟨_,JY _ g1 (Qks (Qbe d1 _)),(Qp1 ..).trans ((Qp1 ..).trans hc),by rw[Qbe d1];simp[rawInt]⟩
theorem Qvo{I a:Addr}{i ep slot:Nat}{es:Array (Int×Value)}{t:SetTable}{Q:Option Value->Shared->Prop}(hh:A.handled=none)(hit:IsSI s.heap I (.int slot 0) i a es.size ep)(ha:SetAt s.heap a es ep t)
  (hN:∀(A:Q3)(E:Value->Shared->Prop)(Q':Option (Value×Nat)->Shared->Prop),Q' none s->wpAny (model prog w) A (setNext a slot i ep) Q' E s)
  (hQ:∀h',Heap.ExtBut I s.heap h'->Q none { s with heap:=h' }):wpAny (model prog w) A (pyNext (.ref I)) Q E s:=by
 obtain⟨o,ho,hc,hd⟩:=id hit;obtain⟨os,hos,hex,hds⟩:=ha.at_;unfold pyNext;refine Qa (Qna (Qaj (name:=Qez "__next__") hit.typeIs QcQ (Zd QcQ hit.typeIs Qmi ?_ (QmS _))));unfold YS.«set_iterator.__next__»
 wp_walk
 rw[hd];refine wpAny_pure ?_
 dsimp only
 refine Qa (QtJ hos hds ha.ft ?_);rw[if_neg (by simp)];refine Qa ?_
 refine hN _ _ _ ?_
 dsimp only
 refine Qa (Qko ho hd (by simp) ?_);refine Qa ?_
 simp only[newExc,newTuple];refine Qa (JS ?_ (by size_fits));refine Qa (m:=firstArgMember _ _) (ZB (a:=ZI) (by first | rfl | (simp only[firstArgMember];rfl)) ?_);refine JS ?_ (by size_fits)
 simp only[raiseNew];refine Qa (wpAny_handled ?_)
 first | rw[show A.in1.handled=none from hh] | rw[hh]
 refine Qa (wpAny_pure (wpAny_throw ?_));refine Qa (wpAny_isInstance (T := "StopIteration") (b:=true) ⟨_,Qz _ rfl,rfl⟩ (by rw[QbO];kernel_rfl) ?_);exact wpAny_pure (hQ _ (((Yp ..).extBut.push _).push _))
theorem Qpe{a:Addr}{ep slot given:Nat}{es:Array (Int×Value)}{t:SetTable}{Q:Option (Value×Nat)->Shared->Prop}(hb:w.params.followText "set-order" = false)(ha:SetAt s.heap a es ep t)(hp:t.plain=true)(hl:t.led=true)
  (h:Q (match es[Qb1 t.place slot]?,t.place[Qb1 t.place slot]? with | some (_,x),some j=>some (x,j+1) | _,_=>none) s):wpAny (model prog w) A (setNext a slot given ep) Q E s:=by
 obtain⟨os,hos,hex,hds⟩:=ha.at_;unfold setNext;refine Qa (QaF hos hds ha.ft ?_)
 dsimp only
 unfold setsByText;refine Qa (Qa (ZQ (wpAny_pure ?_)));rw[show(model prog w).w.params.followText "set-order" = false from hb,if_neg Qp];split
 ·rename_i hdr
  exact absurd (show(!t.plain&&decide (es.size > 1))=true from hdr) (by rw[hp];simp)
 ·refine Qa ?_
  show wpAny (model prog w) A (if(!t.led && !es.isEmpty)=true then unsupported "set:maker-not-led" else pure ()) _ E s;rw[if_neg (by rw[hl];simp)];exact wpAny_pure (wpAny_pure h)
theorem QkO{a:Addr}{ep slot given:Nat}{es:Array (Int×Value)}{t:SetTable}{Q:Option (Value×Nat)->Shared->Prop}(hb:w.params.followText "set-order" = true)(ha:SetAt s.heap a es ep t)
  (h:Q (((pickOrder (w.params.setOrder a ep) es)[given]?).map λe=>(e.2,slot)) s):wpAny (model prog w) A (setNext a slot given ep) Q E s:=by
 obtain⟨os,hos,hex,hds⟩:=ha.at_;unfold setNext;refine Qa (QaF hos hds ha.ft ?_)
 dsimp only
 unfold setsByText;refine Qa (Qa (ZQ (wpAny_pure ?_)));rw[show(model prog w).w.params.followText "set-order" = true from hb,if_pos rfl,if_neg (by simp)];refine Qa ?_
 unfold setWalk;refine Qa (QaF hos hds ha.ft ?_)
 dsimp only
 unfold setsByText;refine Qa (Qa (ZQ (wpAny_pure ?_)));rw[show(model prog w).w.params.followText "set-order" = true from hb,if_pos rfl];refine Qa (ZQ (wpAny_pure ?_));exact wpAny_pure h
theorem Qgx{α:Type}(next:Nat->Nat)(xs:Array α):(pickOrder next xs).toList.Perm xs.toList:=by
 unfold pickOrder;have go:∀(n k:Nat)(left:List α)(out:Array α),left.length=n->(Qo3 next n k left out).toList.Perm (out.toList++left):=λn=>by
  induction n with
  |zero=>
   intro k left out hl;rw[List.length_eq_zero_iff.mp hl,Jr];exact QbW _
  |succ n ih=>
   intro k left out hl;have hi:next k % left.length<left.length:=Qp2 _ (by omega)
   unfold Qo3;rw[Qk hi]
   dsimp only
   refine(ih (k+1) _ _ (by rw[List.length_eraseIdx,if_pos hi];omega)).trans ?_
   rw[Qbn,QJ];refine Ya _ ?_
   have sp:left=left.take (next k % left.length)++left[next k % left.length]::left.drop (next k % left.length+1):=by rw[<- ZN hi,JD]
   have pm:=(List.perm_middle (a:=left[next k % left.length]) (l₁:=left.take (next k % left.length)) (l₂:=left.drop (next k % left.length+1))).symm;rw[<- sp,<- List.eraseIdx_eq_take_drop_succ] at pm;exact pm
 have:=go xs.size 0 xs.toList #[] (by simp)
 simpa using this
theorem QvC{a:Addr}{ep:Nat}{es:Array (Int×Value)}{t:SetTable}{Q:Value->Shared->Prop}(ha:SetAt s.heap a es ep t)(hp:t.plain=true)
  (hQ:Q (.ref s.heap.objs.size) { s with heap:=s.heap.push { cls:=.type "set_iterator",data:=.fields #[.int 0 0,.int 0 0,.ref a,.int es.size 0,.int ep 0] } }):wpAny (model prog w) A (pyIter (.ref a)) Q E s:=by
 obtain⟨os,hos,hex,hds⟩:=ha.at_;have hT:s.TypeIs (.ref a) "set" := ⟨os,hos,hex.1⟩;refine QwE hT PySem.F.slot_set_iter (Zd PySem.F.slot_set_iter hT Qta ?_ (PySem.F.args_set_iter_1 _));unfold YS.«frozenset.__iter__»
 wp_walk
 have nf:¬(t.place.size != es.size||decide (t.fill > t.mask))=true:=by
  have hf:=ha.ft;simp only[SetTable.fits,Jp,beq_iff_eq,decide_eq_true_eq] at hf;simp[hf.1,Nat.not_lt.mpr hf.2]
 rw[hds]
 dsimp only
 rw[if_neg nf];refine wpAny_pure (wpAny_pure (wpAny_pure ?_));refine Qa ?_
 unfold setDrawn;refine Qa (QaF hos hds ha.ft ?_)
 dsimp only
 unfold setsByText;refine Qa (Qa (ZQ (wpAny_pure ?_)));refine wpAny_pure ?_
 split
 ·rename_i hdr
  have hdr:(!(w.params.followText "set-order")&&(!t.plain&&decide (es.size > 1)))=true:=hdr;rw[hp] at hdr;simp at hdr
 ·refine Qa (wpAny_pure ?_);refine Qa (wpAny_setEpoch_of hos hds ha.ft ?_);exact Qa (JS (wpAny_pure ⟨_,rfl, "set_iterator",_,⟨_,Qz _ rfl,rfl⟩,QcQ.lookup,hQ⟩))
theorem SetAt.at'{h h':Heap}{a:Addr}{es:Array (Int×Value)}{ep:Nat}{t:SetTable}(x:SetAt h a es ep t)(k:∀o,h.get? a=some o->h'.get? a=some o):SetAt h' a es ep t:=let ⟨o,h1,h2⟩:=x.at_;⟨⟨o,k o h1,h2⟩,x.ft⟩
theorem IsSI.at'{h h':Heap}{I:Addr}{first:Value}{i a n ep:Nat}(x:IsSI h I first i a n ep)(k:∀o,h.get? I=some o->h'.get? I=some o):IsSI h' I first i a n ep:=let ⟨o,h1,h2⟩:=x;⟨o,k o h1,h2⟩
end
structure Way (prog:QB) (w:Ji) (a:Addr) (es:Array (Int×Value)) (ep:Nat) (t:SetTable) (so:Nat->Nat) (vs:Array (Int×Value)):Prop where
 pm:vs.toList.Perm es.toList
 s0:so 0=0
 item:∀(s:Shared)(A:Q3)(E:Value->Shared->Prop)(Q:Option (Value×Nat)->Shared->Prop)(i:Nat)(e:Int×Value),SetAt s.heap a es ep t->vs[i]? = some e->Q (some (e.2,so (i+1))) s->wpAny (model prog w) A (setNext a (so i) i ep) Q E s
 fin:∀(s:Shared)(A:Q3)(E:Value->Shared->Prop)(Q:Option (Value×Nat)->Shared->Prop),SetAt s.heap a es ep t->Q none s->wpAny (model prog w) A (setNext a (so es.size) es.size ep) Q E s
theorem Way.walks{prog:QB}{w:Ji}{A:Q3}(hh:A.handled=none){a:Addr}{es:Array (Int×Value)}{ep:Nat}{t:SetTable}{so:Nat->Nat}{vs:Array (Int×Value)}(W:Way prog w a es ep t so vs)(I:Addr)(hne:a≠I)(self:∀(s:Shared)(Q:Value->Shared->Prop)(E:Value->Shared->Prop)(i:Nat),IsSI s.heap I (.int (so i) 0) i a es.size ep->Q (.ref I) s->wpAny (model prog w) A (pyIter (.ref I)) Q E s) :
  Walks prog w A I [I,a] [I] es.size (λi v=>(vs[i]?).map (·.2)=some v) (λi h=>IsSI h I (.int (so i) 0) i a es.size ep/\SetAt h a es ep t) where
 sub:=λb hb=>by simp at hb;simp[hb]
 frame:=λ_ _ _ st hk=>⟨st.1.at' λo e=>hk I (by simp) o e,st.2.at' λo e=>hk a (by simp) o e⟩
 item:=λi s Q E hi st hQ=>by
  have hl:vs.size=es.size:=by rw[<- Qg,W.pm.length_eq,Qg]
  have hv:vs[i]? = some vs[i]:=by simp[hl,hi]
  refine QsH st.1 st.2 (x:=vs[i].2) (nx:=so (i+1)) (λA E Q' q=>W.item s A E Q' i _ st.2 hv q) λh' hit' hs'=>?_
  refine hQ _ h' s.toks (by rw[hv];rfl) ⟨hit',st.2.at' λo e=>hs'.extBut a o (λz=>hne z) e⟩ λb o hb e=>hs'.extBut b o (λz=>hb (by simp[z])) e
 done:=λs Q E st hQ=>Qvo hh st.1 st.2 (λA E Q' q=>W.fin s A E Q' st.2 q) λh' he'=>hQ h' s.toks λb o hb e=>he' b o (λz=>hb (by simp[z])) e
 self:=λi s Q E st hQ=>self s Q E i st.1 hQ
theorem Qnl{prog:QB}{w:Ji}(hb:w.params.followText "set-order" = true)(a:Addr)(es:Array (Int×Value))(ep:Nat)(t:SetTable):Way prog w a es ep t (λ_=>0) (pickOrder (w.params.setOrder a ep) es) where
 pm:=Qgx _ _
 s0:=rfl
 item:=λs A E Q i e ha hv q=>QkO hb ha (by rw[hv];exact q)
 fin:=λs A E Q ha q=>QkO hb ha (by
  have hl:(pickOrder (w.params.setOrder a ep) es).size=es.size:=by rw[<- Qg,(Qgx _ _).length_eq,Qg]
  rw[ZF (by omega)];exact q)
theorem Qrf{prog:QB}{w:Ji}(hb:w.params.followText "set-order" = false)(a:Addr)(es:Array (Int×Value))(ep:Nat)(t:SetTable)(hp:t.plain=true)(hl:t.led=true)(hz:t.place.size=es.size)(so:Nat->Nat)(s0:so 0=0)(hs:∀i,i<t.place.size->so (i+1)=t.place.getD i 0+1)(hbel:∀i,i<=t.place.size->Qb1 t.place (so i)=i):Way prog w a es ep t so es where
 pm:=QbW _
 s0:=s0
 item:=λs A E Q i e ha hv q=>Qpe hb ha hp hl (by
  have hi:i<es.size:=by
   by_cases z:i<es.size
   ·exact z
   ·rw[ZF (by omega)] at hv;cases hv
  rw[hbel i (by omega),hv,show t.place[i]? = some (t.place.getD i 0) by simp[Array.getD,show i<t.place.size by omega]]
  dsimp only
  rw[<- hs i (by omega)];exact q)
 fin:=λs A E Q ha q=>Qpe hb ha hp hl (by
  rw[hbel es.size (by omega),ZF (Qj _)];exact q)
section
variable{prog:QB}{w:Ji}{A:Q3}{E:Value->Shared->Prop}{s:Shared}
end
section
variable{prog:QB}{w:Ji}{A:Q3}{E:Value->Shared->Prop}{s:Shared}
structure TS (prog:QB) (w:Ji) (h:Heap) (a:Addr) (es:Array (Int×Value)) (ep:Nat) (t:SetTable) (ps:List (List Int×Addr)):Prop where
 at_:SetAt h a es ep t
 tab:Tab t
 ent:es.toList=ps.map λp=>(tupleKeyHash (intKind prog w) p.1,Z6 p.2)
 key:∀p∈ps,IsTupleKey (intKind prog w) h p.1 p.2
 nd:(ps.map (·.1)).Nodup
 rch:∀(i j:Nat)(e:Int×Value),t.place[i]? = some j->es[i]? = some e->Rch t j e.1
 mks:t.mask=7∨t.mask=31∨t.mask=127∨t.mask=511∨t.mask=2047
 few:t.place.size*5<t.mask*3
variable{a:Addr}{es:Array (Int×Value)}{ep:Nat}{t:SetTable}{ps:List (List Int×Addr)}
theorem TS.size(x:TS prog w s.heap a es ep t ps):es.size=ps.length:=by rw[<- Qg,x.ent,Qd]
end
def Sm(m:Nat):List Nat:=(Je 6).filter m.testBit
def tb(m:Nat)(led:Bool):SetTable:={ mask:=if 5<=(Sm m).length then 31 else 7,place:=(Sm m).toArray,dummies:=#[],finger:=0,led:=led,moves:=if 5<=(Sm m).length then 1 else 0,plain:=true }
def tp(m v:Nat)(led:Bool):SetTable:={ tb m led with place:=(Sm (m ||| 2^v)).toArray }
def pz(m v:Nat):Nat:=((Sm m).filter (· < v)).length
theorem QkF:∀led:Bool,tb 0 led=SetTable.fresh 0 0 led:=by decide +kernel
theorem Qt7:∀m:Fin 64,∀v:Fin 6,∀led:Bool,m.val.testBit v.val=false->(tb m led).freeSlot (v.val:Int)=some (v.val,false):=by decide +kernel
theorem Qxb:∀m:Fin 64,∀v:Fin 6,∀led:Bool,m.val.testBit v.val=false->(tb m led).put v.val=(tp m v led,pz m v):=by decide +kernel
theorem Qiw:∀m:Fin 64,∀led:Bool,(tb m led).fits (Sm m).length=true:=by decide +kernel
theorem Qpr:∀m:Fin 64,∀v:Fin 6,∀led:Bool,m.val.testBit v.val=false->(tp m v led).fits ((Sm m).length+1)=true:=by decide +kernel
theorem Qnq:∀m:Fin 64,∀v:Fin 6,m.val.testBit v.val=false->Sm (m ||| 2^v.val)=(Sm m).take (pz m v)++v.val::(Sm m).drop (pz m v):=by decide +kernel
theorem Qt6:∀m:Fin 64,∀v:Fin 6,∀led:Bool,m.val.testBit v.val=false->(tp m v led).tooFull=decide ((Sm m).length=4):=by decide +kernel
theorem Qt5:∀m:Fin 64,∀v:Fin 6,∀led:Bool,m.val.testBit v.val=false->(Sm m).length≠4->tp m v led=tb (m ||| 2^v.val) led:=by decide +kernel
theorem Qrk:∀m:Fin 64,∀v:Fin 6,∀led:Bool,m.val.testBit v.val=false->(Sm m).length=4->(tp m v led).relaid ((Sm (m ||| 2^v.val)).map (λ(x:Nat)=>(x:Int))).toArray (QeA 5)=some (tb (m ||| 2^v.val) led,#[0,1,2,3,4]):=by decide +kernel
theorem Qxf:coversAll #[0,1,2,3,4] 5=true:=by decide +kernel
def so(m i:Nat):Nat:=match i with
 |0=>0
 |i+1=>(Sm m).toArray.getD i 0+1
theorem Qrl:∀m:Fin 64,∀i:Fin 7,i.val<=(Sm m).length->Qb1 (Sm m).toArray (so m i)=i:=by decide +kernel
theorem Qxd:∀m:Fin 64,∀v:Fin 6,decide (v.val∈Sm m)=m.val.testBit v.val:=by decide +kernel
theorem Qxc:∀m:Fin 64,∀v:Fin 6,m.val ||| 2^v.val<64:=by decide +kernel
theorem Qxe:∀m:Fin 64,∀v:Fin 6,m.val.testBit v.val=true->m.val ||| 2^v.val=m:=by decide +kernel
theorem QjD:∀m:Fin 64,(Sm m).length<=6:=by decide +kernel
theorem Qty{m x:Nat}(h:x∈Sm m):x<6:=Js.mp (Qu.mp h).1
theorem Qe5:∀v:Fin 6,hashInt (v.val:Int)=(v.val:Int):=by decide +kernel
def EsOk(es:Array (Int×Value))(S:List Nat):Prop:=∃tks:List Tok,tks.length=S.length/\es.toList=Qeu (λ(v:Nat)(tk:Tok)=>((v:Int),YJ (v:Int) tk)) S tks
theorem EsOk.size{es:Array (Int×Value)}{S:List Nat}(h:EsOk es S):es.size=S.length:=by
 obtain⟨tks,hl,e⟩:=h;rw[<- Qg,e,List.length_zipWith,hl,Nat.min_self]
theorem EsOk.ins{es:Array (Int×Value)}{S:List Nat}(h:EsOk es S)(p v:Nat)(tk:Tok):EsOk (Jw es p ((v:Int),.int v tk)) (S.take p++v::S.drop p):=by
 obtain⟨tks,hl,e⟩:=h;refine⟨tks.take p++tk::tks.drop p,by simp[hl],?_⟩;rw[SetTable.toList_insertAt,e,List.zipWith_append (by simp[hl]),List.take_zipWith,List.drop_zipWith];rfl
theorem Qp9{S:List Nat}{e:Int×Value}:∀{tks:List Tok},e∈Qeu (λ(v:Nat)(tk:Tok)=>((v:Int),YJ (v:Int) tk)) S tks->∃v∈S,∃tk,e=((v:Int),.int v tk):=by
 induction S with
 |nil=>intro tks h;cases tks<;>cases h
 |cons x S ih=>
  intro tks h;cases tks with
  |nil=>cases h
  |cons t tks=>
   rcases Qy.mp h with z | z
   ·exact⟨x,.head _,t,z⟩
   ·obtain⟨v,hv,r⟩:=ih z;exact⟨v,.tail _ hv,r⟩
theorem EsOk.mem{es:Array (Int×Value)}{S:List Nat}(h:EsOk es S){e:Int×Value}(he:e∈es.toList):∃v∈S,∃tk,e=((v:Int),.int v tk):=by
 obtain⟨tks,hl,e'⟩:=h;rw[e'] at he;exact Qp9 he
theorem Qra{S:List Nat}{v:Nat}(hv:v∈S):∀{tks:List Tok},tks.length=S.length->∃tk,((v:Int),YJ (v:Int) tk)∈Qeu (λ(v:Nat)(tk:Tok)=>((v:Int),YJ (v:Int) tk)) S tks:=by
 induction S with
 |nil=>cases hv
 |cons x S ih=>
  intro tks hl;cases tks with
  |nil=>cases hl
  |cons t tks=>
   rcases Qy.mp hv with z | z
   ·subst z;exact⟨t,.head _⟩
   ·obtain⟨tk,h⟩:=ih z (Qhg hl);exact⟨tk,.tail _ h⟩
theorem EsOk.has{es:Array (Int×Value)}{S:List Nat}(h:EsOk es S){v:Nat}(hv:v∈S):∃tk,((v:Int),YJ (v:Int) tk)∈es.toList:=by
 obtain⟨tks,hl,e⟩:=h;rw[e];exact Qra hv hl
theorem EsOk.hashes{es:Array (Int×Value)}{S:List Nat}(h:EsOk es S):es.map (·.1)=(S.map λ(x:Nat)=>(x:Int)).toArray:=by
 obtain⟨tks,hl,e⟩:=h;apply Qau.mp
 rw[Qev,e,Qm3];have:∀(S:List Nat)(tks:List Tok),tks.length=S.length->(Qeu (λ(v:Nat)(tk:Tok)=>((v:Int),YJ (v:Int) tk)) S tks).map (·.1)=S.map λ(x:Nat)=>(x:Int):=λS=>by
  induction S with
  |nil=>intro tks _;cases tks<;>rfl
  |cons x S ih=>
   intro tks hl;cases tks with
   |nil=>cases hl
   |cons t tks=>
    show(x:Int)::_=(x:Int)::_;rw[ih tks (Qhg hl)]
 exact this S tks hl
theorem EsOk.elems{prog:QB}{w:Ji}{es:Array (Int×Value)}{m:Nat}(h:EsOk es (Sm m)):ElemsOf (intKind prog w) es.toList:=λe he=>by
 obtain⟨v,hv,tk,rfl⟩:=h.mem he;exact⟨⟨(v:Int),Qf7 _ _ _ _,(Qe5 ⟨v,Qty hv⟩).symm⟩,rfl⟩
structure Sml (h:Heap) (a:Addr) (m:Nat) (led:Bool):Prop where
 ex:∃es ep,SetAt h a es ep (tb m led)/\EsOk es (Sm m)
theorem Sml.at'{h h':Heap}{a:Addr}{m:Nat}{led:Bool}(x:Sml h a m led)(k:∀o,h.get? a=some o->h'.get? a=some o):Sml h' a m led:=by
 obtain⟨es,ep,sa,eo⟩:=x.ex;exact⟨es,ep,sa.at' k,eo⟩
theorem SetAt.store{h:Heap}{a:Addr}{es es':Array (Int×Value)}{ep:Nat}{t t':SetTable}(x:SetAt h a es ep t)(hf:t'.fits es'.size=true):SetAt (h.update a (Qp0 es' t')) a es' (ep+1) t':=by
 obtain⟨o,ho,hex,hd⟩:=x.at_;have hg:=JY (Qp0 es' t') ho (by rw[putSet_of es' t' hd];rfl);rw[putSet_of es' t' hd] at hg;exact⟨⟨_,hg,hex,rfl⟩,hf⟩
section
variable{prog:QB}{w:Ji}{A:Q3}{E:Value->Shared->Prop}{s:Shared}
theorem Qhb{a:Addr}{m v:Nat}{led:Bool}{tk:Tok}{Q:Bool->Shared->Prop}(hm:m<64)(hv:v<6)(x:Sml s.heap a m led)
  (h:∀h' b,Qa5 a s.heap h'->Sml h' a (m ||| 2^v) led->Q b { s with heap:=h' }):wpAny (model prog w) A (setAddHashed a (.int (v:Int) tk) (hashInt (v:Int))) Q E s:=by
 obtain⟨es,ep,sa,eo⟩:=x.ex;obtain⟨o,ho,hex,hd⟩:=sa.at_;have sz:=eo.size;have l6:=QjD ⟨m,hm⟩;have hel:ElemsOf (intKind prog w) es.toList:=eo.elems;have hb:es.size<scanBound:=by unfold scanBound;have:(Sm m).length<=6:=l6;omega
 unfold setAddHashed setAddHashedIn;refine JJ (Qa (QaF ho hd sa.ft ?_))
 dsimp only
 rw[byScan_of (knd:=intKind prog w) (x:=.int (v:Int) tk) rfl hb hel,if_pos rfl];unfold setAddByScan;refine Qa (Qa (ZP (Qa (wpAny_setScan_of (knd:=intKind prog w) (k:=(v:Int)) (Qf7 _ _ _ _) ho hd sa.ft hel ?_))));have tm:decide (v∈Sm m)=m.testBit v:=Qxd ⟨m,hm⟩ ⟨v,hv⟩;cases hr:List.findIdx? (λe=>(intKind prog w).is (v:Int) e.2) es.toList with
 |some j=>
  obtain⟨hj,hpj,_⟩:=List.findIdx?_eq_some_iff_getElem.mp hr
  obtain⟨u,hu,tk2,eu⟩:=eo.mem (Z9 hj);rw[eu] at hpj;have e2:u=v:=by
   have:=(intKind prog w).inj (.int (u:Int) tk2) (v:Int) (u:Int) hpj (Qf7 _ _ _ _);omega
  subst e2;have tb1:m.testBit u=true:=by rw[<- tm];exact decide_eq_true hu
  have e3:m ||| 2^u=m:=Qxe ⟨m,hm⟩ ⟨u,hv⟩ tb1
  dsimp only
  refine wpAny_pure (wpAny_pure ?_);have e:s={ s with heap:=s.heap }:=by cases s;rfl
  rw[e];exact h s.heap false (Qhk a s.heap) (by rw[e3];exact⟨es,ep,sa,eo⟩)
 |none=>
  have nb:m.testBit v=false:=by
   rw[<- tm];refine decide_eq_false λhu=>?_
   obtain⟨tk2,ht⟩:=eo.has hu;have:=List.findIdx?_eq_none_iff.mp hr _ ht
   rw[Qf7] at this;cases this
  have lay:layNew (tb m led) es (hashInt (v:Int)) (.int (v:Int) tk)=(Jw es (pz m v) ((v:Int),.int (v:Int) tk),tp m v led,false,false):=by
   have f1:(tb m led).freeSlot (v:Int)=some (v,false):=Qt7 ⟨m,hm⟩ ⟨v,hv⟩ led nb;have f2:(tb m led).put v=(tp m v led,pz m v):=Qxb ⟨m,hm⟩ ⟨v,hv⟩ led nb;have f3:(tp m v led).fits ((Sm m).length+1)=true:=Qpr ⟨m,hm⟩ ⟨v,hv⟩ led nb;have ei:=(eo.ins (pz m v) v tk).size;have ei:(Jw es (pz m v) ((v:Int),.int (v:Int) tk)).size=(Sm m).length+1:=by rw[ei,<- Qnq ⟨m,hm⟩ ⟨v,hv⟩ nb,Qnq ⟨m,hm⟩ ⟨v,hv⟩ nb];simp;omega
   unfold layNew;rw[Qe5 ⟨v,hv⟩];rw[show((⟨v,hv⟩:Fin 6).val:Int)=(v:Int) from rfl,f1]
   dsimp only
   rw[f2]
   dsimp only
   unfold SetTable.orStandIn;rw[ei,f3];rfl
  have eo1:=eo.ins (pz m v) v tk;rw[<- Qnq ⟨m,hm⟩ ⟨v,hv⟩ nb] at eo1;have eo1:EsOk (Jw es (pz m v) ((v:Int),.int (v:Int) tk)) (Sm (m ||| 2^v)):=eo1;have s1:(Jw es (pz m v) ((v:Int),.int (v:Int) tk)).size=(Sm m).length+1:=by
   rw[eo1.size,show Sm (m ||| 2^v)=_ from Qnq ⟨m,hm⟩ ⟨v,hv⟩ nb];simp;omega
  dsimp only
  rw[lay]
  dsimp only
  refine Qa (ZB (a:=()) rfl ?_);rw[if_pos (show(tp m v led).plain=true from rfl),hashByValue_scannable 8 (x:=.int (v:Int) tk) rfl];refine Qa (wpAny_pure ?_);have pk:plainKind (.int (v:Int) tk)=true:=rfl;simp only[pk,if_true];have m64:m ||| 2^v<64:=Qxc ⟨m,hm⟩ ⟨v,hv⟩;have f3:(tp m v led).fits (Jw es (pz m v) ((v:Int),.int (v:Int) tk)).size=true:=by rw[s1];exact Qpr ⟨m,hm⟩ ⟨v,hv⟩ led nb
  have sa1:=sa.store (es':=Jw es (pz m v) ((v:Int),.int (v:Int) tk)) (t':=tp m v led) f3;have sb1:=Yp s.heap a (Qp0 (Jw es (pz m v) ((v:Int),.int (v:Int) tk)) (tp m v led));refine Qa (QwC ho hd ?_ (by rw[s1];show _<=2^24;have:(Sm m).length<=6:=l6;omega));have tf:(tp m v led).tooFull=decide ((Sm m).length=4):=Qt6 ⟨m,hm⟩ ⟨v,hv⟩ led nb;rw[tf];by_cases z:(Sm m).length=4
  ·rw[decide_eq_true z,if_pos (show(!false&&true)=true from rfl)];have rl:relayAll (tp m v led) (Jw es (pz m v) ((v:Int),.int (v:Int) tk)) (QeA (Jw es (pz m v) ((v:Int),.int (v:Int) tk)).size)=(Jw es (pz m v) ((v:Int),.int (v:Int) tk),tb (m ||| 2^v) led,false):=by
    rw[s1,z];have s5:(Jw es (pz m v) ((v:Int),.int (v:Int) tk)).size=5:=by rw[s1,z]
    have f4:(tp m v led).relaid ((Sm (m ||| 2^v)).map (λ(x:Nat)=>(x:Int))).toArray (QeA 5)=some (tb (m ||| 2^v) led,#[0,1,2,3,4]):=Qrk ⟨m,hm⟩ ⟨v,hv⟩ led nb z;have f5:(tb (m ||| 2^v) led).fits 5=true:=by
     have:=Qiw ⟨m ||| 2^v,m64⟩ led;rw[show(Sm (⟨m ||| 2^v,m64⟩:Fin 64).val).length=5 by show(Sm (m ||| 2^v)).length=5;rw[<- eo1.size,s5]] at this;exact this
    unfold relayAll;rw[eo1.hashes,show(4:Nat)+1=5 from rfl,f4]
    dsimp only
    generalize Jw es (pz m v) ((v:Int),.int (v:Int) tk)=X at s5;have ex:(#[0,1,2,3,4]:Array Nat).filterMap (X[·]?)=X:=by
     have q:=filterMap_getElem?_range X
     rw[s5] at q;apply Qau.mp
     rw[Array.toList_filterMap];exact q
    rw[ex,s5,Qxf,f5];rfl
   rw[rl]
   dsimp only
   refine Qa (ZB (a:=()) rfl ?_);obtain⟨o1,ho1,hex1,hd1⟩:=sa1.at_;refine Qa (QwC ho1 hd1 ?_ (by rw[s1];show _<=2^24;omega));refine wpAny_pure ?_
   dsimp only
   refine wpAny_pure (h _ _ (sb1.trans (Yp _ a _)) ⟨_,_,sa1.store (by rw[eo1.size];exact Qiw ⟨m ||| 2^v,m64⟩ led),eo1⟩)
  ·rw[decide_eq_false z,if_neg (show ¬(!false&&false)=true by decide)];refine wpAny_pure ?_
   dsimp only
   have tn:tp m v led=tb (m ||| 2^v) led:=Qt5 ⟨m,hm⟩ ⟨v,hv⟩ led nb z;have sa2:=sa1;rw[tn] at sa2;rw[tn] at sb1 ⊢;exact wpAny_pure (h _ _ sb1 ⟨_,_,sa2,eo1⟩)
end
def bits(val:Nat->Nat):Nat->Nat
 |0=>0
 |i+1=>bits val i ||| 2^val i
theorem Qih{val:Nat->Nat}:∀{i:Nat},(∀j,j<i->val j<6)->bits val i<64
 |0,_=>by show 0<64;decide
 |i+1,h=>Qxc ⟨bits val i,Qih λj hj=>h j (by omega)⟩ ⟨val i,h i (by omega)⟩
section
variable{prog:QB}{w:Ji}{A:Q3}{R:Qjt->Shared->Prop}{I:Addr}{fp wr:List Addr}{n:Nat}{P:Nat->Value->Prop}{St:Nat->Heap->Prop}
theorem Qnm(W:Walks prog w A.in1 I fp wr n P St)(S:Addr)(hSf:S∉fp){led:Bool}(val:Nat->Nat)(hval:∀i v,P i v->∃t,v=.int ((val i:Nat):Int) t)(h6:∀i,i<n->val i<6) :
  ∀(k i:Nat)(s:Shared),n - i=k->i<=n->St i s.heap->Sml s.heap S (bits val i) led ->
   (∀h' tk,(∀b o,b∉S::wr->s.heap.get? b=some o->h'.get? b=some o)->Sml h' S (bits val n) led->R (.ok (.ret .none)) { s with heap:=h',toks:=tk }) ->
   codeAny (model prog w) A (.builtin "set.update.loop" ⟨[.ref S,.ref I],[]⟩) R s:=by
 have hSw:S∉wr:=λz=>hSf (W.sub _ z)
 intro k;induction k with
 |zero=>
  intro i s hk hi hst hS hR;obtain rfl:i=n:=by omega
  refine J8 Qbm ?_
  rw[JK Yb _];show wpAny _ A.in1 (pyNext (.ref I) >>= _) _ _ s;refine Qa (W.done s _ _ hst λh' tk hk'=>wpAny_pure (hR h' tk (λb o hb e=>hk' b o (λz=>hb (Jg _ z)) e) (hS.at' λo e=>hk' S o hSw e)))
 |succ k ih=>
  intro i s hk hi hst hS hR;have hlt:i<n:=by omega
  refine J8 Qbm ?_
  rw[JK Yb _];show wpAny _ A.in1 (pyNext (.ref I) >>= _) _ _ s;refine Qa (W.item i s _ _ hlt hst λv h' tk hP hst' hk'=>?_);obtain⟨t,rfl⟩:=hval i v hP;have hS':=hS.at' λo e=>hk' S o hSw e
  show wpAny _ A.in1 (holding [_] (setAdd S _) >>= _) _ _ _;refine Qa (JJ ?_);unfold setAdd;refine JJ (Qa ((intKind prog w).pyHash (k:=((val i:Nat):Int)) (Qf7 _ _ _ _) ?_));refine Qhb (s:={ s with heap:=h',toks:=tk+1 }) (Qih λj hj=>h6 j (by omega)) (h6 i hlt) hS' λh2 b hsb hS2=>?_
  refine wpAny_pure ⟨Yf Yb _,ih (i+1) _ (by omega) hlt (W.frame _ h' _ hst' λb hb o e=>?_) hS2 λh3 tk3 hk3 hS3=>hR h3 tk3 (λb o hb e=>?_) hS3⟩
  ·show h2.get? b=some o;rw[hsb.2 b (λz:b=S=>hSf (by rw[<- z];exact hb))];exact e
  ·refine hk3 b o hb ?_
   show h2.get? b=some o;rw[hsb.2 b (λz:b=S=>hb (by rw[z];exact J4))];exact hk' b o (λz=>hb (Jg _ z)) e
end
section
variable{prog:QB}{w:Ji}{A:Q3}{E:Value->Shared->Prop}{s:Shared}{a:Addr}{es:Array (Int×Value)}{ep:Nat}{t:SetTable}{ps:List (List Int×Addr)}
end
section
variable{prog:QB}{w:Ji}{A:Q3}{E:Value->Shared->Prop}{s:Shared}{a:Addr}{es:Array (Int×Value)}{ep:Nat}{t:SetTable}{ps:List (List Int×Addr)}
end
section
variable{prog:QB}{w:Ji}{A:Q3}{E:Value->Shared->Prop}{s:Shared}
def ledOf(w:Ji):Bool := !w.params.followText "set-order"
theorem Qrv(a:Value){Q:Value->Shared->Prop}(h:Q (.ref s.heap.objs.size) { s with heap:=s.heap.push { cls:=.type "set",dict:=none,data:=.set #[] 0 (.fresh 0 0 (ledOf w)) } }):codeAny (model prog w) A (.call (.builtin "set.__new__") ⟨[.type "set",a],[]⟩) (wants Q E) s:=by
 refine Qdo (by
  show wpAny _ A.in1 (do checkBuiltinCall "set.__new__" ⟨[.type "set",a],[]⟩;again (.builtin "set.__new__" ⟨[.type "set",a],[]⟩)) _ _ s;refine Qa (ZB (PySem.F.newCall_set_1 a) (wpAny_pure ⟨Yf Qw4 _,J8 F.entry_set_new ?_⟩));rw[JK Qw4 _];unfold YS.«set.__new__» Qp8;have hsub:=sub_set_self;obtain⟨hp,g,d,tk,os⟩:=s
  dsimp only;wp_walk
  refine ZQ (wpAny_pure ?_);dsimp only;simp only[newObj];refine Qa (wpAny_alloc (wpAny_pure ?_));exact wpAny_pure h)
theorem call_setS{l:Addr}{items:Array Value}{n:Nat}{val:Nat->Nat}{Q:Value->Shared->Prop}(hh:A.handled=none)(hl:s.heap.IsList l items)(hn:items.size=n)(hval:∀(i:Nat)(v:Value),items[i]? = some v->∃t,v=YJ ((val i:Nat):Int) t)(h6:∀i,i<n->val i<6)
  (h:∀(h':Heap)(tk:Nat),Sml h' s.heap.objs.size (bits val n) (ledOf w)->(∀b o,b<s.heap.objs.size->s.heap.get? b=some o->h'.get? b=some o)->Q (.ref s.heap.objs.size) { s with heap:=h',toks:=tk }):wpAny (model prog w) A (call (.type "set") [.ref l]) Q E s:=by
 obtain⟨c,tl,hmro⟩:=Y3.mro;have hmade:=Y3.made;have hsub:=Y3.sub;refine QmY (Qdo (by
  show wpAny _ _ (callAny (.type "set") _) _ _ _;refine wpAny_pure ⟨Code.quiet_builtin _ (by decide +kernel),J8 F.entry_type_call ?_⟩;rw[Around.under_plain (weight_type_call_type "set" [.ref l] []) rfl];have h1:=Y3.notType;have h2:=Y3.canCreate;have hct:=F.typeCall_set_1 (.ref l)
  repeat (any_goals (first | assumption | wp_step))
  refine QbF (Qrv (.ref l) (E:=E) (Q:=λobj s₁=>obj=.ref s.heap.objs.size/\s₁={ s with heap:=s.heap.push { cls:=.type "set",dict:=none,data:=.set #[] 0 (.fresh 0 0 (ledOf w)) } }) ⟨rfl,rfl⟩) λr s₁ hr=>?_
  cases r with
  |error e=>exact hr
  |ok fl=>
   cases fl with
   |ret obj=>
    obtain⟨rfl,rfl⟩:=hr;have hS:(s.heap.push { cls:=.type "set",dict:=none,data:=.set #[] 0 (.fresh 0 0 (ledOf w)) }).get? s.heap.objs.size=some { cls:=.type "set",dict:=none,data:=.set #[] 0 (.fresh 0 0 (ledOf w)) }:=Qz _ rfl;have hT:Qhd { s with heap:=s.heap.push { cls:=.type "set",dict:=none,data:=.set #[] 0 (.fresh 0 0 (ledOf w)) } } (.ref s.heap.objs.size) "set" := ⟨_,hS,rfl⟩;have hli:=Y3.init.lookup;have hbi:=Y3.init.bind (.ref s.heap.objs.size)
    repeat (any_goals (first | assumption | wp_step))
    refine QbF (QtC (R:=wants (λr s₂=>r=.none/\∃h' tk,s₂={ s with heap:=h',toks:=tk }/\Sml h' s.heap.objs.size (bits val n) (ledOf w)/\(∀b o,b<s.heap.objs.size->s.heap.get? b=some o->h'.get? b=some o)) E) Y3.init.plain F.entry_set_init (check_set_init_1 hT ?_)) λr₂ s₂ hr₂=>?_
    ·obtain⟨⟨ocls,odict,odata,oslots⟩,hol,hcl,nl,hdl⟩:=hl;simp only at hcl hdl;subst hcl hdl;have hol':(s.heap.push { cls:=.type "set",dict:=none,data:=.set #[] 0 (.fresh 0 0 (ledOf w)) }).get? l=some { cls:=.type "list",dict:=odict,data:=.seq items nl,slots:=oslots }:=Qm _ hol;have hsls:=F.sub_list_set;have hslf:=F.sub_list_frozenset;have hne:(ZS "list" == ZS "dict")=false:=by decide
     have hl1:(s.heap.push { cls:=.type "set",dict:=none,data:=.set #[] 0 (.fresh 0 0 (ledOf w)) }).IsList l items:=⟨_,hol',rfl,nl,rfl⟩;unfold YS.«set.__init__» noKeywords Qp6;generalize hPI:pyIter=PI;wp_walk;subst hPI;refine QbZ hl1 (Qa (wpAny_runValue ?_));have hlS:l<s.heap.objs.size:=Qw hol;have hneI:l≠(s.heap.push { cls:=.type "set",dict:=none,data:=.set #[] 0 (.fresh 0 0 (ledOf w)) }).objs.size:=by rw[YL];exact QV (Yz hlS)
     have hSf:s.heap.objs.size∉[(s.heap.push { cls:=.type "set",dict:=none,data:=.set #[] 0 (.fresh 0 0 (ledOf w)) }).objs.size,l]:=by
      rw[YL];simp only[Qy,Zs,or_false,not_or];exact⟨QV (Qfe _),Qar hlS⟩
     have w0:=Walks.list (prog:=prog) (w:=w) (A:=A.in1.in1.in1) (by simp[hh]) (s.heap.push { cls:=.type "set",dict:=none,data:=.set #[] 0 (.fresh 0 0 (ledOf w)) }).objs.size l hneI items;rw[hn] at w0;refine Qnm (led:=ledOf w) w0 s.heap.objs.size hSf val (λi v hv=>hval i v hv) h6 n 0 _ (by omega) (Qr _) ⟨⟨_,Qz _ rfl,rfl,rfl⟩,hl1.push _⟩ ?hS0 ?hR
     case hS0=>
      refine⟨#[],0,⟨⟨_,Qm _ hS,⟨rfl,rfl,rfl⟩,?_⟩,by rw[show bits val 0=0 from rfl];exact Qiw ⟨0,by decide⟩ _⟩,by rw[show bits val 0=0 from rfl];exact⟨[],by decide,by decide⟩⟩;rw[show bits val 0=0 from rfl,QkF]
     case hR=>
      intro h' tk hk hS';refine wpAny_pure ?_
      refine wpAny_pure ⟨rfl,h',tk,rfl,hS',λb o hb e=>?_⟩;have hb2:b≠(s.heap.push { cls:=.type "set",dict:=none,data:=.set #[] 0 (.fresh 0 0 (ledOf w)) }).objs.size:=by rw[YL];exact QV (Yz hb)
      exact hk b o (by simp only[Qy,Zs,or_false,not_or];exact⟨QV hb,hb2⟩) (Qm _ (Qm _ e))
    ·cases r₂ with
     |error e=>exact hr₂
     |ok fl₂=>
      cases fl₂ with
      |ret r=>
       obtain⟨rfl,h',tk,rfl,hS',hk'⟩:=hr₂
       repeat (any_goals (first | assumption | wp_step))
       exact h _ _ hS' hk'
      |_=>exact hr₂
   |_=>exact hr))
end
section
variable{prog:QB}{w:Ji}{s:Shared}{a:Addr}{es:Array (Int×Value)}{ep:Nat}{t:SetTable}{ps:List (List Int×Addr)}
variable{A:Q3}{R:Qjt->Shared->Prop}{I:Addr}{fp wr:List Addr}{n:Nat}{P:Nat->Value->Prop}{St:Nat->Heap->Prop}
end
section
variable{prog:QB}{w:Ji}{A:Q3}{E:Value->Shared->Prop}{s:Shared}
end
theorem QkP:Slot "set_iterator" "__iter__" "set_iterator.__iter__" :=
 .of (owner := "set_iterator") (n := "__iter__") (by rw[Qjo,Qdp];kernel_rfl) (by decide +kernel) (by decide +kernel) (by decide +kernel) (by first | exact .inl (by decide +kernel) | exact .inr (by decide +kernel)) (by rw[QbO];kernel_rfl)
theorem Qya:entryFor table "set_iterator.__iter__" = some YS.«dict_keyiterator.__iter__» := entryFor_alias (id' := "dict_keyiterator.__iter__") (by kernel_rfl) (by first | rfl | decide +kernel | (unfold QpY;simp +decide [QmZ])) (by decide +kernel) (by kernel_rfl)
theorem Qyl(a:Value):argsOk "set_iterator.__iter__" ⟨[a],[]⟩:=by
 unfold argsOk;rw[signature?_of (id := "set_iterator.__iter__") (n:=['_', '_', 'r', 'e', 't', 'i', '_', '_']) (o:=['r', 'o', 't', 'a', 'r', 'e', 't', 'i', '_', 't', 'e', 's']) (by kernel_rfl) Qu5];kernel_rfl
theorem QsQ:typeLookup (.type "set") "__len__" = pure (some (.builtin "set.__len__")):=by rw[Qjo,Qdp];kernel_rfl
section
variable{prog:QB}{w:Ji}{A:Q3}{E:Value->Shared->Prop}{s:Shared}
theorem Qrt{I a:Addr}{first:Value}{i n ep:Nat}{Q:Value->Shared->Prop}(hit:IsSI s.heap I first i a n ep)(h:Q (.ref I) s):wpAny (model prog w) A (pyIter (.ref I)) Q E s:=by
 refine QwE hit.typeIs QkP (Zd QkP hit.typeIs Qya ?_ (Qyl _));show wpAny _ _ (ret (.ref I)) _ _ s;exact wpAny_pure ⟨_,rfl, "set_iterator",_,hit.typeIs,QcQ.lookup,h⟩
theorem Qh8{a:Addr}{es vs:Array (Int×Value)}{ep:Nat}{t:SetTable}{so:Nat->Nat}{Q:List Value->Shared->Prop}(hh:A.handled=none)(W:Way prog w a es ep t so vs)(ha:SetAt s.heap a es ep t)(hp:t.plain=true)(hn:es.size<=sizeLine)
  (hQ:∀(h':Heap)(tk:Nat),(∀b o,s.heap.get? b=some o->h'.get? b=some o)->Q (vs.toList.map (·.2)) { s with heap:=h',toks:=tk }):wpAny (model prog w) A (collect (.ref a)) Q E s:=by
 have hlt:a<s.heap.objs.size:=let ⟨o,ho,_⟩:=ha.at_;Qw ho
 unfold collect;refine Qa (wpAny_runValue (J8 F.entry_proto_collect ?_));rw[JK F.plain_proto_collect _];show wpAny _ A.in1 (newList [] >>= λl=>again (.builtin "list.__iadd__" ⟨[l,.ref a],[]⟩)) _ _ s;refine Qa (JS (wpAny_pure ⟨Yf QtS _,J8 F.entry_list_iadd ?_⟩));rw[JK QtS _];generalize hH:s.heap.push { cls:=.type "list",data:=.seq ([]:List Value).toArray }=H;have hHs:H.objs.size=s.heap.objs.size+1:=by rw[<- hH,YL]
 have keep:∀b o,s.heap.get? b=some o->H.get? b=some o:=λb o e=>hH ▸ Qm _ e
 have hS:H.get? s.heap.objs.size=some { cls:=.type "list",data:=.seq ([]:List Value).toArray }:=hH ▸ Qz _ rfl;have ha1:SetAt H a es ep t:=ha.at' λo e=>keep a o e
 have hT:Qhd { s with heap:=H } (.ref a) "set" := let ⟨o,ho,hx,_⟩:=ha1.at_;⟨o,ho,hx.1⟩
 show wpAny _ A.in1 (Qdf (.ref s.heap.objs.size) (.ref a) (.ref s.heap.objs.size)) _ _ { s with heap:=H };unfold Qdf;refine Qa (Qdl hT ?_);have h1:QdR (.ref s.heap.objs.size) (.ref a)=false:=by simp[QdR,Qar hlt]
 have h2:(ZS "set" == ZS "list")=false:=by decide
 have h3:(ZS "set" == ZS "tuple")=false:=by decide
 simp only[h1,h2,h3,Bool.or_false,JT,if_false];refine Qa (QvC ha1 hp ?_);generalize hH2:Heap.push H { cls:=.type "set_iterator",data:=.fields #[.int 0 0,.int 0 0,.ref a,.int es.size 0,.int ep 0] }=H2;have keep2:∀b o,H.get? b=some o->H2.get? b=some o:=λb o e=>hH2 ▸ Qm _ e
 have hT2:Qhd { s with heap:=H2 } (.ref a) "set" := let ⟨o,ho,hc⟩:=hT;⟨o,keep2 a o ho,hc⟩
 have hI:IsSI H2 H.objs.size (.int (so 0) 0) 0 a es.size ep:=⟨_,hH2 ▸ Qz _ rfl,rfl,by rw[W.s0];rfl⟩;refine Qa (JJ ?_);show wpAny _ A.in1 _ _ _ { s with heap:=H2 };unfold Builtin.List.listLengthHint;refine Qa (wpAny_specialOf hT2 QsQ ?_)
 wp_delta
 refine Qa (wpAny_isInstance (b:=true) hT2 (by rw[QbO];kernel_rfl) ?_);show wpAny _ A.in1 (typeOf (Z6 a) >>= _) _ _ _;refine Qa (Qdl hT2 (wpAny_pure ?_));show wpAny _ A.in1 (rule "list.extend.makes-room" >>= λ_=>Builtin.List.listTouch (.ref s.heap.objs.size) >>= λ_=>again (.builtin "list.extend.loop" ⟨[.ref s.heap.objs.size,.ref H.objs.size,.ref s.heap.objs.size],[]⟩)) _ _ _;refine Qa (ZP (Qa ?_));show wpAny _ A.in1 (updateSeq s.heap.objs.size (·.push .none) >>= λ_=>updateSeq s.heap.objs.size (·.pop)) _ _ _;have hS1:=keep2 _ _ hS;refine Qa (Qbj hS1 rfl ?_);have hS2:=JY (Zg (·.push ZI)) hS1 rfl;refine Qbj hS2 rfl ?_
 have hS3:=JY (Zg (·.pop)) hS2 rfl;generalize hH3:(H2.update s.heap.objs.size (Zg (·.push ZI))).update s.heap.objs.size (Zg (·.pop))=H3 at hS3 ⊢;have oth:∀b o,b≠s.heap.objs.size->H2.get? b=some o->H3.get? b=some o:=λb o hb e=>hH3 ▸ (Za _ _ (QaZ hb)).trans ((Za _ _ (QaZ hb)).trans e)
 have hIS:H.objs.size≠s.heap.objs.size:=by omega
 have hne:a≠H.objs.size:=by rw[hHs];exact QV (Yz hlt)
 have hSf:s.heap.objs.size∉[H.objs.size,a]:=by simp only[Qy,Zs,or_false,not_or];exact⟨by omega,Qar hlt⟩
 have WW:=(Way.walks (A:=A.in1) hh W H.objs.size hne λs Q E i st q=>Qrt st q).toS;refine wpAny_pure ⟨Yf F.plain_extend_loop _,codeAny_extend_loopS WW hn _ hSf _ es.size 0 { s with heap:=H3 } _ _ rfl (Qr _) ⟨hI.at' λo e=>oth _ o hIS e,ha1.at' λo e=>oth a o (QV hlt) (keep2 a o e)⟩ hS3 (ItemsOf.nil _) λs' acc' c' hm hS' hacc=>?_⟩;show wpAny _ A (load s.heap.objs.size >>= _) _ _ s';refine Qa (wpAny_load hS' (wpAny_pure ?_));have hl:vs.size=es.size:=by rw[<- Qg,W.pm.length_eq,Qg]
 have he:acc'.toList=vs.toList.map (·.2):=by
  apply Qah
  intro j;rw[QF,JQ,JQ];by_cases z:j<acc'.size
  ·have:=hacc.2 j acc'[j] (by simp[z]);rw[this];simp[z]
  ·rw[ZF (by omega),ZF (by have:=hacc.1;omega)];rfl
 show Q acc'.toList s';rw[he];have es':s'={ s with heap:=s'.heap,toks:=s'.toks }:=by
  obtain⟨hp',g',d',tk',os'⟩:=s';have e1:=hm.gens;have e2:=hm.drawn;have e3:=hm.os;simp only at e1 e2 e3;rw[e1,e2,e3]
 rw[es'];refine hQ _ _ λb o e=>?_
 have hb:=Qw e;refine hm.heap b o ?_ (oth b o (QV hb) (keep2 b o (keep b o e)))
 simp only[Qy,Zs,or_false,not_or];exact⟨QV hb,by rw[hHs];exact QV (Yz hb)⟩
end
end Zt
namespace L2
def blk(X:Cx)(M:List Str)(scope:QaM)(cl:List (Str×Addr))(ex:List Addr)(s3:Shared)(H3:Hp)(C:Addr):Cx where
 prog:=X.prog
 w:=X.w
 K:=X.K
 mg:=X.mg
 base:=X.base
 A:=X.A
 N:=M
 s₀:=s3
 H₀:=H3
 env:=compEnvC scope cl C X.env
 outer:=X.stack
 stack:=X.stack
 ex:=ex
 fn:=λ_=>false
 calm:=X.calm
 pn:=[]
 xe:=λ_ _=>False
def Qcj(env:Env):List (Str×QaH)->List (Str×Addr)->List (Str×Addr)
 |[],acc=>acc
 |(n,k)::r,acc=>Qcj env r (if k=.free then(n,(env.cells.lookup n).getD 0)::acc else acc)
theorem Qib{env:Env}:∀(l:List (Str×QaH))(acc:List (Str×Addr)),(∀x∈l,x.2=.free->∃c,env.cells.lookup x.1=some c) ->
  (forIn (m:=Sem) l acc λx cs=>(if(x.2 == Ja)=true then do let a <- cellOf env x.1;pure (JL ((x.1,a)::cs)) else pure (JL cs)))=pure (Qcj env l acc)
 |[],acc,_=>rfl
 |(n,k)::r,acc,h=>by
  rw[List.forIn_cons];by_cases hk:k=.free
  ·subst hk;obtain⟨c,hc⟩:=h (n,.free) J4 rfl;have e1:cellOf env n=pure c:=by unfold cellOf;rw[hc]
   have e2:Qcj env ((n,.free)::r) acc=Qcj env r ((n,c)::acc):=by
    show Qcj env r (if Ja=.free then(n,(env.cells.lookup n).getD 0)::acc else acc)=_;rw[if_pos rfl,hc];rfl
   rw[e2];show((if(Ja == Ja)=true then do let a <- cellOf env n;pure (JL ((n,a)::acc)) else pure (JL acc)) >>= _)=_;rw[if_pos (show(Ja == Ja)=true by decide),e1];exact Qib r _ λx hx=>h x (Jg _ hx)
  ·have hb:(k == Ja)=false:=by simpa using hk
   have e2:Qcj env ((n,k)::r) acc=Qcj env r acc:=by
    show Qcj env r (if k=.free then(n,(env.cells.lookup n).getD 0)::acc else acc)=_;rw[if_neg hk]
   rw[e2];show((if(k == Ja)=true then _ else pure (JL acc)) >>= _)=_;rw[hb,if_neg Qp];exact Qib r _ λx hx=>h x (Jg _ hx)
theorem QmA{scope:QaM}{env:Env}(h:∀x∈scope.names,x.2=.free->∃c,env.cells.lookup x.1=some c):closureFor scope env=pure (Qcj env scope.names []):=by
 have e:=Qib (env:=env) scope.names [] h;unfold closureFor;show(forIn scope.names [] _ >>= _)=_;have e':(forIn (m:=Sem) scope.names ([]:List (Str×Addr)) λx cs=>match x with | (name,kind)=>(if(kind == Ja)=true then do let a <- cellOf env name;pure (JL ((name,a)::cs)) else pure (JL cs)))=pure (Qcj env scope.names []):=e
 first
  |(rw[e'];rfl)
  |(refine Eq.trans (congrArg (λt=>t >>= _) e') ?_;rfl)
theorem Qic{env:Env}:∀(l:List (Str×QaH))(acc:List (Str×Addr)),(∀x∈l,x.2=.free->∃c,env.cells.lookup x.1=some c)->(∀x c,acc.lookup x=some c->env.cells.lookup x=some c) ->
  (∀x c,(Qcj env l acc).lookup x=some c->env.cells.lookup x=some c)/\(∀x c,acc.lookup x=some c->(Qcj env l acc).lookup x=some c)/\∀x,(x,Ja)∈l->∃c,(Qcj env l acc).lookup x=some c
 |[],acc,_,ha=>⟨ha,λ_ _ h=>h,λ_ h=>nomatch h⟩
 |(n,k)::r,acc,h,ha=>by
  have hr:∀x∈r,x.2=.free->∃c,env.cells.lookup x.1=some c:=λx hx=>h x (Jg _ hx)
  by_cases hk:k=.free
  ·subst hk;obtain⟨c,hc⟩:=h (n,.free) J4 rfl;have e2:Qcj env ((n,.free)::r) acc=Qcj env r ((n,c)::acc):=by
    show Qcj env r (if Ja=.free then(n,(env.cells.lookup n).getD 0)::acc else acc)=_;rw[if_pos rfl,hc];rfl
   rw[e2];have ha':∀x c',((n,c)::acc).lookup x=some c'->env.cells.lookup x=some c':=λx c' q=>by
    rw[Jl] at q;cases hx:x == n with
    |true=>
     rw[hx] at q;have z:c=c':=Qs q;have y:x=n:=by simpa using hx
     rw[y,<- z];exact hc
    |false=>rw[hx] at q;exact ha x c' q
   obtain⟨i1,i2,i3⟩:=Qic r ((n,c)::acc) hr ha';refine⟨i1,λx c' q=>?_,λx hx=>?_⟩
   ·refine i2 x c' ?_
    rw[Jl];cases hx:x == n with
    |true=>
     have y:x=n:=by simpa using hx
     have:=ha x c' q;rw[y,hc] at this;exact this
    |false=>exact q
   ·rcases Qy.mp hx with z | z
    ·cases z;exact⟨c,i2 n c (by rw[Jl,beq_self_eq_true])⟩
    ·exact i3 x z
  ·have e2:Qcj env ((n,k)::r) acc=Qcj env r acc:=by
    show Qcj env r (if k=.free then(n,(env.cells.lookup n).getD 0)::acc else acc)=_;rw[if_neg hk]
   rw[e2];obtain⟨i1,i2,i3⟩:=Qic r acc hr ha;refine⟨i1,i2,λx hx=>?_⟩;rcases Qy.mp hx with z | z
   ·cases z;exact absurd rfl hk
   ·exact i3 x z
theorem QbL{l:List (Str×QaH)}{x:Str}{k:QaH}(h:l.lookup x=some k):(x,k)∈l:=by
 induction l with
 |nil=>cases h
 |cons p r ih=>
  obtain⟨n,q⟩:=p;rw[Jl] at h;cases hx:x == n with
  |true=>
   rw[hx] at h;have y:x=n:=by simpa using hx
   have z:q=k:=Qs h;subst y z;exact J4
  |false=>rw[hx] at h;exact Jg _ (ih h)
theorem QaO{env:Env}:∀{names:List (Str×QaH)}{x:Str}{k:QaH},(names.map λ(n,k)=>if(k == Ja&&env.scope.kind == .function&&env.kindOf n == some .cell) then(n,Yl) else(n,k)).lookup x=some k ->
  names.lookup x=some k∨(k=.cell/\names.lookup x=some .free)
 |[],x,k,h=>by cases h
 |(n,q)::r,x,k,h=>by
  have ih:=@QaO env r x k;rw[Jh] at h;have h':Qf3 x ((if(q == Ja&&env.scope.kind == .function&&env.kindOf n == some .cell)=true then(n,Yl) else(n,q))::_)=some k:=h;cases hx:x == n with
  |true=>
   by_cases hc:(q == Ja&&env.scope.kind == .function&&env.kindOf n == some .cell)=true
   ·rw[if_pos hc,Jl,hx] at h';have z:Yl=k:=Qs h';have y:q=.free:=by simp at hc;exact hc.1.1
    refine .inr ⟨z.symm,?_⟩;rw[Jl,hx,y]
   ·rw[if_neg hc,Jl,hx] at h';refine .inl ?_
    rw[Jl,hx];exact h'
  |false=>
   have h2:Qf3 x (r.map λ(n,k)=>if(k == Ja&&env.scope.kind == .function&&env.kindOf n == some .cell) then(n,Yl) else(n,k))=some k:=by
    by_cases hc:(q == Ja&&env.scope.kind == .function&&env.kindOf n == some .cell)=true
    ·rw[if_pos hc,Jl,hx] at h';exact h'
    ·rw[if_neg hc,Jl,hx] at h';exact h'
   rw[Jl,hx];exact ih h2
theorem relabel_free{env:Env}:∀{names:List (Str×QaH)}{x:Str},names.lookup x=some .free->(names.map λ(n,k)=>if(k == Ja&&env.scope.kind == .function&&env.kindOf n == some .cell) then(n,Yl) else(n,k)).lookup x=some .cell ∨
   (names.map λ(n,k)=>if(k == Ja&&env.scope.kind == .function&&env.kindOf n == some .cell) then(n,Yl) else(n,k)).lookup x=some .free
 |[],x,h=>by cases h
 |(n,q)::r,x,h=>by
  have ih:=@relabel_free env r x;rw[Jh];show Qf3 x ((if(q == Ja&&env.scope.kind == .function&&env.kindOf n == some .cell)=true then(n,Yl) else(n,q))::_)=some .cell∨Qf3 x ((if(q == Ja&&env.scope.kind == .function&&env.kindOf n == some .cell)=true then(n,Yl) else(n,q))::_)=some .free;cases hx:x == n with
  |true=>
   rw[Jl,hx] at h;have z:q=Ja:=Qs h;subst z;by_cases hc:(Ja == Ja&&env.scope.kind == .function&&env.kindOf n == some .cell)=true
   ·rw[if_pos hc,Jl,hx];exact .inl rfl
   ·rw[if_neg hc,Jl,hx];exact .inr rfl
  |false=>
   rw[Jl,hx] at h;by_cases hc:(q == Ja&&env.scope.kind == .function&&env.kindOf n == some .cell)=true
   ·rw[if_pos hc,Jl,hx];exact ih h
   ·rw[if_neg hc,Jl,hx];exact ih h
def Qj9(N:List Str)(sc:QaM)(M:List Str)(scope:QaM)(cap:List (Option Nat)):Bool:=
 cap.length == M.length&&(M.zip cap).all (λ(x,o)=>match o with
  |none=>scope.names.lookup x == some .local
  |some j=>N[j]? == some x&&(scope.names.lookup x == some .free&&(sc.names.lookup x == some .cell||sc.names.lookup x == some .free))) &&
 (scope.kind == .function&&scope.names.all λy=>y.2 != .cell&&((y.2 != .free||(sc.names.lookup y.1 == some .cell||sc.names.lookup y.1 == some .free))&&(y.2 != .local||scope.names.lookup y.1 == some .local)))
def QfX(cap:List (Option Nat))(σ:St):St:=cap.map λo=>match o with
 |none=>none
 |some j=>(σ[j]?).getD none
structure CapOk (N:List Str) (sc:QaM) (M:List Str) (scope:QaM) (cap:List (Option Nat)):Prop where
 len:cap.length=M.length
 own:∀(i j:Nat)(x:Str),M[i]? = some x->cap[i]? = some (some j)->N[j]? = some x/\scope.names.lookup x=some .free/\(sc.names.lookup x=some .cell∨sc.names.lookup x=some .free)
 kind:scope.kind=.function
 cell:∀y∈scope.names,y.2≠.cell
 free:∀y∈scope.names,y.2=.free->sc.names.lookup y.1=some .cell∨sc.names.lookup y.1=some .free
 loc:∀y∈scope.names,y.2=.local->scope.names.lookup y.1=some .local
theorem CapOk.of{N:List Str}{sc:QaM}{M:List Str}{scope:QaM}{cap:List (Option Nat)}(h:Qj9 N sc M scope cap=true):CapOk N sc M scope cap:=by
 unfold Qj9 at h;simp only[Jp,Zv,beq_iff_eq] at h;obtain⟨⟨h1,h2⟩,h3,h4⟩:=h;refine⟨h1,λi j x e1 e2=>?_,h3,λy hy z=>?_,λy hy z=>?_,λy hy z=>?_⟩
 ·have hm:(x,some j)∈M.zip cap:=by
   have:(M.zip cap)[i]? = some (x,some j):=by rw[List.getElem?_zip_eq_some];exact⟨e1,e2⟩
   exact Jx this
  have:=h2 _ hm;simp only[Jp,beq_iff_eq,Qch] at this;exact this
 ·have:=(h4 y hy).1;simp[z] at this
 ·have:=(h4 y hy).2.1
  simpa [z] using this
 ·have:=(h4 y hy).2.2
  simpa [z] using this
section
variable{X:Cx}{pins:List (Addr×Obj)}{σ:St}{H H3:Hp}{s3:Shared}{M:List Str}{scope:QaM}{cap:List (Option Nat)}{fp:List Addr}{h4:Heap}{t4:Nat}
theorem Cx.Ok.cells(ok:X.Ok){N:List Str}(c:CapOk N X.env.scope M scope cap):∀y∈scope.names,y.2=.free->∃d,X.env.cells.lookup y.1=some d:=λy hy z=>ok.has y.1 (c.free y hy z)
theorem Qg6(I:Inv X pins σ H3 s3)(c:CapOk X.N X.env.scope M scope cap)(hf:∀b∈fp,FpOk X pins H3 b)(hb:∀b∈fp,b<s3.heap.objs.size)
  (hn:h4.Ns s3.heap.objs.size λ_=>none)(hk:∀b o,s3.heap.get? b=some o->h4.get? b=some o) :
  Inv (blk X M scope (Qcj X.env scope.names []) fp s3 H3 s3.heap.objs.size) [] (QfX cap σ) H3 { s3 with heap:=h4,toks:=t4 }:=by
 obtain⟨c1,c2,c3⟩:=Qic scope.names [] (I.ok.cells c) (λx d q=>by cases q);refine⟨⟨I.ok.mod,c.kind,I.ok.glob,I.ok.blt,Qj _,λx y d e1 e2=>I.ok.inj x y d (c1 x d e1) (c1 y d e2),λx hx=>?_,(λx d z=>nomatch z),I.ok.hd,I.ok.frames,.inl rfl,λb hb'=>?_,I.bs,
  Jd I.ok.bsz I.sz,λb o e z=>?_,λb hb' z=>?_,I.stack,I.stkFree⟩,rfl,I.bare,Un.kept hk,⟨_,hn,λi x v e1 e2 e3=>?_⟩,λx d e=>?_,I.hok.fresh (Qj _),λx d e=>I.freeC x d (c1 x d e),λp hp=>(nomatch hp),I.hok.kept hk,?_⟩
 ·have hx':(relabel scope X.env).names.lookup x=some .cell∨(relabel scope X.env).names.lookup x=some .free:=hx;rcases hx' with q | q
  ·rcases QaO q with z | ⟨_,z⟩
   ·exact absurd rfl (c.cell _ (QbL z))
   ·exact c3 x (QbL z)
  ·rcases QaO q with z | ⟨z,_⟩
   ·exact c3 x (QbL z)
   ·cases z
 ·obtain⟨f0,f1,f2,f3,f4,f5⟩:=hf b hb';exact⟨QV (hb b hb'),λx d e=>f4 x d (c1 x d e)⟩
 ·obtain⟨f0,f1,f2,f3,f4,f5⟩:=hf b z;rcases f3 with q | q
  ·exact I.ok.noex b o e q
  ·exact absurd (Q0 (Qw e) (Jd I.ok.bsz q)) (YA _)
 ·obtain⟨f0,f1,f2,f3,f4,f5⟩:=hf b hb';rcases Qy.mp (I.stkSub b z) with q | q
  ·exact f1 q
  ·exact f2 q
 ·have e2':(cap.map λo=>match o with | none=>none | some j=>(σ[j]?).getD none)[i]? = some (some v):=e2;rw[QF] at e2';cases q:cap[i]? with
  |none=>rw[q] at e2';cases e2'
  |some o=>
   rw[q] at e2';cases o with
   |none=>cases e2'
   |some j=>
    have e4:(σ[j]?).getD none=some v:=Qs e2';have e5:σ[j]? = some (some v):=by
     cases r:σ[j]? with
     |none=>rw[r] at e4;cases e4
     |some o=>rw[r] at e4;exact congrArg some e4
    obtain⟨n1,n2,n3⟩:=c.own i j x e1 q;obtain⟨m,hm,hl⟩:=I.loc;obtain⟨u,ru,lk⟩:=hl j x v n1 e5 (n3.elim (λz=>.inr (.inl z)) λz=>.inr (.inr z));refine⟨u,ru,.inr ?_⟩;rcases lk with⟨k1,_⟩ | ⟨_,d,k2,k3⟩
    ·have k1':X.env.scope.names.lookup x=some .local:=k1;rcases n3 with z | z<;>(rw[z] at k1';cases k1')
    ·obtain⟨d',hd'⟩:=c3 x (QbL n2);have ed:d'=d:=by
      have:=c1 x d' hd';rw[k2] at this;exact(Qs this).symm
     subst ed;exact⟨(relabel_free n2:(relabel scope X.env).names.lookup x=some .cell∨(relabel scope X.env).names.lookup x=some .free),d',hd',k3.keeps hk⟩
 ·obtain⟨v,q⟩:=I.cell x d (c1 x d e);exact⟨v,q.keeps hk⟩
 ·show(cap.map _).length=M.length;rw[Qd];exact c.len
theorem QmO{σ':St}{s':Shared}{h':Heap}(I:Inv X pins σ H3 s3)(hf:∀b∈fp,FpOk X pins H3 b)(J:Inv (blk X M scope (Qcj X.env scope.names []) fp s3 H3 s3.heap.objs.size) [] σ' H s')(hs:Qa5 s3.heap.objs.size s'.heap h') :
  Inv X pins σ H { s' with heap:=h' }:=by
 have u:Un (frs X.stack) fp H3 H s3.heap s'.heap:=J.base;have ne:∀b o,s3.heap.get? b=some o->b≠s3.heap.objs.size:=λb o e=>QV (Qw e)
 have hC:H s3.heap.objs.size=none:=J.free;refine I.call' (ch:=fp) (s':={ s' with heap:=h' }) J.os ⟨λb o e n hb hx=>(hs.2 b (ne b o e)).trans (u.keep b o e n hb hx),λb o e n hb hx=>?_,u.free,λb o e hx=>?_,u.tups,u.frzs,u.tbls⟩ (λb o e=>?_) J.bare λb hb=>?_
 ·obtain⟨sl,q⟩:=u.slot b o e n hb hx;exact⟨sl,(hs.2 b (ne b o e)).trans q⟩
 ·obtain⟨o',q⟩:=u.there b o e hx;exact⟨o',(hs.2 b (ne b o e)).trans q⟩
 ·refine(J.hok b o e).stay (λc v hc q=>(hs.2 c ?_).trans q) (λ_ q=>q) λ_ _ q=>q
  rintro rfl;rcases hc with z | z
  ·rw[<- z,hC] at e;cases e
  ·rw[hC] at z;cases z
 ·obtain⟨f0,f1,f2,f3,f4,f5⟩:=hf b hb;exact⟨f3,f1,f4,f5⟩
end
def Wk:St->St->Prop
 |[],[]=>True
 |none::a,_::b=>Wk a b
 |some v::a,some u::b=>v=u/\Wk a b
 |_,_=>False
theorem Wk.len:∀{a b:St},Wk a b->a.length=b.length
 |[],[],_=>rfl
 |none::a,_::b,h=>congrArg (·+1) (Wk.len (a:=a) (b:=b) h)
 |some v::a,some u::b,h=>congrArg (·+1) (Wk.len (a:=a) (b:=b) h.2)
 |[],_::_,h=>h.elim
 |some _::_,[],h=>h.elim
 |none::_,[],h=>h.elim
 |some _::_,none::_,h=>h.elim
theorem Wk.get:∀{a b:St},Wk a b->∀(i:Nat) v,a[i]? = some (some v)->b[i]? = some (some v)
 |[],[],_,i,v,h=>by simp at h
 |none::a,x::b,h,0,v,e=>by simp at e
 |none::a,x::b,h,i+1,v,e=>by
  simp only[Z3] at e ⊢;exact Wk.get (a:=a) (b:=b) h i v e
 |some q::a,some u::b,h,0,v,e=>by
  simp only[Qip] at e ⊢;rw[<- h.1];exact e
 |some q::a,some u::b,h,i+1,v,e=>by
  simp only[Z3] at e ⊢;exact Wk.get (a:=a) (b:=b) h.2 i v e
 |[],_::_,h,_,_,_=>h.elim
 |some _::_,[],h,_,_,_=>h.elim
 |none::_,[],h,_,_,_=>h.elim
 |some _::_,none::_,h,_,_,_=>h.elim
theorem Inv.wk{X:Cx}{pins:List (Addr×Obj)}{σ σ':St}{H:Hp}{s:Shared}(I:Inv X pins σ H s)(h:Wk σ' σ):Inv X pins σ' H s:=I.weak h.len h.get
def QkG(J:It)(body:V->Hp->(Hp->Prop)->Prop)(Qn:Hp->Prop)(H:Hp):Prop:=
 ∃W:Nat->Nat->Hp->Prop,(∃m,W 0 m H)/\∀i m H2,W i m H2->(J.stop i H2/\Qn H2)∨(J.go i H2/\∀x H3,J.yld i H2 x H3->body x H3 λH6=>∃m',m'<m/\W (i+1) m' H6)
abbrev Act:=(Shared->Prop)->Shared->Prop
def BodyOk(Y:Cx)(σ:St)(act:Act)(b:Hp->(Hp->Prop)->Prop):Prop:=
 ∀(pins:List (Addr×Obj))(s:Shared)(H:Hp)(k:Hp->Prop)(Q:Shared->Prop),Inv Y pins σ H s->b H k->(∀s' H',Inv Y pins σ H' s'->k H'->Q s')->act Q s
theorem Qmx{Y:Cx}{σ:St}{tg:Q5}{elt:Q5}{gens:List Comprehension}{scope:QaM}{cpos:Pos}{d:Nat}{it D:Addr}{fp:List Addr}{tn:Nat->Heap->Prop}{J:It}{pins:List (Addr×Obj)}{s:Shared}{H:Hp}{body:V->Hp->(Hp->Prop)->Prop}{Qn:Hp->Prop}{R:Qjt->Shared->Prop}{act:Value->Act}
  (hc:Y.calm=true)(T:Turn Y.prog Y.w Y.K tg J fp it tn)(st:tn 0 s.heap)(hf:∀b∈fp,FpOk Y pins H b)
  (hturn:∀(Q:PySem.Fin->Shared->Prop)(E:Value->Shared->Prop)(s:Shared),wpAny (model Y.prog Y.w) Y.A (pyNext (.ref it)) (λr s1=>match r with
   |none=>Q (.done .next) s1
   |some v=>wpAny (model Y.prog Y.w) Y.A (letOwnedTupleGo tg (.ref it) v) (λ_ s2=>act v (λs3=>Q (.again (.compLoop (.ListComp elt gens scope cpos) d (.ref it) (.ref D) Y.env)) s3) s2) E s1) E s ->
   wpAny (model Y.prog Y.w) Y.A (compTurn (.ListComp elt gens scope cpos) d (.ref it) (.ref D) Y.env) Q E s)
  (hact:∀(x:V)(u:Value),RelV x u->BodyOk Y σ (act u) (body x))
  (I:Inv Y pins σ H s)(h:QkG J body Qn H)(hR:∀s' H',Inv Y pins σ H' s'->Qn H'->R (.ok .next) s') :
  codeAny (model Y.prog Y.w) Y.A (.compLoop (.ListComp elt gens scope cpos) d (.ref it) (.ref D) Y.env) R s:=by
 obtain⟨W,⟨m0,w0⟩,turn⟩:=h;have stat:∀{H':Hp},(∀b∈fp,H' b=none)->∀b∈fp,FpOk Y pins H' b:=λhn b hb=>⟨hn b hb,(hf b hb).2⟩
 refine codeAny_loop rfl (λn s'=>∃i H',Inv Y pins σ H' s'/\tn i s'.heap/\(∀b∈fp,H' b=none)/\W i n H') (λn s3 hI=>?_) m0 ⟨0,H,I,st,λb hb=>(hf b hb).1,w0⟩;show wpAny _ Y.A ((compTurn (.ListComp elt gens scope cpos) d (.ref it) (.ref D) Y.env).onRaise (λx=>do noteFrame x Y.env;theTreesLotGoes x)) _ _ s3;refine wpAny_noted (hturn _ _ _ ?_);obtain⟨i,H3,I3,st3,fr3,w3⟩:=hI;rcases turn i n H3 w3 with⟨stop,qn⟩ | ⟨go,step⟩
 ·refine thn (T.done Y rfl rfl rfl hc i pins s3 σ H3 _ I3 (stat fr3) st3 stop) λr s4 ⟨hr,I4⟩=>?_
  subst hr;exact hR s4 H3 I4 qn
 ·refine thn (T.item Y rfl rfl rfl hc i pins s3 σ H3 _ I3 (stat fr3) st3 go) λr s4 ⟨u,hr,h4⟩=>?_
  subst hr;refine thn h4 λ_ s5 ⟨x,H5,I5,r5,y5,st5,fr5⟩=>?_
  have I5':=I5.pinned (stat fr5) (T.obj _ _ st5);refine hact x u r5 _ s5 H5 _ _ I5' (step x H5 y5) λs7 H7 I7 ⟨m',hm,w7⟩=>?_
  refine⟨rfl,m',hm,i+1,H7,I7.unpinned,T.keep _ _ _ st5 λb hb o e=>(I7.pin (b,o) (Qv _ (Qv _ (Z0 hb e)))).1,λb hb=>?_,w7⟩;obtain⟨o,e,dd⟩:=T.obj _ _ st5 b hb;exact(I7.pin (b,o) (Qv _ (Qv _ (Z0 hb e)))).2.1
abbrev Qhy (ifs:List Q5) (env:Env):Sem Bool:=forIn ifs true λc r=>if r=true then do let ok <- isTrue c env (eval c env);pure (JL ok) else pure (JL r)
def PTs(Y:Cx)(ifs:List Q5)(t:TT):Prop:=
 ∀(pins:List (Addr×Obj))(s:Shared)(σ:St)(H:Hp)(Q:Bool->Hp->Prop),Inv Y pins σ H s->t σ H Q->wpAny (model Y.prog Y.w) Y.A (Qhy ifs Y.env) (TP Y pins σ Q) Y.xe s
def Qrm:TT:=λ_ H Q=>Q true H
theorem QrP{Y:Cx}:PTs Y [] Qrm:=λpins s σ H Q I h=>wpAny_tests_nil ⟨H,I,h⟩
theorem Qll{Y:Cx}{c:Q5}{t:TT}(h:PT Y c t):PTs Y [c] t:=λpins s σ H Q I q=>wpAny_tests_one (h pins s σ H Q I q)
def Qtw(Y:Cx)(tg:Q5)(ifs:List Q5)(inner:Act):Value->Act:=λu Q s=>
 wpAny (model Y.prog Y.w) Y.A (assign tg Y.env u) (λ_ s4=>wpAny (model Y.prog Y.w) Y.A (Qhy ifs Y.env) (λok s5=>if ok=true then inner Q s5 else Q s5) (λ_ _=>False) s4) (λ_ _=>False) s
def bOf(σ:St)(g:TG)(tc:TT)(inner:St->Hp->(Hp->Prop)->Prop):V->Hp->(Hp->Prop)->Prop:=λx H k=>g x σ H λσ4 H4=>Wk σ σ4/\tc σ4 H4 λb H5=>
 if b=true then inner σ4 H5 k else k H5
theorem QmM{Y:Cx}{σ:St}{tg:Q5}{ifs:List Q5}{g:TG}{tc:TT}{inner:Act}{ri:St->Hp->(Hp->Prop)->Prop}(hx:Y.xe=λ_ _=>False)(hg:PG Y tg g)(ht:PTs Y ifs tc)(he:∀σ4,BodyOk Y σ4 inner (ri σ4))(x:V)(u:Value)(r:RelV x u) :
  BodyOk Y σ (Qtw Y tg ifs inner u) (bOf σ g tc ri x):=by
 intro pins s H k Q I h hQ;have hx':∀(v:Value)(s':Shared),Y.xe v s'->False:=λv s' z=>by rw[hx] at z;exact z
 refine JI (hg pins s σ H x u _ I r h) (λ_ s4 ⟨σ4,H4,I4,wk,q4⟩=>?_) hx';refine JI (ht pins s4 σ4 H4 _ I4 q4) (λb s5 ⟨H5,I5,q5⟩=>?_) hx';cases b with
 |false=>
  rw[if_neg Qp] at q5;rw[if_neg Qp];exact hQ s5 H5 (I5.wk wk) q5
 |true=>
  rw[if_pos rfl] at q5;rw[if_pos rfl];exact he σ4 pins s5 H5 k Q I5 q5 λs' H' I' k'=>hQ s' H' (I'.wk wk) k'
def QpU(Y:Cx)(elt:Q5)(D:Addr):Act:=λQ s=>wpAny (model Y.prog Y.w) Y.A (eval elt Y.env) (λv s6=>wpAny (model Y.prog Y.w) Y.A (call (.builtin "list.append") [.ref D,v]) (λ_ s7=>Q s7) (λ_ _=>False) s6) (λ_ _=>False) s
def Qyk(p:Addr)(te:TE):St->Hp->(Hp->Prop)->Prop:=λσ H k=>te σ H λv H6=>∃ys,H6 p=some (.lst ys)/\ys.length<sizeLine/\k (upd H6 p (.lst (ys++[v])))
theorem QoT{Y:Cx}{σ:St}{elt:Q5}{te:TE}{D:Addr}(hx:Y.xe=λ_ _=>False)(he:PE Y elt te):BodyOk Y σ (QpU Y elt D) (Qyk D te σ):=by
 intro pins s H k Q I h hQ;have hx':∀(v:Value)(s':Shared),Y.xe v s'->False:=λv s' z=>by rw[hx] at z;exact z
 refine JI (he pins s σ H _ I h) (λv s6 ⟨y,H6,I6,r6,ys,e,hz,q⟩=>?_) hx';exact JI (QgI (X:=Y) pins s6 σ H6 (.ref D) [y] (.ref D) [v] (λ_ H'=>k H') I6 rfl (.cons r6 .nil) ⟨D,ys,y,rfl,rfl,e,hz,q⟩) (λ_ s7 ⟨_,H7,I7,_,q7⟩=>hQ s7 H7 I7 q7) hx'
theorem Qnn{Y:Cx}{elt tg iter:Q5}{ifs:List Q5}{scope:QaM}{cpos:Pos}{it D:Addr}(Q:PySem.Fin->Shared->Prop)(E:Value->Shared->Prop)(s:Shared)
  (h:wpAny (model Y.prog Y.w) Y.A (pyNext (.ref it)) (λr s1=>match r with
   |none=>Q (.done .next) s1
   |some v=>wpAny (model Y.prog Y.w) Y.A (letOwnedTupleGo tg (.ref it) v) (λ_ s2=>Qtw Y tg ifs (QpU Y elt D) v (λs3=>Q (.again (.compLoop (.ListComp elt [⟨tg,iter,ifs,0⟩] scope cpos) 0 (.ref it) (.ref D) Y.env)) s3) s2) E s1) E s) :
  wpAny (model Y.prog Y.w) Y.A (compTurn (.ListComp elt [⟨tg,iter,ifs,0⟩] scope cpos) 0 (.ref it) (.ref D) Y.env) Q E s:=by
 rw[compTurn_list];refine Qa (Qa2 (Qa (thn h λr s1 h1=>?_)));cases r with
 |none=>exact wpAny_pure h1
 |some v=>
  refine Qa (thn h1 λ_ s2 h2=>?_);refine Qa (JI h2 (λ_ s4 h4=>Qa (JI h4 (λok s5 h5=>?_) λ_ _ f=>f.elim)) λ_ _ f=>f.elim);cases ok with
  |false=>exact wpAny_pure h5
  |true=>exact Qa (Qa (JI h5 (λx s6 h6=>Qa (JI h6 (λ_ s7 h7=>wpAny_pure (wpAny_pure h7)) λ_ _ f=>f.elim)) λ_ _ f=>f.elim))
def tComp(cap:List (Option Nat))(wi:TI)(g:TG)(tc:TT)(te:TE):TE:=λσ H Q=>wi σ H λJ H1=>∀p,H1 p=none->QkG J (bOf (QfX cap σ) g tc (Qyk p te)) (Q (.ref p)) (upd H1 p (.lst []))
theorem FpOk.upd{X:Cx}{pins:List (Addr×Obj)}{H:Hp}{b a:Addr}{o:HO}(h:FpOk X pins H b)(hne:b≠a):FpOk X pins (upd H a o) b:=⟨by rw[JU hne];exact h.1,h.2⟩
theorem QnP{X:Cx}{M:List Str}{cap:List (Option Nat)}{elt tg iter:Q5}{ifs:List Q5}{scope:QaM}{pos:Pos}{wi:TI}{g:TG}{tc:TT}{te:TE}(hc:X.calm=true)(ok:Qj9 X.N X.env.scope M scope cap=true)
  (hi:PI X tg iter wi)(hb:∀cl ex s3 H3 C,PG (blk X M scope cl ex s3 H3 C) tg g/\PTs (blk X M scope cl ex s3 H3 C) ifs tc/\PE (blk X M scope cl ex s3 H3 C) elt te)
  (hs:∀x,foldedSetIterable iter X.env x=pure x:=by intro _;rfl):PE X (.ListComp elt [⟨tg,iter,ifs,0⟩] scope pos) (tComp cap wi g tc te):=by
 intro pins s σ H Q I h;have c:=CapOk.of ok;rw[eval_ListComp];refine QmX (use:=none) rfl hs (QmA (I.ok.cells c)) c.kind c.loc ?_
 refine thn (hi pins s σ H _ I h) λv s1 h1=>thn h1 λitv s2 h2=>?_
 obtain⟨it,fp,tn,J,H2,e,I2,T,st2,f2,hW⟩:=h2;subst e;refine JS (QtA c.cell (by intro y hy;simp at hy) (λh₁ hns₁ hsb₁=>?_) c.kind);have I3:Inv X pins σ (upd H2 s2.heap.objs.size (.lst [])) { s2 with heap:=s2.heap.push { cls:=.type "list",data:=.seq ([]:List Value).toArray } }:=I2.lnew (t':=s2.toks) (ys:=[]) .nil (Qr _);have lt2:∀b∈fp,b<s2.heap.objs.size:=λb hb=>by obtain⟨o,e,_⟩:=T.obj _ _ st2 b hb;exact Qw e
 have f3:∀b∈fp,FpOk X pins (upd H2 s2.heap.objs.size (.lst [])) b:=λb hb=>(f2 b hb).upd (QV (lt2 b hb))
 generalize hs3:({ s2 with heap:=s2.heap.push { cls:=.type "list",data:=.seq ([]:List Value).toArray } }:Shared)=s3 at I3;have e3:s3.heap=s2.heap.push { cls:=.type "list",data:=.seq ([]:List Value).toArray }:=by rw[<- hs3]
 have z3:s3.heap.objs.size=s2.heap.objs.size+1:=by rw[e3,YL]
 have hk:∀b o,s3.heap.get? b=some o->h₁.get? b=some o:=λb o e=>hsb₁.extBut b o (by
  have:=Qw e;rw[e3] at this;exact QV this) (Qm _ (e3 ▸ e))
 have hn₁:h₁.Ns s3.heap.objs.size λ_=>none:=by rw[e3];exact hns₁
 have B:=Qg6 (t4:=s3.toks+([]:List (Str×Value)).length) (fp:=fp) I3 c f3 (λb hb=>by rw[z3];exact Yz (lt2 b hb)) hn₁ hk;have st4:tn 0 h₁:=T.keep _ _ _ st2 λb hb o e=>hk b o (by rw[e3];exact Qm _ e)
 have fp4:∀b∈fp,FpOk (blk X M scope (Qcj X.env scope.names []) fp s3 (upd H2 s2.heap.objs.size (.lst [])) s3.heap.objs.size) [] (upd H2 s2.heap.objs.size (.lst [])) b:=λb hb=>by
  refine⟨(f3 b hb).1,(B.ok.exf b hb).1,B.ok.exfs b hb,.inl hb,(B.ok.exf b hb).2,λp hp=>(nomatch hp)⟩
 obtain⟨hg,ht,he⟩:=hb (Qcj X.env scope.names []) fp s3 (upd H2 s2.heap.objs.size (.lst [])) s3.heap.objs.size;have loop:codeAny (model X.prog X.w) X.A (.compLoop (.ListComp elt [⟨tg,iter,ifs,0⟩] scope pos) 0 (.ref it) (.ref s2.heap.objs.size) (compEnvC scope (Qcj X.env scope.names []) s3.heap.objs.size X.env))
   (compPost (model X.prog X.w) X.A X.xe none (EP X pins σ Q) (.ref s2.heap.objs.size) s3.heap.objs.size) { s3 with heap:=h₁,toks:=s3.toks+([]:List (Str×Value)).length }:=by
  refine Qmx (Y:=blk X M scope (Qcj X.env scope.names []) fp s3 (upd H2 s2.heap.objs.size (.lst [])) s3.heap.objs.size) (gens:=[⟨tg,iter,ifs,0⟩]) (d:=0) hc T st4 fp4
   (λQ E s h=>Qnn Q E s h) (λx u r=>QmM rfl hg ht (λσ4=>QoT rfl he) x u r) B (hW _ (I2.hok.fresh (Qj _))) λs' H' I' q=>?_
  obtain⟨m,hn,_⟩:=I'.loc;exact⟨m,hn,λh' hs'=>⟨.ref s2.heap.objs.size,H',QmO I3 f3 I' hs',rfl,q⟩⟩
 exact codeAny_compStart_list loop (T.self _ 0 _ _ _ st4 loop)
section
variable{X:Cx}
theorem Qig:CallR X (.builtin "isinstance") (λxs H Q=>∃x t T b,xs=[x,.ty T]/\TyOf X.K H x t/\PySem.W.kitOne X.K t (.type T)=some b/\Q (.bl b) H):=by
 intro pins s σ H xs us Q I r h;obtain⟨x,t,T,b,rfl,ty,e,q⟩:=h;obtain⟨u,v,rfl,ru,rv⟩:=vals2 r;cases(show v=ZS T from rv);exact Ql4 I ru ty e λtk=>⟨.bl b,H,I.tok tk,rfl,q⟩
theorem QoS{bs:List Bool}:∀{us:List Value},Vals (bs.map V.bl) us->LSm.BoolsAre us bs:=by
 induction bs with
 |nil=>intro us r;cases r;exact .nil
 |cons b bs ih=>
  intro us r;cases r with
  |cons r t=>
   cases(show _=Qbk b from r);exact .cons b (ih t)
theorem QcH:CallR X (.builtin "all") (λxs H Q=>∃(p:Addr)(bs:List Bool),xs=[.ref p]/\SqL X.K H p (bs.map V.bl)/\X.calm=true/\Q (.bl (bs.all id)) H):=by
 intro pins s σ H xs us Q I r h;obtain⟨p,bs,rfl,hp,hc,q⟩:=h;obtain⟨u,rfl,ru⟩:=vals1 r;cases ru;obtain⟨its,rv,pl,hz⟩:=I.list hp;have hl:=pl.isList;have hb:=QoS rv;have hlt:p<s.heap.objs.size:=by obtain⟨_,e,_⟩:=hl;exact Qw e
 refine call_all_walk (QbZ hl ?_);refine⟨s.heap.objs.size,[s.heap.objs.size,p],[s.heap.objs.size],its.toArray.size,_,_,λi=>(bs[i]?).getD true,rfl,Walks.list (A:=X.A.in1) (I.ok.hd hc) _ p (QV hlt) its.toArray,
  ⟨⟨_,Qz _ rfl,rfl,rfl⟩,hl.push _⟩,λi v s' Q' E' hP hQ=>?_,λh' tk hk=>?_⟩
 ·obtain⟨b,e,rfl⟩:=hb.get i v (by simpa using hP);simp only[e,Option.getD_some] at hQ;exact J3 hQ
 ·have e:((Je its.toArray.size).all λi=>(bs[i]?).getD true)=bs.all id:=by
   rw[Qq,hb.length];exact LSm.range_all bs
  rw[e];exact⟨.bl _,H,I.kept (LSm.kept_iter hk),rfl,q⟩
def Qyx:V->Option Int->Option Int->Hp->VK->Prop:=λx lo hi H Q=>∃a xs,x=.ref a/\H a=some (.tup xs)/\∀p H',Same H H'->H' p=some (.tup (Qje xs lo hi))->Q (.ref p) H'
theorem JW{H:Hp}{p:Addr}{o:HO}(h:H p=none):Same H (upd H p o):=λb u e=>by rw[JU (ZL e h)];exact e
theorem Qb6{prog:QB}{w:Ji}{A:Q3}{E:Value->Shared->Prop}{s:Shared}{t sl:Addr}{items:Array Value}{vl vu:Value}{lo hi:Option Int}{Q:Value->Shared->Prop}(ht:IsTup s.heap t items)(hs:s.heap.IsSliceOf sl vl vu .none)(pl:Qhi vl lo)(pu:Qhi vu hi)
  (h1:HT.sIx items.size 0 lo=0)(h2:HT.sIx items.size items.size hi=items.size)(h:Q (.ref t) s):wpAny (model prog w) A (getItem (.ref t) (.ref sl)) Q E s:=by
 obtain⟨os,hos,hcs,hds⟩:=id hs;have hTs:s.TypeIs (.ref sl) "slice" := ⟨os,hos,hcs⟩;unfold getItem
 try with_reducible refine JJ ?_
 first | refine Qa (wpAny_pure ?_) | skip
 refine Qa (QwD ht.typeIs (by decide) ?_);refine Qa (Qaj (name:=Qez "__getitem__") ht.typeIs JP
  (Zd JP ht.typeIs QtM ?_ (Qwl _ _)))
 show wpAny _ _ (Qdd (.ref t) >>= _) _ _ s;refine Qa (tupleItemsOf_ ht ?_);refine Qa (Qdl hTs ?_);rw[if_pos (by decide)];refine Qa (HT.Qbg hs pl pu ?_);show wpAny _ _ (if(((HT.sIx items.size 0 lo:Nat):Int) == 0&&(1:Int) == 1&&(HT.sIx items.size items.size hi - HT.sIx items.size 0 lo) == items.size)=true then _ else _) _ _ s;rw[if_pos (by rw[h1,h2];simp)];refine Qa (m:=Qw5 _) (Qa (Qdl ht.typeIs (wpAny_pure ?_)));rw[if_pos (by decide)];exact Qa (ZP (wpAny_pure ⟨_,rfl,wpAny_pure h⟩))
theorem Quj:SlR X Qyx:=by
 intro pins s σ H x v vl vu lo hi sl Q I rx hs pl pu h;obtain⟨a,xs,rfl,hx,q⟩:=h;by_cases hw:HT.sIx xs.length 0 lo=0/\HT.sIx xs.length xs.length hi=xs.length
 ·cases rx;obtain⟨its,r,ht,hz⟩:=I.tuple (SqT.of hx);have hlen:its.toArray.size=xs.length:=by rw[Qq];exact r.length.symm
  refine⟨"tuple",_,JP.lookup,ht.typeIs,?_⟩;refine Qb6 ht hs pl pu (by rw[hlen];exact hw.1) (by rw[hlen];exact hw.2) ?_
  refine⟨.ref a,H,I,rfl,q a H (Same.refl H) ?_⟩;have e:Qje xs lo hi=xs:=by
   unfold Qje;rw[hw.1,hw.2];simp
  rw[e];exact hx
 ·exact Qui pins s σ H (.ref a) v vl vu lo hi sl Q I rx hs pl pu ⟨a,xs,rfl,SqT.of hx,hw,λp hp=>q p _ (JW hp) JB⟩
def Quy:R2:=λx y H Q=>∃a b xs ys,x=.ref a/\y=.ref b/\H a=some (.tup xs)/\H b=some (.tup ys)/\xs.length+ys.length<=sizeLine/\∀p H',Same H H'->H' p=some (.tup (xs++ys))->Q (.ref p) H'
theorem Qsw:OpR X (binaryOp .Add) Quy:=by
 intro pins s σ H x y v u Q I rx ry h;obtain⟨a,b,xs,ys,rfl,rfl,ha,hb,hz,q⟩:=h;by_cases hx:xs=[]
 ·subst hx;cases rx;cases ry;obtain⟨its,r1,p1,_⟩:=I.tuple (SqT.of ha);obtain⟨its2,r2,p2,_⟩:=I.tuple (SqT.of hb);cases r1;obtain⟨⟨cls,dd,data,sl⟩,ho,hc,n,hd⟩:=id p1;obtain⟨⟨cls2,dd2,data2,sl2⟩,ho2,hc2,n2,hd2⟩:=id p2;simp only at hc hd hc2 hd2;subst hc hd hc2 hd2;exact QpW ⟨_,ho,rfl⟩ ⟨_,ho2,rfl⟩ Qho Qnb PySem.F.slot_tuple_add PySem.F.entry_tuple_add (PySem.F.args_tuple_add_2 _ _)
   (tuple_addW0 a b #[] its2.toArray n n2 dd dd2 sl sl2 rfl) ⟨ho,ho2,⟨.ref b,H,I,rfl,q b H (Same.refl H) hb⟩⟩
 ·exact Qsv pins s σ H _ _ v u Q I rx ry ⟨a,b,xs,ys,rfl,rfl,SqT.of ha,SqT.of hb,hx,hz,λe=>q a H (Same.refl H) (by rw[e,Jr];exact ha),λ_ p hp=>q p _ (JW hp) JB⟩
end
end L2
namespace Rz
open Sem (wp)
section
variable{prog:QB}{w:Ji}{A:Q3}{E:Value->Shared->Prop}{s:Shared}
structure Apart (z TI TO i1 i2 t1 t2:Addr):Prop where
 a1:TI≠z
 a2:TO≠z
 a3:i1≠z
 a4:i2≠z
 a5:TI≠TO
 a6:TI≠i1
 a7:TI≠i2
 a8:TO≠i1
 a9:TO≠i2
 b1:i1≠i2
 b2:t1≠z/\t1≠TO/\t1≠i1/\t1≠i2
 b3:t2≠z/\t2≠TO/\t2≠i1/\t2≠i2
end
section
variable{prog:QB}{w:Ji}{A:Q3}{E:Value->Shared->Prop}{s:Shared}
end
end Rz
namespace L2
section
variable{X:Cx}{pins:List (Addr×Obj)}{σ:St}{H:Hp}{s:Shared}{h':Heap}
theorem Inv.turnedNew{t':Nat}{ch:List Addr}{a:Addr}{o:HO}(I:Inv X pins σ H s)(hch:∀b∈ch,FpOk X pins H b)(k:∀b u,b∉ch->s.heap.get? b=some u->h'.get? b=some u)(hp:s.heap.objs.size<=a)
  (new:ObjOk X.prog X.w (upd H a o) h' a o):Inv X pins σ (upd H a o) { s with heap:=h',toks:=t' }:=by
 have hn:H a=none:=I.hok.fresh hp;have nch:∀b u,H b=some u->b∉ch:=λb u e z=>by rw[(hch b z).1] at e;cases e
 refine I.step (g':=s.gens) (d':=s.drawn) (ch:=ch) (λb hb=>?_) (λb u _ _ hc e _=>k b u hc e) (λb u _ _ hc e _=>⟨u.slots,k b u hc e⟩) (λb u hc e n=>?_) (λb u hc e=>⟨u,k b u hc e⟩)
  (λb xs e=>by rw[JU (ZL e hn)];exact e) (λb u v e=>by rw[JU (ZL e hn)];exact e) (λb ps e=>⟨#[],by rw[JU (ZL e hn),e];simp⟩) (λm hm=>?_) (λb u e=>?_) I.bare
 ·obtain⟨f0,f1,f2,f3,f4,f5⟩:=hch b hb;exact⟨f3,f1,f4,f5⟩
 ·rw[JU (QV (Q0 (Qw e) hp))];exact n
 ·obtain⟨u,es,ep,ho,r⟩:=hm;exact⟨u,es,ep,k _ u (λz=>(hch _ z).2.1 rfl) ho,r⟩
 ·by_cases hb:b=a
  ·subst hb;rw[JB] at e;cases e;exact new
  ·rw[JU hb] at e;refine(I.hok b u e).stay (λc v hc q=>k c v ?_ q) (λc q=>by rw[JU (ZL q hn)];exact q) λc xs q=>by rw[JU (ZL q hn)];exact q
   rcases hc with z | z
   ·rw[z];exact nch b u e
   ·exact nch c _ z
theorem Inv.turnedAll{t':Nat}{ch:List Addr}(I:Inv X pins σ H s)(hch:∀b∈ch,FpOk X pins H b)(k:∀b u,b∉ch->s.heap.get? b=some u->h'.get? b=some u):Inv X pins σ H { s with heap:=h',toks:=t' }:=by
 have nch:∀b u,H b=some u->b∉ch:=λb u e z=>by rw[(hch b z).1] at e;cases e
 refine I.step (g':=s.gens) (d':=s.drawn) (ch:=ch) (λb hb=>?_) (λb u _ _ hc e _=>k b u hc e) (λb u _ _ hc e _=>⟨u.slots,k b u hc e⟩) (λb u hc e n=>n) (λb u hc e=>⟨u,k b u hc e⟩)
  (λb xs e=>e) (λb u v e=>e) (λb ps e=>⟨#[],by rw[e];simp⟩) (λm hm=>?_) (λb u e=>?_) I.bare
 ·obtain⟨f0,f1,f2,f3,f4,f5⟩:=hch b hb;exact⟨f3,f1,f4,f5⟩
 ·obtain⟨u,es,ep,ho,r⟩:=hm;exact⟨u,es,ep,k _ u (λz=>(hch _ z).2.1 rfl) ho,r⟩
 ·refine(I.hok b u e).stay (λc v hc q=>k c v ?_ q) (λc q=>q) λc xs q=>q
  rcases hc with z | z
  ·rw[z];exact nch b u e
  ·exact nch c _ z
end
section
variable{X:Cx}
end
end L2
namespace Rk
open L2
def Qyr:Option HO->Option (List V)
 |some (.tup xs)=>some xs
 |_=>none
def Qgj(H:Hp):V->Option (List V)
 |.ref a=>Qyr (H a)
 |_=>none
theorem Qis(H:Hp)(a:Addr):Qgj H (.ref a)=Qyr (H a):=rfl
def isT(H:Hp)(x:V):Bool:=(Qgj H x).isSome
def Kn(p:Addr)(H:Hp):V->Prop
 |.non=>True
 |.bl _=>True
 |.int _=>True
 |.str _=>True
 |.ref a=>a≠p/\((∃xs,H a=some (.tup xs))∨(∃xs,H a=some (.lst xs))∨∃kvs,H a=some (.dK kvs))
 |_=>False
def KnD(p:Addr):Nat->Hp->V->Prop
 |0,H,x=>Kn p H x
 |n+1,H,x=>Kn p H x/\∀xs,Qgj H x=some xs->∀y∈xs,KnD p n H y
def KX(p:Addr)(H H':Hp):Prop:=∀b o,b≠p->H b=some o->H' b=some o
theorem KX.of{p:Addr}{H H':Hp}(h:Same H H'):KX p H H':=λb o _ e=>h b o e
theorem KX.new{p q:Addr}{H:Hp}{o:HO}(h:H q=none):KX p H (L2.upd H q o):=KX.of (JW h)
theorem KnD.kn{p:Addr}{H:Hp}{x:V}:∀{n:Nat},KnD p n H x->Kn p H x
 |0,h=>h
 |_+1,h=>h.1
theorem KnD.low{p:Addr}{H:Hp}:∀{n:Nat}{x:V},KnD p (n+1) H x->KnD p n H x
 |0,x,h=>h.1
 |n+1,x,h=>⟨h.1,λxs e y hy=>KnD.low (h.2 xs e y hy)⟩
theorem KnD.tup{p:Addr}{H:Hp}{n:Nat}{a:Addr}{xs:List V}(hp:a≠p)(e:H a=some (.tup xs))(h:∀y∈xs,KnD p n H y):KnD p (n+1) H (.ref a):=
 ⟨⟨hp,.inl ⟨xs,e⟩⟩,λys z y hy=>h y (by
  have z':some xs=some ys:=by rw[<- z,Qis,e];rfl
  cases z';exact hy)⟩
theorem KnD.int{p:Addr}{H:Hp}(i:Int):∀(n:Nat),KnD p n H (.int i)
 |0=>trivial
 |n+1=>⟨trivial,λ_ e=>nomatch e⟩
theorem QkE{H:Hp}{a:Addr}{xs:List V}(e:H a=some (.tup xs)):Qgj H (.ref a)=some xs:=by rw[Qis,e];rfl
def QpF(H:Hp)(x:V):List Int:=((Qgj H x).getD []).map λy=>match y with
 |.int i=>i
 |_=>0
def IntsT(H:Hp)(x:V)(ns:List Int):Prop:=∃a,x=.ref a/\H a=some (.tup (ns.map V.int))
theorem IntsT.eq{H:Hp}{x:V}{ns:List Int}(h:IntsT H x ns):QpF H x=ns:=by
 obtain⟨a,rfl,e⟩:=h;unfold QpF;rw[QkE e];show(ns.map V.int).map _=ns;rw[QP];exact Qm4 _
theorem QfZ:bootBuiltins "isinstance" = some (.builtin "isinstance"):=by decide +kernel
theorem QpQ:bootBuiltins "int" = some (.type "int"):=by decide +kernel
theorem QmJ:bootBuiltins "bool" = some (.type "bool"):=by decide +kernel
theorem Qam:bootBuiltins "tuple" = some (.type "tuple"):=by decide +kernel
theorem Qts:bootBuiltins "list" = some (.type "list"):=by decide +kernel
theorem Qg5:bootBuiltins "all" = some (.builtin "all"):=by decide +kernel
theorem YV:bootBuiltins "len" = some (.builtin "len"):=by decide +kernel
theorem QpP:bootBuiltins "max" = some (.builtin "max"):=by decide +kernel
theorem QpO:bootBuiltins "min" = some (.builtin "min"):=by decide +kernel
end Rk
namespace L2
theorem QlV{J:It}{body:V->Hp->(Hp->Prop)->Prop}{Qn:Hp->Prop}{H:Hp}(n:Nat)(Pv:Nat->Hp->Prop)(h0:Pv 0 H)
  (hs:∀i H2,i<n->Pv i H2->J.go i H2/\∀x H3,J.yld i H2 x H3->∀k:Hp->Prop,(∀H6,Pv (i+1) H6->k H6)->body x H3 k)(hd:∀H2,Pv n H2->J.stop n H2/\Qn H2):QkG J body Qn H:=by
 refine⟨λi m H=>m=n - i/\i<=n/\Pv i H,⟨n,by simp,Qr _,h0⟩,?_⟩;rintro i m H2 ⟨rfl,hi,p⟩;by_cases hlt:i<n
 ·obtain⟨go,st⟩:=hs i H2 hlt p;exact .inr ⟨go,λx H3 y=>st x H3 y _ λH6 p6=>⟨n - (i+1),by omega,rfl,hlt,p6⟩⟩
 ·have e:i=n:=by omega
  subst e;exact .inl (hd H2 p)
end L2
namespace Rk
open L2
def Qcs(K:PySem.W.Frag):Sp:=λvs H Q _=>∃a ns k,vs=[.ref a,.int k]/\SqL K H a ((ns:List Int).map V.int)/\ns.length<2^20/\0<=k/\∀c,Q (.int c) H
def Quh:Sp:=λvs H Q _=>∃c,vs=[.int c]/\∀p n,H p=none->Q (.ref p) (upd H p (.lst [.int n]))
def Cs(p:Addr)(H:Hp):List V->List (Int×Int)->Prop:=QaY λx ij=>∃d,d≠p/\x=.ref d/\H d=some (.tup [.int ij.1,.int ij.2])
theorem Cs.mem{p:Addr}{H:Hp}:∀{ps:List V}{L:List (Int×Int)},Cs p H ps L->∀x∈ps,∃ij∈L,∃d,d≠p/\x=.ref d/\H d=some (.tup [.int ij.1,.int ij.2])
 |_,_,.nil,x,h=>nomatch h
 |_,_,.cons r t,x,h=>by
  rcases Qy.mp h with e | e
  ·subst e;exact⟨_,J4,r⟩
  ·obtain⟨ij,m,q⟩:=Cs.mem t x e;exact⟨ij,Jg _ m,q⟩
def Qwj(a b:Int×Int):Prop:=a.1<b.1∨(a.1=b.1/\a.2<b.2)
structure Good (h w:Int) (L:List (Int×Int)):Prop where
 asc:L.Pairwise Qwj
 ins:∀x∈L,0<=x.1/\x.1<h/\0<=x.2/\x.2<w
 len:L.length<=36
theorem Qi7(x:Int){m:Int}(h:0<m):0<=x % m/\x % m<m:=⟨Int.emod_nonneg _ (by omega),Int.emod_lt_of_pos _ h⟩
def notStar:Q5->Bool
 |.Starred _ _=>false
 |_=>true
theorem YB{e:Q5}{es:List Q5}{env:Env}(h:notStar e=true):starEach (e::es) env=(false,eval e env)::starEach es env:=by
 cases e<;>first | rfl | cases h
section
variable{X:Cx}
theorem Qd3{e:Q5}{es:List Q5}{te:TE}{t:TA}(ha:PE X e te)(hr:PA X es t)(hs:notStar e=true:=by rfl):PA X (e::es) (Qgk te t):=Qbz ha hr (YB hs)
inductive PEs (X:Cx):List Q5->List TE->Prop
 |nil:PEs X [] []
 |cons {e es te ts}:PE X e te->notStar e=true->PEs X es ts->PEs X (e::es) (te::ts)
def Qyt:List TE->TA
 |[]=>Qub
 |t::ts=>Qgk t (Qyt ts)
theorem PEs.pa{es:List Q5}{ts:List TE}(h:PEs X es ts):PA X es (Qyt ts):=by
 induction h with
 |nil=>exact Z5
 |cons a s _ ih=>exact Qd3 a ih s
end
def Sm(H:Hp)(x:V):Prop:=∀ps,Qgj H x=some ps->ps.length<sizeLine
def Qwh(p:Addr)(H:Hp)(x:V):Prop:=KnD p 3 H x/\Sm H x/\∀xs,Qgj H x=some xs->∀y∈xs,Sm H y
theorem QvJ{P:V->Prop}:∀y∈([]:List V),P y:=λ_ h=>nomatch h
theorem Qme{P:V->Prop}{a:V}{l:List V}(h:P a)(k:∀y∈l,P y):∀y∈a::l,P y:=λy hy=>by
 rcases Qy.mp hy with e | e
 ·subst e;exact h
 ·exact k y e
theorem Cs.kn{p:Addr}{H:Hp}{ps:List V}{L:List (Int×Int)}(h:Cs p H ps L):∀x∈ps,KnD p 1 H x:=λx hx=>by
 obtain⟨ij,_,d,n,rfl,e⟩:=h.mem x hx;exact KnD.tup n e (Qme (KnD.int _ 0) (Qme (KnD.int _ 0) QvJ))
theorem Qc2{n:Nat}(h:n<=1000):n<sizeLine:=QdP h (by decide)
def Fine(p:Addr):Nat->Hp->V->Prop
 |0,H,x=>Kn p H x/\Sm H x
 |n+1,H,x=>Kn p H x/\Sm H x/\∀xs,Qgj H x=some xs->∀y∈xs,Fine p n H y
theorem Fine.kn{p:Addr}{H:Hp}{x:V}:∀{n:Nat},Fine p n H x->Kn p H x
 |0,h=>h.1
 |_+1,h=>h.1
theorem Fine.sm{p:Addr}{H:Hp}{x:V}:∀{n:Nat},Fine p n H x->Sm H x
 |0,h=>h.2
 |_+1,h=>h.2.1
theorem Fine.knd{p:Addr}{H:Hp}:∀{n:Nat}{x:V},Fine p n H x->KnD p n H x
 |0,_,h=>h.1
 |_+1,_,h=>⟨h.1,λxs e y hy=>(h.2.2 xs e y hy).knd⟩
theorem Fine.thing{p:Addr}{H:Hp}{x:V}(h:∀n,Fine p n H x):Qwh p H x:=⟨(h 3).knd,(h 0).2,λxs e y hy=>((h 1).2.2 xs e y hy).2⟩
section
variable{X:Cx}
end
def Qxg(t:TA):TE:=λσ H Q=>t σ H λxs H1=>xs.length<=1000/\∀a H2,Same H1 H2->H1 a=none->H2 a=some (.tup xs)->Q (.ref a) H2
def Qxl(t:TA):TE:=λσ H Q=>t σ H λxs H1=>xs.length<=1000/\∀a H2,Same H1 H2->H1 a=none->H2 a=some (.lst xs)->Q (.ref a) H2
section
variable{X:Cx}
theorem Qlq{es:List Q5}{t:TA}{x1}{pos:Pos}(h:PA X es t):PE X (.Tuple es x1 pos) (Qxg t):=by
 intro pins s σ H Q I hq;refine wpAny_Tuple_spliced (thn (h pos pins s σ H _ I hq) λus s1 ⟨xs,H1,I1,r,z,q⟩=>⟨by rw[<- r.length];exact Ys (Qc2 z),?_⟩);have hf:H1 s1.heap.objs.size=none:=I1.hok.fresh (Qj _);refine⟨.ref s1.heap.objs.size,upd H1 s1.heap.objs.size (.tup xs),I1.laid (t':=s1.toks) (λb u e=>Qm _ e) (Qj _) ?_,rfl,q _ _ (JW hf) hf JB⟩;exact⟨Ys (Qc2 z),us,r,⟨_,Qz _ rfl,rfl,rfl,_,rfl⟩⟩
theorem QrZ{es:List Q5}{t:TA}{pos:Pos}(h:PA X es t):PE X (.List es pos) (Qxl t):=by
 intro pins s σ H Q I hq;refine Qwk (thn (h pos pins s σ H _ I hq) λus s1 ⟨xs,H1,I1,r,z,q⟩=>⟨by rw[<- r.length];exact Ys (Qc2 z),?_⟩);have hf:H1 s1.heap.objs.size=none:=I1.hok.fresh (Qj _);refine⟨.ref s1.heap.objs.size,upd H1 s1.heap.objs.size (.lst xs),I1.laid (t':=s1.toks) (λb u e=>Qm _ e) (Qj _) ?_,rfl,q _ _ (JW hf) hf JB⟩;exact⟨Ys (Qc2 z),us,0,r,Qz _ rfl⟩
end
def FineA(p:Addr)(H:Hp)(x:V):Prop:=∀n,Fine p n H x
theorem FineA.thing{p:Addr}{H:Hp}{x:V}(h:FineA p H x):Qwh p H x:=Fine.thing h
end Rk
namespace Rx
open PySem.Calls L2 PySem.W Builtin Builtin.ObjectAttr Builtin.Getset_descriptor
def ExAt(a C:Addr)(h:Heap):Prop:=∃o vs,h.get? a=some o/\o.cls=.ref C/\o.data=.fields vs
theorem ExAt.ty{M:QwW}{h:Heap}{a C:Addr}(x:ExAt a C h):Looks M h (typeOf (.ref a)) (.ref C):=by
 obtain⟨o,vs,e,c,_⟩:=x;exact c ▸ (Looks.ld e).andThen .now
section
variable{prog:QB}{w:Ji}{A:Q3}{E:Value->Shared->Prop}{s:Shared}{K:PySem.W.Frag}{a C:Addr}
end
end Rx
namespace Rx
open PySem.Calls L2
section
variable{X:Cx}{E:XK}{C:Addr}{x:Str}{e0:Q5}{te:TE}{np cpos pos:Pos}
end
section
variable{X:Cx}{pins:List (Addr×Obj)}{σ:L2.St}{H:Hp}{s:Shared}
end
def XP(X:Cx)(pins:List (Addr×Obj))(Ex:L2.St->Addr->Hp->Prop)(e:Value)(s1:Shared):Prop:=
 ∃(σ:L2.St)(C:Addr)(H':Hp)(a t:Addr)(B:Heap),e=.ref a/\Heap.FlyingW B X.stack a (.ref C) (.ref t) s1.heap/\H' a=none/\X.s₀.heap.get? a=none/\(∀p∈X.pn++pins,p.1≠a) /\
  (∀(h2:Heap)(tk:Nat),B.StaysIn h2->s1.heap.UpToSlots h2->Inv X pins σ H' { s1 with heap:=h2,toks:=tk })/\Ex σ C H'
section
variable{X:Cx}{k:Nat}{f:Addr}{fd:QR}{ps:List Str}{sp:Sp}{x:Str}{p pos:Pos}{e:Q5}{es:List Q5}{t:TA}
end
section
variable{X:Cx}{R:Addr}{i:Nat}{n r:Str}{call hx:Q5}{tc:TX}{th:TE}{rp np hp hpos pos:Pos}
end
section
variable{P:QB}{w:Ji}{K:PySem.W.Frag}{mg:Str->Option Value}{base:Heap}
end
section
variable{X:Cx}{k:Nat}{f:Addr}{fd:QR}{ps:List Str}{sp:Sp}{x:Str}{p pos:Pos}{e:Q5}{es:List Q5}{t:TA}
end
section
variable{X:Cx}
theorem bools_eq{bs:List Bool}{us:List Value}(r:Vals (bs.map V.bl) us):us=bs.map Qbk:=by
 induction bs generalizing us with
 |nil=>cases r;rfl
 |cons b bs ih=>
  cases r with
  |cons r t=>
   cases(show _=Qbk b from r);rw[ih t];rfl
end
end Rx
namespace Rd
open L2
mutual
inductive Dat (H:Hp):V->Qb->Prop
 |non:Dat H .non .none
 |bl (b:Bool):Dat H (.bl b) (.bool b)
 |int (i:Int):Dat H (.int i) (.int i)
 |str (x:Str):Qcm (.str x)=true->Dat H (.str x) (.str x)
 |tup {a:Addr} {xs:List V} {ds:List Qb}:H a=some (.tup xs)->Dats H xs ds->Dat H (.ref a) (.tuple ds)
 |lst {a:Addr} {xs:List V} {ds:List Qb}:H a=some (.lst xs)->Dats H xs ds->Dat H (.ref a) (.list ds)
inductive Dats (H:Hp):List V->List Qb->Prop
 |nil:Dats H [] []
 |cons {x:V} {xs:List V} {d:Qb} {ds:List Qb}:Dat H x d->Dats H xs ds->Dats H (x::xs) (d::ds)
end
mutual
theorem ZZ{P:QB}{w:Ji}{H:Hp}{h:Heap}(ok:HOk P w H h):∀(d:Qb)(x:V)(v:Value),Dat H x d->RelV x v->(∃as,QaU h v d as)/\d.canLay0=true
 |.none,_,v,.non,r=>by cases r;exact⟨⟨_,.none⟩,rfl⟩
 |.bool b,_,v,.bl _,r=>by cases r;exact⟨⟨_,.bool b⟩,rfl⟩
 |.int i,_,v,.int _,r=>by obtain⟨t,rfl⟩:=r;exact⟨⟨_,.int i t⟩,rfl⟩
 |.str z,_,v,.str _ c,r=>by obtain⟨t,rfl⟩:=r;exact⟨⟨_,.str z t⟩,c⟩
 |.tuple ds,_,v,.tup (a:=a) (xs:=xs) e q,r=>by
  cases r;obtain⟨_,its,rv,o,ho,hc,_,n,hd⟩:=ok a _ e;obtain⟨⟨as,ra⟩,cl⟩:=YH ok ds xs its q rv;exact⟨⟨as,.tuple ho hc hd ra⟩,cl⟩
 |.list ds,_,v,.lst (a:=a) (xs:=xs) e q,r=>by
  cases r;obtain⟨_,its,n,rv,ho⟩:=ok a _ e;obtain⟨⟨as,ra⟩,cl⟩:=YH ok ds xs its q rv;exact⟨⟨a::as,.list ho rfl rfl ra⟩,cl⟩
 |.dict _,_,_,q,_=>nomatch q
theorem YH{P:QB}{w:Ji}{H:Hp}{h:Heap}(ok:HOk P w H h):∀(ds:List Qb)(xs:List V)(vs:List Value),Dats H xs ds->Vals xs vs->(∃as,Yx h vs ds as)/\Q7 ds=true
 |[],_,vs,.nil,r=>by cases r;exact⟨⟨_,.nil⟩,rfl⟩
 |d::ds,_,vs,.cons (x:=x) (xs:=xs) q qs,r=>by
  cases r with
  |cons r rs=>
   obtain⟨⟨a1,r1⟩,c1⟩:=ZZ ok d x _ q r;obtain⟨⟨a2,r2⟩,c2⟩:=YH ok ds xs _ qs rs;exact⟨⟨_,.cons r1 r2⟩,by simp[Q7,c1,c2]⟩
end
mutual
theorem QoJ{H H':Hp}(s:Same H H'):∀(d:Qb)(x:V),Dat H x d->Dat H' x d
 |.none,_,.non=>.non
 |.bool _,_,.bl _=>.bl _
 |.int _,_,.int _=>.int _
 |.str _,_,.str _ c=>.str _ c
 |.tuple ds,_,.tup (xs:=xs) e q=>.tup (s _ _ e) (QcF s ds xs q)
 |.list ds,_,.lst (xs:=xs) e q=>.lst (s _ _ e) (QcF s ds xs q)
 |.dict _,_,q=>nomatch q
theorem QcF{H H':Hp}(s:Same H H'):∀(ds:List Qb)(xs:List V),Dats H xs ds->Dats H' xs ds
 |[],_,.nil=>.nil
 |d::ds,_,.cons (x:=x) (xs:=xs) q qs=>.cons (QoJ s d x q) (QcF s ds xs qs)
end
theorem Dats.same{H H':Hp}{xs:List V}{ds:List Qb}(q:Dats H xs ds)(s:Same H H'):Dats H' xs ds:=QcF s ds xs q
section
variable{X:Cx}
def Qzl(X:Cx):R2:=λx y H Q=>∃dx dy,Dat H x dx/\Dat H y dy/\X.A.units+min dx.depth dy.depth<cLine/\Q (.bl (Jj dx dy)) H
theorem Qvh:OpR X (compareOp .Eq) (Qzl X):=by
 intro pins s σ H x y v u Q I rx ry h;obtain⟨dx,dy,qx,qy,hu,q⟩:=h;obtain⟨⟨as,ra⟩,ca⟩:=ZZ I.hok dx x v qx rx;obtain⟨⟨bs,rb⟩,cb⟩:=ZZ I.hok dy y u qy ry;exact SeqAt.compareEq_reads ra rb ca cb hu ⟨.bl _,H,I,rfl,q⟩
open Classical in
noncomputable def eqH (h:Heap) (d:Qb) (y:Value):Bool:=decide (∃e as,QaU h y e as/\e.canLay0=true/\Jj e d=true)
open Classical in
theorem Qx8{h:Heap}{d:Qb}{y:Value}(q:∃e as,QaU h y e as/\e.canLay0=true/\Jj e d=true):eqH h d y=true:=by
 unfold eqH;exact decide_eq_true q
open Classical in
theorem Qx9{h:Heap}{d:Qb}{y:Value}(q:¬ ∃e as,QaU h y e as/\e.canLay0=true/\Jj e d=true):eqH h d y=false:=by
 unfold eqH;exact decide_eq_false q
theorem QpJ{h:Heap}{d e:Qb}{y:Value}{as:List Addr}(r:QaU h y e as)(c:e.canLay0=true):eqH h d y=Jj e d:=by
 cases q:Jj e d with
 |true=>exact Qx8 ⟨e,as,r,c,q⟩
 |false=>
  refine Qx9 λ⟨e',as',r',c',q'⟩=>?_
  rw[<- QaB e e' y as as' c r r',q] at q';cases q'
theorem Qem{h:Heap}{d:Qb}:∀{vs:List Value}{ds:List Qb}{as:List Addr},Yx h vs ds as->Q7 ds=true->vs.any (eqH h d)=ds.any λe=>Jj e d
 |_,_,_,.nil,_=>rfl
 |_,_,_,.cons r rs,c=>by
  simp only[Q7,Jp] at c;rw[QdB,QdB,QpJ r c.1,Qem rs c.2]
theorem Qea{A:Q3}{s:Shared}{d:Qb}{v:Value}{bs:List Addr}(rv:QaU s.heap v d bs)(cv:d.canLay0=true):∀{vs:List Value}{ds:List Qb}{as:List Addr},Yx s.heap vs ds as->Q7 ds=true->A.units+d.depth<cLine ->
  ∀u∈vs,Qne A s u v (eqH s.heap d u)
 |_,_,_,.nil,_,_=>λu hu=>nomatch hu
 |_,_,_,.cons (d:=e) r rs,c,hu=>λu hm=>by
  simp only[Q7,Jp] at c;rcases Qy.mp hm with z | z
  ·subst z;rw[QpJ r c.1];exact Qer e d A s _ v _ bs r rv c.1 cv (QdP (Nat.add_le_add_left (QtF _ _) _) hu)
  ·exact Qea rv cv rs c.2 hu u z
def QyE(X:Cx)(neg:Bool):R2:=λx y H Q=>∃c ps ds d,y=.ref c/\H c=some (.tup ps)/\Dats H ps ds/\Dat H x d/\X.A.in1.units+d.depth<cLine/\Q (.bl (if neg then !(ds.any λe=>Jj e d) else ds.any λe=>Jj e d)) H
theorem Qvf:OpR X (compareOp .In) (QyE X false):=by
 intro pins s σ H x y v u Q I rx ry h;obtain⟨c,ps,ds,d,rfl,hc,qs,qx,hu,q⟩:=h;cases ry;obtain⟨⟨as,ra⟩,ca⟩:=ZZ I.hok d x v qx rx;obtain⟨_,its,rv,tp⟩:=I.hok c _ hc;have tp:=TupN.tup tp;obtain⟨⟨bs,rb⟩,cb⟩:=YH I.hok ds ps its qs rv;refine SeqAt.in_tupleAt (eqH s.heap d) tp (λw hw=>Qea ra ca rb cb hu w (QbR.mp hw)) ⟨.bl _,H,I,rfl,?_⟩;rw[show its.toArray.any (eqH s.heap d)=its.any (eqH s.heap d) by simp,Qem rb cb];exact q
theorem QlB:OpR X (compareOp .NotIn) (QyE X true):=by
 intro pins s σ H x y v u Q I rx ry h;obtain⟨c,ps,ds,d,rfl,hc,qs,qx,hu,q⟩:=h;cases ry;obtain⟨⟨as,ra⟩,ca⟩:=ZZ I.hok d x v qx rx;obtain⟨_,its,rv,tp⟩:=I.hok c _ hc;have tp:=TupN.tup tp;obtain⟨⟨bs,rb⟩,cb⟩:=YH I.hok ds ps its qs rv;refine Qkp (eqH s.heap d) tp (λw hw=>Qea ra ca rb cb hu w (QbR.mp hw)) ⟨.bl _,H,I,rfl,?_⟩;rw[show its.toArray.any (eqH s.heap d)=its.any (eqH s.heap d) by simp,Qem rb cb];exact q
end
section
variable{X:Cx}
end
end Rd
namespace L2
def Ite(l:Addr):It:=
 ⟨λi H=>∃xs x,H l=some (.lst xs)/\xs[i]? = some x,
  λi H v H'=>∃p x,H p=none/\(∀xs,H l=some (.lst xs)->xs[i]? = some x)/\v=.ref p/\H'=upd H p (.tup [.int (i:Nat),x]),
  λi H=>∃xs,H l=some (.lst xs)/\xs.length<=i⟩
theorem QkC{P:QB}{w:Ji}{K:PySem.W.Frag}{elts:List Q5}{x1}{tpos:Pos}{e it l:Addr}(hne:e≠it) :
  Turn P w K (.Tuple elts x1 tpos) (Ite l) [e,it] e (λi h=>(∃old,IsEnum h e it (i:Nat) old)/\h.IsListIter it l i) where
 mem:=by simp
 obj:=λi h st b hb=>by
  obtain⟨⟨old,a1⟩,⟨o2,a2,_,d2⟩⟩:=st;simp only[Qy,Zs,or_false] at hb;rcases hb with rfl | rfl
  ·exact⟨_,a1,λv q=>nomatch q⟩
  ·exact⟨_,a2,λv q=>by rw[d2] at q;cases q⟩
 keep:=λi h h' st k=>by
  obtain⟨⟨old,a1⟩,⟨o2,a2,c2⟩⟩:=st;exact⟨⟨old,k e (by simp) _ a1⟩,o2,k it (by simp) _ a2,c2⟩
 item:=by
  intro X hP hw hK hc i pins s σ H E I hf st hg;subst hP hw hK;obtain⟨xs,x,h1,hx⟩:=hg;obtain⟨⟨old,a1⟩,a2⟩:=st;obtain⟨its,r1,p1,_⟩:=I.list (SqL.of h1);obtain⟨u,hu,ru⟩:=r1.get hx;refine wpAny_pyNext_enum_item a1 a2 p1.isList (x:=u) (by simpa using hu) hne λh' o' l' tp sz kp=>?_
  have fr:H s.heap.objs.size=none:=I.hok.fresh (Qj _);have n1:e≠s.heap.objs.size:=QV (Qw a1);have n2:it≠s.heap.objs.size:=by
   obtain⟨o2,a2,_⟩:=a2;exact QV (Qw a2)
  refine⟨_,rfl,wpAny_letOwnedTupleGo_enum o' λh2 e2 s2=>?_⟩;have I1:Inv X pins σ (upd H s.heap.objs.size (.tup [.int (i:Nat),x])) { s with heap:=h2,toks:=s.toks+1 }:=by
   refine I.turnedNew (ch:=[e,it]) hf (λb v hb q=>?_) (Qj _) ⟨by show 2<=sizeLine;decide,[.int (i:Nat) s.toks,u],.cons ⟨_,rfl⟩ (.cons ru .nil),?_⟩
   ·simp only[Qy,Zs,or_false,not_or] at hb;exact s2.extBut _ _ hb.1 (kp b v hb.1 hb.2 q)
   ·exact⟨_,s2.extBut _ _ n1.symm tp,rfl,rfl,0,rfl⟩
  refine⟨.ref s.heap.objs.size,_,I1,rfl,⟨_,x,fr,λxs' q=>?_,rfl,rfl⟩,⟨⟨u,e2⟩,?_⟩,λb hb=>?_⟩
  ·rw[h1] at q;cases q;exact hx
  ·exact l'.extBut s2.extBut hne.symm
  ·simp only[Qy,Zs,or_false] at hb;rcases hb with rfl | rfl
   ·rw[JU n1];exact(hf _ (by simp)).1
   ·rw[JU n2];exact(hf _ (by simp)).1
 done:=by
  intro X hP hw hK hc i pins s σ H E I hf st hg;subst hP hw hK;obtain⟨xs,h1,he⟩:=hg;obtain⟨⟨old,a1⟩,a2⟩:=st;obtain⟨its,r1,p1,_⟩:=I.list (SqL.of h1);have l1:=r1.length;refine wpAny_pyNext_enum_end (I.ok.hd hc) a1 a2 p1.isList (by simp;omega) λh' kp=>⟨rfl,I.turnedAll (t':=s.toks) (ch:=[e,it]) hf λb v hb q=>?_⟩
  simp only[Qy,Zs,or_false,not_or] at hb;exact kp b v hb.2 q
 self:=λ_ _ _ _ _ st h=>by
  obtain⟨⟨old,a1⟩,_⟩:=st;exact QwF a1 h
def QxZ(ta:TA):TI:=λσ H R=>ta σ H λvs H1=>∃l xs,vs=[.ref l]/\H1 l=some (.lst xs)/\R (Ite l) H1
theorem QmK:bootBuiltins "enumerate" = some (.type "enumerate"):=by decide +kernel
section
variable{X:Cx}
theorem QrW{a:Q5}{elts:List Q5}{x1}{tpos:Pos}{ta:TA}{p pos:Pos}(hg:Gl X "enumerate")(hm:X.mg "enumerate" = none)(ha:PA X [a] ta)(hs:starEach [a] X.env=[(false,eval a X.env)]:=by rfl) :
  PI X (.Tuple elts x1 tpos) (.Call (.Name "enumerate" p) [a] [] pos) (QxZ ta):=by
 intro pins s σ H R I h;refine Call_ (Qdj I hg hm QmK (Zr (thn (ha pos pins s σ H _ I h) λus s1 ⟨vs,H1,I1,r1,q1⟩=>?_) hs rfl));obtain⟨l,xs,e,h1,q⟩:=q1;subst e;obtain⟨u,rfl,ru⟩:=vals1 r1;cases(show u=Z6 l from ru);obtain⟨its,w1,p1,_⟩:=I1.list (SqL.of h1);refine call_enumerate_list p1.isList λh' e1 i1 sz kp=>?_
 refine QwF (s:={ s1 with heap:=h' }) e1 ?_
 refine⟨s1.heap.objs.size+1,_,_,_,H1,rfl,I1.kept (t':=s1.toks) kp,QkC (by show ¬(s1.heap.objs.size+1=s1.heap.objs.size);omega),⟨⟨_,e1⟩,i1⟩,λb hb=>?_,q⟩;have hb':s1.heap.objs.size<=b:=by
  simp only[Qy,Zs,or_false] at hb;rcases hb with rfl | rfl<;>omega
 exact I1.fpOk hb' (I1.hok.fresh hb')
end
section
variable{prog:QB}{w:Ji}{A:Q3}{R:Qjt->Shared->Prop}{s:Shared}
end
end L2
namespace Rk
open L2 Rd
def pairD(ij:Int×Int):Qb:=.tuple [.int ij.1,.int ij.2]
theorem Qj7(b:Int×Int):Yk (pairD b)=1:=by
 unfold pairD;simp[Yk,QN]
end Rk
namespace Rr
section
variable{prog:QB}{w:Ji}{A:Q3}{E:Value->Shared->Prop}{s:Shared}
end
end Rr
namespace L2
def Qua(ta:TA):TE:=λσ H Q=>ta σ H λvs H1=>∃j,vs=[.int j]/\∀r H2,Same H1 H2->H1 r=none->H2 r=some (.rng 0 j)->Q (.ref r) H2
section
variable{X:Cx}
theorem QnO{a:Q5}{ta:TA}{p pos:Pos}(hg:Gl X "range")(hm:X.mg "range" = none)(ha:PA X [a] ta)(hs:starEach [a] X.env=[(false,eval a X.env)]:=by rfl):PE X (.Call (.Name "range" p) [a] [] pos) (Qua ta):=by
 intro pins s σ H Q I h;refine Qak (Qdj I hg hm boot_range ?_);refine Zr (thn (ha pos pins s σ H _ I h) λus s1 ⟨vs,H1,I1,r1,q1⟩=>?_) hs rfl;obtain⟨j,e,q⟩:=q1;subst e;obtain⟨u,rfl,ru⟩:=vals1 r1;obtain⟨t,rfl⟩:=ru;refine call_range_1 ?_
 have hf:H1 s1.heap.objs.size=none:=I1.hok.fresh (Qj _);refine⟨.ref s1.heap.objs.size,upd H1 s1.heap.objs.size (.rng 0 j),I1.laid (t':=s1.toks+1+1) (λb u e=>Qm _ e) (Qj _) ⟨_,_,_,Qz _ rfl⟩,rfl,q _ _ (JW hf) hf JB⟩
end
end L2
namespace Rs
open PySem.W
def sp{α:Type}(n:Nat)(c:Nat->Nat->Bool):KasT α->(α->Prop)->Prop
 |.ret a,Q=>Q a
 |.ask i j f,Q=>i<n/\j<n/\sp n c (f (c i j)) Q
section
variable{n:Nat}{K:Nat->Int}
structure Good (n:Nat) (p:Array Nat):Prop where
 perm:p.toList.Perm (Je n)
theorem Good.size{p:Array Nat}(g:Good n p):p.size=n:=by
 have:=g.perm.length_eq;rw[Jf,Qg] at this;exact this
def at_(p:Array Nat)(i:Nat):Nat:=p.getD i 0
theorem QmQ{p:Array Nat}{i:Nat}(h:i<p.size):p[i]? = some (at_ p i):=by
 unfold at_;rw[Qfh,Qa6 h];rfl
theorem Good.lt{p:Array Nat}(g:Good n p)(h0:0<n)(i:Nat):at_ p i<n:=by
 by_cases h:i<p.size
 ·have e:=QmQ h;have m:at_ p i∈p.toList:=by
   have:=Qjz e;exact Qcq.mpr this
  exact Js.mp (g.perm.mem_iff.mp m)
 ·unfold at_;rw[Qfh,ZF (by omega)];exact h0
theorem Good.inj{p:Array Nat}(g:Good n p){i j:Nat}(hi:i<n)(hj:j<n)(e:at_ p i=at_ p j):i=j:=by
 have nd:p.toList.Nodup:=g.perm.nodup_iff.mpr QbQ;have hs:=g.size;have hi':i<p.toList.length:=by rw[Qg];omega
 have hj':j<p.toList.length:=by rw[Qg];omega
 have ei:p.toList[i]=at_ p i:=by
  have:=QmQ (p:=p) (i:=i) (by omega);rw[Qa6 (by omega)] at this;rw[Qkl];exact Qs this
 have ej:p.toList[j]=at_ p j:=by
  have:=QmQ (p:=p) (i:=j) (by omega);rw[Qa6 (by omega)] at this;rw[Qkl];exact Qs this
 have pw:=ZM.mp nd;rcases Nat.lt_trichotomy i j with h | h | h
 ·exact absurd (ei.trans (e.trans ej.symm)) (pw i j hi' hj' h)
 ·exact h
 ·exact absurd (ej.trans (e.symm.trans ei.symm)) (pw j i hj' hi' h)
def kk(K:Nat->Int)(p:Array Nat)(i:Nat):Int:=K (at_ p i)
end
end Rs
namespace Rs
open PySem.W PySem.Calls
section
variable{prog:QB}{w:Ji}{A:Q3}{E:Value->Shared->Prop}{s:Shared}
def Kept(a:Addr)(h h':Heap):Prop:=∀b x,b≠a->h.get? b=some x->h'.get? b=some x
theorem Qfk{h:Heap}{a:Addr}(f:Obj->Obj):Kept a h (h.update a f):=λb x hb e=>(Heap.get?_update_ne _ _ _ _ hb).trans e
theorem Qgw{h:Heap}{a:Addr}(o:Obj):Kept a h (h.push o):=λb x _ e=>Qm _ e
theorem Kept.trans{a:Addr}{h h1 h2:Heap}(k:Kept a h h1)(k':Kept a h1 h2):Kept a h h2:=λb x hb e=>k' b x hb (k b x hb e)
end
structure Qwi (h:Heap) (v:Value) (ij:Int×Int):Prop where
 it:∃(a:Addr)(o:Obj)(n:Nat)(t u:Tok),v=.ref a/\h.get? a=some o/\o.cls=.type "tuple" /\ o.data=.seq #[.int ij.1 t,.int ij.2 u] n
inductive PairsV (h:Heap):List Value->List (Int×Int)->Prop
 |nil:PairsV h [] []
 |cons {v:Value} {vs:List Value} {ij:Int×Int} {L:List (Int×Int)}:Qwi h v ij->PairsV h vs L->PairsV h (v::vs) (ij::L)
theorem PairsV.at_{h:Heap}:∀{vs:List Value}{L:List (Int×Int)},PairsV h vs L->∀i,i<vs.length->Qwi h (vs.getD i ZI) (L.getD i (0,0))
 |_,_,.nil,i,hi=>by simp at hi
 |_,_,.cons q r,0,hi=>q
 |_,_,.cons q r,i+1,hi=>by
  have:=r.at_ i (by simpa using hi)
  simpa using this
section
variable{prog:QB}{w:Ji}{A:Q3}{E:Value->Shared->Prop}{s:Shared}
end
end Rs
namespace L2
open _root_.Rd _root_.Rk _root_.Rs
theorem boot_sorted:bootBuiltins "sorted" = some (.builtin "sorted"):=by decide +kernel
section
variable{X:Cx}
theorem Qjm:∀{ns:List Int}{vs:List Value},IntsAre vs ns->Vals (ns.map V.int) vs
 |_,_,.nil=>.nil
 |_,_,.cons n t r=>.cons ⟨t,rfl⟩ (Qjm r)
end
end L2
namespace Re
open AutoSeq1 (wpAny_loadPart')
end Re
namespace L2
section
variable{X:Cx}
end
end L2
namespace Rk
open L2
end Rk
namespace L2
section
variable{X:Cx}{pins:List (Addr×Obj)}{σ:St}{H:Hp}
theorem Qex{M:List Str}{scope:QaM}{fp:List Addr}{σ':St}{H3:Hp}{s3 s':Shared}{D:Addr}{i:Nat}{y:Str}{py:Pos}{Mo:QwW}{A:Q3}{E:Value->Shared->Prop}{Q:Value->Shared->Prop}
  (I3:Inv X pins σ H3 s3)(f3:∀b∈fp,FpOk X pins H3 b)(J:Inv (blk X M scope (Qcj X.env scope.names []) fp s3 H3 s3.heap.objs.size) [] σ' H s')
  (hN:X.N.Nodup)(hi:X.N[i]? = some y)(hl:X.env.scope.names.lookup y=some .local)(hq:∀s2,Inv X pins (σ.set i (some (.ref D))) H s2->Q .none s2) :
  wpAny Mo A (assign (.Name y py) X.env (.ref D)) (λ_ s2=>∃m,s2.heap.Ns s3.heap.objs.size m/\∀h',Qa5 s3.heap.objs.size s2.heap h'->Q .none { s2 with heap:=h' }) E s':=by
 have J0:Inv X pins σ H s':=QmO I3 f3 J (Qhk ..);obtain⟨m,hn,_⟩:=J.loc;have hC:H s3.heap.objs.size=none:=J.free;have lt:X.env.locals<s3.heap.objs.size:=I3.lt;refine QwG (Qgm J0 hN hi (Jc hl) (show RelV (.ref D) (.ref D) from rfl) (λs2 J2 ⟨a,sb,ha⟩=>?_) (.inr hl));have ea:a=X.env.locals∨X.env.cells.lookup y=some a:=ha;have na:s3.heap.objs.size≠a:=by
  rcases ea with z | z
  ·rw[z];exact Qar lt
  ·obtain⟨v,o,ho,_⟩:=I3.cell y a z;exact Qar (Qw ho)
 refine⟨m,hn.sameBut sb na,λh' hs=>hq _ ?_⟩;refine J2.turned (t':=s2.toks) (it:=s3.heap.objs.size) (λb o hb e=>hs.extBut b o hb e) hC (Qar lt) (.inr I3.sz) (λx c e z=>?_) λp hp z=>?_
 ·obtain⟨v,o,ho,_⟩:=I3.cell x c e;exact absurd (z ▸ Qw ho) (YA _)
 ·have e:=(I3.pin p hp).1;exact absurd (z ▸ Qw e) (YA _)
end
end L2
namespace Rk
open L2 _root_.Rd
section
variable{X:Cx}
def Qzk(X:Cx):R2:=λx y H Q=>∃dx dy,Dat H x dx/\Dat H y dy/\X.A.units+min dx.depth dy.depth<cLine/\Q (.bl (!Jj dx dy)) H
theorem Qvc:OpR X (compareOp .NotEq) (Qzk X):=by
 intro pins s σ H x y v u Q I rx ry h;obtain⟨dx,dy,qx,qy,hu,q⟩:=h;obtain⟨⟨as,ra⟩,ca⟩:=ZZ I.hok dx x v qx rx;obtain⟨⟨bs,rb⟩,cb⟩:=ZZ I.hok dy y u qy ry;exact SeqAt.compareNe_reads ra rb ca cb hu ⟨.bl _,H,I,rfl,q⟩
end
end Rk
namespace Rk
open L2
end Rk
namespace Rx
open PySem.Calls L2
section
variable{X:Cx}{E:XK}
end
section
variable{X:Cx}{tf:TE}{fe:Q5}{pos:Pos}{e:Q5}{es:List Q5}{t:TA}{M:Addr->Sp->Prop}
end
end Rx
namespace Rk
open L2 _root_.Rd
structure GlbA (mg:Str->Option Value):Prop where
 isinstance:mg "isinstance" = none
 int:mg "int" = none
 bool:mg "bool" = none
 str:mg "str" = none
 tuple:mg "tuple" = none
 list:mg "list" = none
 all:mg "all" = none
 len:mg "len" = none
 zip:mg "zip" = none
 enumerate:mg "enumerate" = none
 range:mg "range" = none
 max:mg "max" = none
 min:mg "min" = none
 sorted:mg "sorted" = none
 sum:mg "sum" = none
 set:mg "set" = none
 any:mg "any" = none
 reversed:mg "reversed" = none
 divmod:mg "divmod" = none
def Qxs(u:Nat)(neg:Bool):R2:=λx y H Q=>∃c ps ds d,y=.ref c/\H c=some (.tup ps)/\Dats H ps ds/\Dat H x d/\u+d.depth<cLine/\Q (.bl (if neg then !(ds.any λe=>Jj e d) else ds.any λe=>Jj e d)) H
theorem Qve{X:Cx}:OpR X (compareOp .In) (Qxs X.A.in1.units false):=Qvf
end Rk
namespace Rx
open PySem.Calls L2
section
variable{P:QB}{w:Ji}{K:PySem.W.Frag}{mg:Str->Option Value}{base:Heap}
end
end Rx
namespace Rk
open L2 _root_.Rd
section
variable{X:Cx}{is js:List Nat}
end
end Rk
namespace L2
section
variable{prog:QB}{w:Ji}{A:Q3}{E:Value->Shared->Prop}{s:Shared}
end
section
variable{X:Cx}
end
def Qux(K:PySem.W.Frag):List V->Hp->VK->Prop:=λxs H Q=>∃p ys,xs=[.ref p]/\(SqL K H p ys∨SqT K H p ys)/\Q (.int ys.length) H
theorem Qwa:bootBuiltins "sum" = some (.builtin "sum"):=by decide +kernel
theorem bt_set:bootBuiltins "set" = some (.type "set"):=by decide +kernel
theorem Qg4:bootBuiltins "sorted" = some (.builtin "sorted"):=by decide +kernel
def Quq(K:PySem.W.Frag):List V->Hp->VK->Prop:=λxs H Q=>∃(p:Addr)(ns:List Int),xs=[.ref p]/\SqL K H p (ns.map V.int)/\Q (.int ns.sum) H
def CMulB(i j:Int):Prop:=∃k:Nat,k<=1000000/\i.natAbs<2^k/\j.natAbs<2^k
theorem QmP{i:Int}{k:Nat}(h:i.natAbs<2^k):J6 i<=k:=by
 unfold J6;split
 ·exact Qr _
 ·rename_i z
  have hz:i.natAbs≠0:=by
   intro q;apply z
   have:i=0:=by omega
   subst this;rfl
  have:=(Nat.log2_lt hz).mpr h;omega
theorem CMulB.ok{i j:Int}(h:CMulB i j):IntMulOk i j:=by
 obtain⟨k,hk,h1,h2⟩:=h;have a:=QmP h1;have b:=QmP h2;unfold IntMulOk;have c:Qfg (J6 i+J6 j:Nat)=false:=by
  unfold Qfg;rw[decide_eq_false];have:bitsLine=134217728:=by decide +kernel
  rw[this];omega
 intro z;rw[Jp] at z;have z2:=z.2;have e:((J6 i+J6 j:Nat):Int)=(J6 i:Int)+(J6 j:Int):=by omega
 rw[e] at c;rw[c] at z2;cases z2
section
variable{X:Cx}
theorem Qss:OpR X (binaryOp .Mult) (rI CMulB λi j=>.int (i*j)):=opI λ_ _ _ _ _ _ _ hc q=>mul_int q hc.ok
theorem Qoz:Qy6 X (Qwu X.K):=by
 intro pins s σ H o i ov iv Q I ro ri h;obtain⟨p,xs,k,z,rfl,rfl,hq,he,q⟩:=h;cases ro;obtain⟨t,rfl⟩:=ri;obtain⟨its,r,pl,hz⟩:=I.list hq;obtain⟨j,h1,h2,h3,h4,h5⟩:=Qij he;obtain⟨w,ew,rw'⟩:=r.get h2;have hl:=r.length;have hn:=QeX;have fin:EP X pins σ Q w s:=⟨z,H,I,rw',q⟩;by_cases h0:0<=k
 ·have hj:k.toNat=j:=by
   rw[Qjq h0 h5] at h1;exact Qs h1
  exact wpAny_getItem_list pl.isList h0 (by omega) (by rw[hj];simpa using ew) fin
 ·have hj:(k+(its.toArray.size:Int)).toNat=j:=by
   rw[Qhc (by omega) h4] at h1;rw[Qq,<- hl];exact Qs h1
  exact Qo1 pl.isList (by omega) (by rw[Qq]<;>omega) (by omega) (by rw[hj];simpa using ew) fin
theorem QmE(hc:X.calm=true):CallR X (.builtin "sum") (Quq X.K):=by
 intro pins s σ H xs us Q I r h;obtain⟨p,ns,rfl,hp,q⟩:=h;obtain⟨u,rfl,ru⟩:=vals1 r;cases ru;obtain⟨its,rv,pl,hz⟩:=I.list hp;have hi:IntsAre its ns:=intsAre_of rv;obtain⟨ys,hx⟩:=hi.allInts.items;have hl':s.heap.IsList p (intItems ys):=hx ▸ pl.isList;refine sum_intListG (I.ok.hd hc) hl' λh' tk t' hk=>?_
 have e1:ns=ys.toList.map (·.1):=by
  rw[<- nums_intItems,<- hx];exact(show numsOf its.toArray.toList=ns from hi.numsOf).symm
 have e2:preSum (numAt ys) ys.size=ns.sum:=by
  rw[preSum_eq,Yc (by simp),e1]
 rw[e2];exact⟨.int _,H,I.kept hk,⟨_,rfl⟩,q⟩
end
end L2
namespace Rk
open L2 _root_.Rd
def Qyz(u:Nat):R2:=λx y H Q=>∃dx dy,Dat H x dx/\Dat H y dy/\u+min dx.depth dy.depth<cLine/\Q (.bl (!Jj dx dy)) H
theorem Qvb{X:Cx}:OpR X (compareOp .NotEq) (Qyz X.A.units):=Qvc
def QyF(u:Nat):R2:=λx y H Q=>∃dx dy,Dat H x dx/\Dat H y dy/\u+min dx.depth dy.depth<cLine/\Q (.bl (Jj dx dy)) H
theorem Qvg{X:Cx}:OpR X (compareOp .Eq) (QyF X.A.units):=Qvh
theorem QlA{X:Cx}:OpR X (compareOp .NotIn) (Qxs X.A.in1.units true):=QlB
end Rk
namespace Rx
open PySem.Calls L2
end Rx
namespace Rk
open L2 _root_.Rd
theorem QsV{n k:Nat}(h:k<n):ixN n (k:Nat)=some k:=by
 unfold ixN;rw[if_pos (by omega),if_pos (by omega)];simp
end Rk
namespace HT
section
open PySem.SeqAt
open PySem.AutoSeq1 (wpAny_loadPart')
open PySem.MeetsSeq PySem.MeetsSeq2 PySem.MeetsSeq3
end
section
variable{prog:QB}{w:Ji}{A:Q3}{E:Value->Shared->Prop}{s:Shared}
end
end HT
namespace L2
def Qus(K:PySem.W.Frag):V->Option Int->Option Int->Hp->VK->Prop:=λx lo hi H Q=>∃a xs,x=.ref a/\SqL K H a xs/\∀p H',Same H H'->H p=none->H' p=some (.lst (Qje xs lo hi))->Q (.ref p) H'
theorem Qnv{X:Cx}:SlR X (Qus X.K):=by
 intro pins s σ H x v vl vu lo hi sl Q I rx hs pl pu h;obtain⟨a,xs,e,hx,q⟩:=h;exact Qrs pins s σ H x v vl vu lo hi sl Q I rx hs pl pu ⟨a,xs,e,hx,λp hp=>q p _ (JW hp) hp JB⟩
theorem cut_last(xs:List V):(Qje xs (some (-1)) none).length<=1:=by
 unfold Qje;rw[Zu,QaD];have h2:xs.length - 1<=HT.sIx xs.length 0 (some (-1)):=by
  show xs.length - 1<=(if(-1:Int)<0 then((-1:Int)+(xs.length:Int)).toNat else min (-1:Int).toNat xs.length);rw[if_pos (by decide)];omega
 omega
end L2
namespace Rk
open L2 _root_.Rd
end Rk
namespace L2
section
variable{X:Cx}
def Qk8(K:PySem.W.Frag):List V->Hp->VK->Prop:=λxs H Q=>∃p ys,xs=[.ref p]/\((SqL K H p ys/\∀l H',Same H H'->H l=none->H' l=some (.tup ys)->Q (.ref l) H')∨(SqT K H p ys/\Q (.ref p) H))
theorem QaQ:CallR X (.type "tuple") (Qk8 X.K):=by
 intro pins s σ H xs us Q I r h;obtain⟨p,ys,e,h⟩:=h;refine QcG pins s σ H xs us Q I r ⟨p,ys,e,?_⟩;rcases h with⟨h1,h2⟩ | h
 ·exact .inl ⟨h1,λl hl=>h2 l _ (JW hl) hl JB⟩
 ·exact .inr h
def Qla(K:PySem.W.Frag):List V->Hp->VK->Prop:=λxs H Q=>∃p ys,xs=[.ref p]/\(SqL K H p ys∨SqT K H p ys)/\∀l H',Same H H'->H l=none->H' l=some (.lst ys)->Q (.ref l) H'
theorem QfY:CallR X (.type "list") (Qla X.K):=by
 intro pins s σ H xs us Q I r h;obtain⟨p,ys,e,h1,h2⟩:=h;exact Qg3 pins s σ H xs us Q I r ⟨p,ys,e,h1,λl hl=>h2 l _ (JW hl) hl JB⟩
end
end L2
namespace Rk
open L2 _root_.Rd
end Rk
namespace L2
section
variable{X:Cx}
end
section
variable{X:Cx}
end
end L2
namespace Rk
open L2 _root_.Rd
end Rk
namespace Rx
open PySem.Calls L2
section
variable{X:Cx}{e:Q5}{st:Yn}{pos:Pos}{te:TX}{t u:TSX}{tc:TT}{c:Q5}{a b:List Yn}
end
section
variable{X:Cx}{R:Addr}{i:Nat}{n r:Str}{body:List Yn}{hx:Q5}{tb:TSX}{th:TE}{np hp hpos pos:Pos}
end
end Rx
namespace L2
section
variable{X:Cx}
end
end L2
namespace Rk
open L2 _root_.Rd
end Rk
namespace Dl
open L2 _root_.Rd Rk
def dkV(kvs:List (Int×Int)):List (Key×V):=kvs.map λp=>(Qcl p.1,V.int p.2)
def dkD(kvs:List (Int×Int)):List (Qb×Qb):=kvs.map λp=>(Qe p.1,Qe p.2)
mutual
inductive DA (A:Addr->Prop) (H:Hp):V->Qb->Prop
 |non:DA A H .non .none
 |bl (b:Bool):DA A H (.bl b) (.bool b)
 |int (i:Int):DA A H (.int i) (.int i)
 |str (x:Str):Qcm (.str x)=true->DA A H (.str x) (.str x)
 |tup {a:Addr} {xs:List V} {ds:List Qb}:¬A a->H a=some (.tup xs)->DAs A H xs ds->DA A H (.ref a) (.tuple ds)
 |lst {a:Addr} {xs:List V} {ds:List Qb}:¬A a->H a=some (.lst xs)->DAs A H xs ds->DA A H (.ref a) (.list ds)
 |dct {a:Addr} {kvs:List (Int×Int)} {ds:List (Qb×Qb)}:¬A a->H a=some (.dK (dkV kvs))->ds=dkD kvs->DA A H (.ref a) (.dict ds)
inductive DAs (A:Addr->Prop) (H:Hp):List V->List Qb->Prop
 |nil:DAs A H [] []
 |cons {x:V} {xs:List V} {d:Qb} {ds:List Qb}:DA A H x d->DAs A H xs ds->DAs A H (x::xs) (d::ds)
end
mutual
theorem QvV{A A':Addr->Prop}{H H':Hp}(k:∀a o,¬A a->H a=some o->H' a=some o)(m:∀a,A' a->A a∨H a=none):∀(d:Qb)(x:V),DA A H x d->DA A' H' x d
 |.none,_,.non=>.non
 |.bool _,_,.bl _=>.bl _
 |.int _,_,.int _=>.int _
 |.str _,_,.str _ c=>.str _ c
 |.tuple ds,_,.tup (xs:=xs) n e q=>.tup (λz=>(m _ z).elim n λz=>by rw[z] at e;cases e) (k _ _ n e) (Qjb k m ds xs q)
 |.list ds,_,.lst (xs:=xs) n e q=>.lst (λz=>(m _ z).elim n λz=>by rw[z] at e;cases e) (k _ _ n e) (Qjb k m ds xs q)
 |.dict _,_,.dct n e q=>.dct (λz=>(m _ z).elim n λz=>by rw[z] at e;cases e) (k _ _ n e) q
theorem Qjb{A A':Addr->Prop}{H H':Hp}(k:∀a o,¬A a->H a=some o->H' a=some o)(m:∀a,A' a->A a∨H a=none):∀(ds:List Qb)(xs:List V),DAs A H xs ds->DAs A' H' xs ds
 |[],_,.nil=>.nil
 |d::ds,_,.cons (x:=x) (xs:=xs) q qs=>.cons (QvV k m d x q) (Qjb k m ds xs qs)
end
theorem DA.mv{A A':Addr->Prop}{H H':Hp}{x:V}{d:Qb}(q:DA A H x d)(k:∀a o,¬A a->H a=some o->H' a=some o)(m:∀a,A' a->A a∨H a=none):DA A' H' x d:=QvV k m d x q
theorem DAs.mv{A A':Addr->Prop}{H H':Hp}{x:List V}{d:List Qb}(q:DAs A H x d)(k:∀a o,¬A a->H a=some o->H' a=some o)(m:∀a,A' a->A a∨H a=none):DAs A' H' x d:=Qjb k m d x q
theorem DA.same{A:Addr->Prop}{H H':Hp}{x:V}{d:Qb}(q:DA A H x d)(s:Same H H'):DA A H' x d:=q.mv (λa o _ e=>s a o e) λa z=>.inl z
theorem DAs.same{A:Addr->Prop}{H H':Hp}{x:List V}{d:List Qb}(q:DAs A H x d)(s:Same H H'):DAs A H' x d:=q.mv (λa o _ e=>s a o e) λa z=>.inl z
theorem DAs.length{A:Addr->Prop}{H:Hp}:∀{xs:List V}{ds:List Qb},DAs A H xs ds->xs.length=ds.length
 |_,_,.nil=>rfl
 |_,_,.cons _ q=>by rw[QL,QL,q.length]
theorem DAs.get{A:Addr->Prop}{H:Hp}:∀{xs:List V}{ds:List Qb},DAs A H xs ds->∀(i:Nat)(d:Qb),ds[i]? = some d->∃x,xs[i]? = some x/\DA A H x d
 |_,_,.nil,i,x,e=>by simp at e
 |_,_,.cons q qs,0,x,e=>by simp at e;subst e;exact⟨_,rfl,q⟩
 |_,_,.cons q qs,i+1,x,e=>qs.get i x (by simpa using e)
theorem DAs.getV{A:Addr->Prop}{H:Hp}:∀{xs:List V}{ds:List Qb},DAs A H xs ds->∀(i:Nat)(x:V),xs[i]? = some x->∃d,ds[i]? = some d/\DA A H x d
 |_,_,.nil,i,x,e=>by simp at e
 |_,_,.cons q qs,0,x,e=>by simp at e;subst e;exact⟨_,rfl,q⟩
 |_,_,.cons q qs,i+1,x,e=>qs.getV i x (by simpa using e)
theorem DAs.app{A:Addr->Prop}{H:Hp}:∀{xs ys:List V}{ds es:List Qb},DAs A H xs ds->DAs A H ys es->DAs A H (xs++ys) (ds++es)
 |_,_,_,_,.nil,q=>q
 |_,_,_,_,.cons a b,q=>.cons a (b.app q)
theorem DAs.take{A:Addr->Prop}{H:Hp}:∀{xs:List V}{ds:List Qb},DAs A H xs ds->∀n:Nat,DAs A H (xs.take n) (ds.take n)
 |_,_,.nil,n=>by rw[Qwp,Qwp];exact .nil
 |_,_,.cons a b,0=>.nil
 |_,_,.cons a b,n+1=>.cons a (b.take n)
theorem DAs.drop{A:Addr->Prop}{H:Hp}:∀{xs:List V}{ds:List Qb},DAs A H xs ds->∀n:Nat,DAs A H (xs.drop n) (ds.drop n)
 |_,_,.nil,n=>by rw[Qwr,Qwr];exact .nil
 |_,_,.cons a b,0=>.cons a b
 |_,_,.cons a b,n+1=>b.drop n
theorem DAs.set{A:Addr->Prop}{H:Hp}{x:V}{d:Qb}(q:DA A H x d):∀{xs:List V}{ds:List Qb},DAs A H xs ds->∀n:Nat,DAs A H (xs.set n x) (ds.set n d)
 |_,_,.nil,n=>.nil
 |_,_,.cons a b,0=>.cons q b
 |_,_,.cons a b,n+1=>.cons a (b.set q n)
mutual
def nd:Qb->Bool
 |.dict _=>false
 |.tuple ds=>nds ds
 |.list ds=>nds ds
 |_=>true
def nds:List Qb->Bool
 |[]=>true
 |d::ds=>nd d&&nds ds
end
mutual
theorem Qmq{A:Addr->Prop}{H:Hp}:∀(d:Qb)(x:V),nd d=true->DA A H x d->Dat H x d
 |.none,_,_,.non=>.non
 |.bool _,_,_,.bl _=>.bl _
 |.int _,_,_,.int _=>.int _
 |.str _,_,_,.str _ c=>.str _ c
 |.tuple ds,_,n,.tup (xs:=xs) _ e q=>.tup e (Qbd ds xs n q)
 |.list ds,_,n,.lst (xs:=xs) _ e q=>.lst e (Qbd ds xs n q)
theorem Qbd{A:Addr->Prop}{H:Hp}:∀(ds:List Qb)(xs:List V),nds ds=true->DAs A H xs ds->Dats H xs ds
 |[],_,_,.nil=>.nil
 |d::ds,_,n,.cons (x:=x) (xs:=xs) q qs=>by
  have n':=QK.mp (show(nd d&&nds ds)=true from n);exact .cons (Qmq d x n'.1 q) (Qbd ds xs n'.2 qs)
end
theorem QlS{ds:List Qb}:nds ds=true↔∀d∈ds,nd d=true:=by
 induction ds with
 |nil=>exact⟨(λ_ _ h=>nomatch h),λ_=>rfl⟩
 |cons d ds ih=>
  rw[show nds (d::ds)=(nd d&&nds ds) from rfl,QK,ih];constructor
  ·rintro⟨a,b⟩ e he;rcases Qy.mp he with z | z
   ·rw[z];exact a
   ·exact b e z
  ·intro h;exact⟨h d (by simp),λe he=>h e (by simp[he])⟩
def DP(A P:Addr->Prop)(H:Hp)(v:V)(d:Qb):Prop:=DA A H v d∨∃l xs ds,v=.ref l/\d=.list ds/\¬P l/\H l=some (.lst xs)/\DAs A H xs ds
theorem DP.dat{A P:Addr->Prop}{H:Hp}{v:V}{d:Qb}(h:DP A P H v d)(n:nd d=true):Dat H v d:=by
 rcases h with h | ⟨l,xs,ds,rfl,rfl,_,e,q⟩
 ·exact Qmq d v n h
 ·exact .lst e (Qbd ds xs n q)
theorem DP.list{A P:Addr->Prop}{H:Hp}{v:V}{ds:List Qb}(h:DP A P H v (.list ds)):∃l xs,v=.ref l/\H l=some (.lst xs)/\DAs A H xs ds:=by
 rcases h with h | ⟨l,xs,ds',rfl,e,_,h2,q⟩
 ·cases h with | lst n e q=>exact⟨_,_,rfl,e,q⟩
 ·cases e;exact⟨l,xs,rfl,h2,q⟩
theorem DP.tuple{A P:Addr->Prop}{H:Hp}{v:V}{ds:List Qb}(h:DP A P H v (.tuple ds)):∃l xs,v=.ref l/\H l=some (.tup xs)/\DAs A H xs ds:=by
 rcases h with h | ⟨l,xs,ds',rfl,e,_⟩
 ·cases h with | tup n e q=>exact⟨_,_,rfl,e,q⟩
 ·cases e
theorem DP.int{A P:Addr->Prop}{H:Hp}{v:V}{i:Int}(h:DP A P H v (.int i)):v=.int i:=by
 rcases h with h | ⟨l,xs,ds',rfl,e,_⟩
 ·cases h;rfl
 ·cases e
theorem DP.bool{A P:Addr->Prop}{H:Hp}{v:V}{i:Bool}(h:DP A P H v (.bool i)):v=.bl i:=by
 rcases h with h | ⟨l,xs,ds',rfl,e,_⟩
 ·cases h;rfl
 ·cases e
theorem DP.none{A P:Addr->Prop}{H:Hp}{v:V}(h:DP A P H v .none):v=.non:=by
 rcases h with h | ⟨l,xs,ds',rfl,e,_⟩
 ·cases h;rfl
 ·cases e
theorem DP.str{A P:Addr->Prop}{H:Hp}{v:V}{x:Str}(h:DP A P H v (.str x)):v=.str x/\Qcm (.str x)=true:=by
 rcases h with h | ⟨l,xs,ds',rfl,e,_⟩
 ·cases h with | str _ c=>exact⟨rfl,c⟩
 ·cases e
inductive Sl where
 |no | pot | scr
 |v (d:Qb)
 |own (ds:List Qb)
 |pk (ds:List Qb)
abbrev Sts:=List Sl
structure Fm where
 H0:Hp
 A0:Addr->Prop
 pt:Addr->Prop
def Qy7(σ:L2.St)(δ:Sts)(i:Nat)(a:Addr):Prop:=σ[i]? = some (some (.ref a))/\(δ[i]? = some .pot∨∃ds,δ[i]? = some (.own ds))
def Av(F:Fm)(σ:L2.St)(δ:Sts)(a:Addr):Prop:=F.A0 a∨∃i,Qy7 σ δ i a
def Qaa(σ:L2.St)(δ:Sts)(a:Addr):Prop:=∃i:Nat,σ[i]? = some (some (.ref a))/\δ[i]? = some .pot
def Qy5(K:PySem.W.Frag)(F:Fm)(H:Hp)(A:Addr->Prop)(o:Option V):Sl->Prop
 |.no=>True
 |.v d=>∃v,o=some v/\DA A H v d
 |.own ds=>∃l xs,o=some (.ref l)/\H l=some (.lst xs)/\DAs A H xs ds/\F.H0 l=none
 |.pk ds=>∃l xs,o=some (.ref l)/\H l=some (.lst xs)/\DAs A H xs ds/\∃ys,F.H0 l=some (.lst ys)/\¬F.pt l
 |.pot=>∃p n,o=some (.ref p)/\H p=some (.lst [.int n])/\(F.pt p∨F.H0 p=none)
 |.scr=>∃a ns,o=some (.ref a)/\SqL K F.H0 a ((ns:List Int).map V.int)/\¬F.pt a/\ns.length<=63
structure Rel (K:PySem.W.Frag) (F:Fm) (σ:L2.St) (H:Hp) (δ:Sts):Prop where
 len:σ.length=δ.length
 dom:∀a,F.A0 a->∃xs,H a=some (.lst xs)
 dom0:∀a,F.A0 a->∃xs,F.H0 a=some (.lst xs)
 pt0:∀p,F.pt p->F.A0 p/\∃n,H p=some (.lst [.int n])
 kx:∀b o,¬F.pt b->F.H0 b=some o->H b=some o
 sl:∀(i:Nat) o x,σ[i]? = some o->δ[i]? = some x->Qy5 K F H (Av F σ δ) o x
 inj:∀(i j:Nat) a ds,δ[i]? = some (.own ds)->σ[i]? = some (some (.ref a))->Qy7 σ δ j a->i=j
def Kp(σ:L2.St)(δ:Sts)(H H':Hp):Prop:=(∀b o,¬Qaa σ δ b->H b=some o->H' b=some o)/\∀b,Qaa σ δ b->∃n,H' b=some (.lst [.int n])
def Stp(F:Fm)(σ:L2.St)(H:Hp)(δ:Sts)(σ':L2.St)(H':Hp)(δ':Sts):Prop:=(∀b o,¬Av F σ δ b->H b=some o->H' b=some o)/\∀b,Av F σ' δ' b->Av F σ δ b∨H b=none
def Ke(F:Fm)(H':Hp):Prop:=(∀b o,¬F.pt b->F.H0 b=some o->H' b=some o)/\∀p,F.pt p->∃n,H' p=some (.lst [.int n])
theorem QaX{F:Fm}{σ:L2.St}{δ:Sts}{a:Addr}(h:Qaa σ δ a):Av F σ δ a:=let ⟨i,h1,h2⟩:=h;.inr ⟨i,h1,.inl h2⟩
theorem Rel.ke{K:PySem.W.Frag}{F:Fm}{σ:L2.St}{H:Hp}{δ:Sts}(r:Rel K F σ H δ):Ke F H:=⟨r.kx,λp hp=>(r.pt0 p hp).2⟩
theorem Rel.isl{K:PySem.W.Frag}{F:Fm}{σ:L2.St}{H:Hp}{δ:Sts}(r:Rel K F σ H δ){a:Addr}(h:Av F σ δ a):∃xs,H a=some (.lst xs):=by
 rcases h with h | ⟨i,h1,h2⟩
 ·exact r.dom a h
 ·rcases h2 with h2 | ⟨ds,h2⟩
  ·obtain⟨p,n,e,h,_⟩:=r.sl i _ _ h1 h2;cases e;exact⟨_,h⟩
  ·obtain⟨l,xs,e,h,_⟩:=r.sl i _ _ h1 h2;cases e;exact⟨_,h⟩
theorem Kp.refl{K:PySem.W.Frag}{F:Fm}{σ:L2.St}{H:Hp}{δ:Sts}(r:Rel K F σ H δ):Kp σ δ H H:=⟨λ_ _ _ e=>e,λb ⟨i,h1,h2⟩=>by
 obtain⟨p,n,e,h,_⟩:=r.sl i _ _ h1 h2;cases e;exact⟨n,h⟩⟩
theorem Kp.trans{σ:L2.St}{δ:Sts}{H H1 H2:Hp}(a:Kp σ δ H H1)(b:Kp σ δ H1 H2):Kp σ δ H H2:=⟨λc o n e=>b.1 c o n (a.1 c o n e),b.2⟩
theorem Kp.same{K:PySem.W.Frag}{F:Fm}{σ:L2.St}{H H':Hp}{δ:Sts}(r:Rel K F σ H δ)(s:Same H H'):Kp σ δ H H':=⟨λb o _ e=>s b o e,λb hb=>let ⟨n,h⟩:=(Kp.refl r).2 b hb;⟨n,s _ _ h⟩⟩
theorem Kp.da{F:Fm}{σ:L2.St}{H H':Hp}{δ:Sts}{v:V}{d:Qb}(k:Kp σ δ H H')(h:DA (Av F σ δ) H v d):DA (Av F σ δ) H' v d:=h.mv (λa o n e=>k.1 a o (λz=>n (QaX z)) e) λa z=>.inl z
theorem Kp.das{F:Fm}{σ:L2.St}{H H':Hp}{δ:Sts}{v:List V}{d:List Qb}(k:Kp σ δ H H')(h:DAs (Av F σ δ) H v d):DAs (Av F σ δ) H' v d:=h.mv (λa o n e=>k.1 a o (λz=>n (QaX z)) e) λa z=>.inl z
theorem Kp.dp{F:Fm}{σ:L2.St}{H H':Hp}{δ:Sts}{v:V}{d:Qb}(k:Kp σ δ H H')(h:DP (Av F σ δ) (Qaa σ δ) H v d):DP (Av F σ δ) (Qaa σ δ) H' v d:=by
 rcases h with h | ⟨l,xs,ds,e1,e2,n,e,q⟩
 ·exact .inl (k.da h)
 ·exact .inr ⟨l,xs,ds,e1,e2,n,k.1 _ _ n e,k.das q⟩
theorem Rel.own_pot{K:PySem.W.Frag}{F:Fm}{σ:L2.St}{H:Hp}{δ:Sts}(r:Rel K F σ H δ){i:Nat}{ds:List Qb}{l:Addr}(h:δ[i]? = some (.own ds))(e:σ[i]? = some (some (.ref l))):¬Qaa σ δ l:=by
 rintro⟨j,h1,h2⟩;have:=r.inj i j l _ h e ⟨h1,.inl h2⟩;subst this;rw[h] at h2;cases h2
theorem Rel.pt_pot{K:PySem.W.Frag}{F:Fm}{σ:L2.St}{H H':Hp}{δ:Sts}(r:Rel K F σ H δ)(k:Kp σ δ H H'){p:Addr}(hp:F.pt p):∃n,H' p=some (.lst [.int n]):=by
 by_cases z:Qaa σ δ p
 ·exact k.2 p z
 ·obtain⟨n,e⟩:=(r.pt0 p hp).2;exact⟨n,k.1 _ _ z e⟩
theorem Rel.kp{K:PySem.W.Frag}{F:Fm}{σ:L2.St}{H H':Hp}{δ:Sts}(r:Rel K F σ H δ)(k:Kp σ δ H H'):Rel K F σ H' δ where
 len:=r.len
 dom:=λa ha=>by
  by_cases z:Qaa σ δ a
  ·exact⟨_,(k.2 a z).choose_spec⟩
  ·obtain⟨xs,e⟩:=r.dom a ha;exact⟨xs,k.1 _ _ z e⟩
 dom0:=r.dom0
 pt0:=λp hp=>⟨(r.pt0 p hp).1,r.pt_pot k hp⟩
 kx:=λb o n e=>by
  by_cases z:Qaa σ δ b
  ·obtain⟨i,h1,h2⟩:=z;obtain⟨p,m,e1,h,q⟩:=r.sl i _ _ h1 h2;cases e1;rcases q with q | q
   ·exact absurd q n
   ·rw[q] at e;cases e
  ·exact k.1 _ _ z (r.kx b o n e)
 sl:=λi o x h1 h2=>by
  have h:=r.sl i o x h1 h2;cases x with
  |no=>trivial
  |v d=>obtain⟨v,e,q⟩:=h;exact⟨v,e,k.da q⟩
  |own ds=>obtain⟨l,xs,rfl,e,q,f⟩:=h;exact⟨l,xs,rfl,k.1 _ _ (r.own_pot h2 h1) e,k.das q,f⟩
  |pk ds=>
   obtain⟨l,xs,rfl,e,q,ys,f,f2⟩:=h;refine⟨l,xs,rfl,k.1 _ _ ?_ e,k.das q,ys,f,f2⟩;rintro⟨j,j1,j2⟩;obtain⟨p,m,e1,_,w⟩:=r.sl j _ _ j1 j2;cases e1;rcases w with w | w
   ·exact f2 w
   ·rw[w] at f;cases f
  |pot=>
   obtain⟨p,n,rfl,e,q⟩:=h;obtain⟨m,e'⟩:=k.2 p ⟨i,h1,h2⟩;exact⟨p,m,rfl,e',q⟩
  |scr=>exact h
 inj:=r.inj
theorem Rel.same{K:PySem.W.Frag}{F:Fm}{σ:L2.St}{H H':Hp}{δ:Sts}(r:Rel K F σ H δ)(s:Same H H'):Rel K F σ H' δ:=r.kp (Kp.same r s)
theorem Stp.refl{F:Fm}{σ:L2.St}{H:Hp}{δ:Sts}:Stp F σ H δ σ H δ:=⟨λ_ _ _ e=>e,λ_ z=>.inl z⟩
theorem Stp.trans{F:Fm}{σ σ1 σ2:L2.St}{H H1 H2:Hp}{δ δ1 δ2:Sts}(a:Stp F σ H δ σ1 H1 δ1)(b:Stp F σ1 H1 δ1 σ2 H2 δ2):Stp F σ H δ σ2 H2 δ2:=by
 refine⟨λc o n e=>?_,λc z=>?_⟩
 ·refine b.1 c o (λz=>?_) (a.1 c o n e);rcases a.2 c z with q | q
  ·exact n q
  ·rw[q] at e;cases e
 ·rcases b.2 c z with q | q
  ·exact a.2 c q
  ·by_cases y:Av F σ δ c
   ·exact .inl y
   ·right
    cases e:H c with
    |none=>rfl
    |some o=>rw[a.1 c o y e] at q;cases q
theorem Stp.kp{F:Fm}{σ:L2.St}{H H':Hp}{δ:Sts}(k:Kp σ δ H H'):Stp F σ H δ σ H' δ:=⟨λb o n e=>k.1 b o (λz=>n (QaX z)) e,λ_ z=>.inl z⟩
theorem Stp.da{F:Fm}{σ σ':L2.St}{H H':Hp}{δ δ':Sts}{v:V}{d:Qb}(k:Stp F σ H δ σ' H' δ')(h:DA (Av F σ δ) H v d):DA (Av F σ' δ') H' v d:=h.mv k.1 k.2
abbrev XP:=Addr->Prop
abbrev DE:=Sts->(Qb->Prop)->XP->Prop
abbrev DT:=Sts->(Bool->Prop)->XP->Prop
abbrev DAr:=Sts->(List Qb->Prop)->XP->Prop
abbrev DSl:=Sts->(List Sl->Prop)->XP->Prop
inductive Md where | D | P | F
def FrV(H H':Hp)(v:V):Prop:=∀l,v=.ref l->(∃xs,H' l=some (.lst xs))->H l=none
def Vok(m:Md)(F:Fm)(σ:L2.St)(δ:Sts)(H H':Hp)(v:V)(d:Qb):Prop:=
 match m with
 |.D=>DA (Av F σ δ) H' v d
 |.P=>DP (Av F σ δ) (Qaa σ δ) H' v d
 |.F=>DA (Av F σ δ) H' v d/\FrV H H' v
def Out(F:Fm)(E:XK)(EX:XP):Prop:=∀C,EX C->∀H',Ke F H'->E (.ref C) none H'
def tX(m:Md)(K:PySem.W.Frag)(E:XK)(w:DE):TE:=λσ H Q=>∃(F:Fm)(δ:Sts)(R:Qb->Prop)(EX:XP),Rel K F σ H δ/\w δ R EX/\(∀d,R d->∀v H',Rel K F σ H' δ->Kp σ δ H H'->Vok m F σ δ H H' v d->Q v H')/\Out F E EX
def tT(K:PySem.W.Frag)(E:XK)(w:DT):TT:=λσ H Q=>∃(F:Fm)(δ:Sts)(R:Bool->Prop)(EX:XP),Rel K F σ H δ/\w δ R EX/\(∀b,R b->∀H',Rel K F σ H' δ->Kp σ δ H H'->Q b H')/\Out F E EX
def VD(m:Md)(A P:Addr->Prop)(H:Hp)(v:V)(d:Qb):Prop:=
 match m with
 |.P=>DP A P H v d
 |_=>DA A H v d
def tAr(n:Nat)(m:Md)(K:PySem.W.Frag)(E:XK)(w:DAr):TA:=λσ H Q=>∃(F:Fm)(δ:Sts)(R:List Qb->Prop)(EX:XP),Rel K F σ H δ/\w δ R EX/\(∀ds,R ds->ds.length=n->∀vs H',Rel K F σ H' δ->Kp σ δ H H'->QaY (VD m (Av F σ δ) (Qaa σ δ) H') vs ds->Q vs H')/\Out F E EX
def Qkg(A pt:Addr->Prop)(H:Hp)(v:V):Sl->Prop
 |.v d=>DA A H v d
 |.pot=>∃p,v=.ref p/\pt p
 |_=>False
def tAs(K:PySem.W.Frag)(E:XK)(w:DSl):TA:=λσ H Q=>∃(F:Fm)(δ:Sts)(R:List Sl->Prop)(EX:XP),Rel K F σ H δ/\w δ R EX/\(∀ds,R ds->∀vs H',Rel K F σ H' δ->Kp σ δ H H'->QaY (Qkg (Av F σ δ) (Qaa σ δ) H') vs ds->Q vs H')/\Out F E EX
theorem Kp.vd{m:Md}{F:Fm}{σ:L2.St}{H H':Hp}{δ:Sts}{v:V}{d:Qb}(k:Kp σ δ H H')(h:VD m (Av F σ δ) (Qaa σ δ) H v d):VD m (Av F σ δ) (Qaa σ δ) H' v d:=by
 cases m
 ·exact k.da h
 ·exact k.dp h
 ·exact k.da h
theorem Kp.arg{F:Fm}{σ:L2.St}{H H':Hp}{δ:Sts}{v:V}{d:Sl}(k:Kp σ δ H H')(h:Qkg (Av F σ δ) (Qaa σ δ) H v d):Qkg (Av F σ δ) (Qaa σ δ) H' v d:=by
 cases d with
 |v d=>exact k.da h
 |pot=>exact h
 |_=>exact h.elim
def Qb9(H:Hp):Prop:=∀a xs,H a=some (.lst xs)∨H a=some (.tup xs)->xs.length<=sizeLine
section
variable{X:Cx}{E:XK}
theorem Inv.lens{pins:List (Addr×Obj)}{σ:L2.St}{H:Hp}{s:Shared}(I:Inv X pins σ H s):Qb9 H:=λa xs h=>by
 rcases h with h | h
 ·exact(I.hok a _ h).1
 ·exact(I.hok a _ h).1
theorem PE.imp{e:Q5}{t t':TE}(h:PE X e t)(i:∀σ H Q,t' σ H Q->t σ H Q):PE X e t':=λpins s σ H Q I q=>h pins s σ H Q I (i σ H Q q)
theorem PT.imp{e:Q5}{t t':TT}(h:PT X e t)(i:∀σ H Q,t' σ H Q->t σ H Q):PT X e t':=λpins s σ H Q I q=>h pins s σ H Q I (i σ H Q q)
theorem PW.imp{e:Q5}{t t':TT}(h:PW X e t)(i:∀σ H Q,t' σ H Q->t σ H Q):PW X e t':=λwh pins s σ H Q I q=>h wh pins s σ H Q I (i σ H Q q)
theorem PA.imp{e:List Q5}{t t':TA}(h:PA X e t)(i:∀σ H Q,t' σ H Q->t σ H Q):PA X e t':=λpos pins s σ H Q I q=>h pos pins s σ H Q I (i σ H Q q)
theorem OpR.len{f:Value->Value->Sem Value}{r:R2}(h:OpR X f r):OpR X f (λx y H Q=>Qb9 H->r x y H Q):=λpins s σ H x y v u Q I rx ry q=>h pins s σ H x y v u Q I rx ry (q (Inv.lens I))
theorem CallR.len{f:Value}{r:List V->Hp->VK->Prop}(h:CallR X f r):CallR X f (λxs H Q=>Qb9 H->r xs H Q):=λpins s σ H xs us Q I rx q=>h pins s σ H xs us Q I rx (q (Inv.lens I))
theorem IxR.len{r:R2}(h:IxR X r):IxR X (λx y H Q=>Qb9 H->r x y H Q):=λa b pins s σ H x y v u Q I rx ry q hs=>h a b pins s σ H x y v u Q I rx ry (q (Inv.lens I)) hs
theorem OpR.or2{f:Value->Value->Sem Value}{r r':R2}(h:OpR X f r)(h':OpR X f r'):OpR X f (λx y H Q=>r x y H Q∨r' x y H Q):=OpR.or h h'
theorem IxR.or2{r r':R2}(h:IxR X r)(h':IxR X r'):IxR X (λx y H Q=>r x y H Q∨r' x y H Q):=λa b pins s σ H x y v u Q I rx ry q hs=>q.elim (λq=>h a b pins s σ H x y v u Q I rx ry q hs) λq=>h' a b pins s σ H x y v u Q I rx ry q hs
theorem SlR.or2{r r':V->Option Int->Option Int->Hp->VK->Prop}(h:SlR X r)(h':SlR X r'):SlR X (λx a b H Q=>r x a b H Q∨r' x a b H Q):=λpins s σ H x v vl vu lo hi sl Q I rx hs pl pu q=>q.elim (h pins s σ H x v vl vu lo hi sl Q I rx hs pl pu) (h' pins s σ H x v vl vu lo hi sl Q I rx hs pl pu)
theorem toD{e:Q5}{w:DE}(h:PE X e (tX .F X.K E w)):PE X e (tX .D X.K E w):=PE.imp h λσ H Q ⟨F,δ,R,EX,r,hw,k,o⟩=>⟨F,δ,R,EX,r,hw,λd hd v H' r' kp vk=>k d hd v H' r' kp vk.1,o⟩
theorem toP{e:Q5}{w:DE}(h:PE X e (tX .D X.K E w)):PE X e (tX .P X.K E w):=PE.imp h λσ H Q ⟨F,δ,R,EX,r,hw,k,o⟩=>⟨F,δ,R,EX,r,hw,λd hd v H' r' kp vk=>k d hd v H' r' kp (.inl vk),o⟩
theorem Qza{e:Q5}{w:DE}(h:PE X e (tX .F X.K E w)):PE X e (tX .P X.K E w):=toP (toD h)
def Qyd(i:Nat):DE:=λδ Q _=>match δ[i]? with
 |some (.v d)=>Q d
 |_=>False
def dPk(i:Nat):DE:=λδ Q _=>match δ[i]? with
 |some (.v d)=>Q d
 |some (.own ds)=>Q (.list ds)
 |some (.pk ds)=>Q (.list ds)
 |_=>False
def dC(d:Qb):DE:=λ_ Q _=>Q d
theorem Rel.lt{K:PySem.W.Frag}{F:Fm}{σ:L2.St}{H:Hp}{δ:Sts}(r:Rel K F σ H δ){i:Nat}{x:Sl}(h:δ[i]? = some x):∃o,σ[i]? = some o:=by
 have:=(QQ.mp h).1;exact⟨σ[i]'(by rw[r.len];exact this),Qk _⟩
theorem QuU{e:Q5}{i:Nat}(h:PE X e (Qix i)):PE X e (tX .D X.K E (Qyd i)):=PE.imp h λσ H Q ⟨F,δ,R,EX,r,hw,k,o⟩=>by
 unfold Qyd at hw;split at hw
 ·rename_i d hd
  obtain⟨x,hx⟩:=r.lt hd;obtain⟨v,rfl,q⟩:=r.sl i _ _ hx hd;exact⟨v,hx,k d hw v H r (Kp.refl r) q⟩
 ·exact hw.elim
theorem QxD{e:Q5}{i:Nat}(h:PE X e (Qix i)):PE X e (tX .P X.K E (dPk i)):=PE.imp h λσ H Q ⟨F,δ,R,EX,r,hw,k,o⟩=>by
 unfold dPk at hw;split at hw
 ·rename_i d hd
  obtain⟨x,hx⟩:=r.lt hd;obtain⟨v,rfl,q⟩:=r.sl i _ _ hx hd;exact⟨v,hx,k d hw v H r (Kp.refl r) (.inl q)⟩
 ·rename_i d hd
  obtain⟨x,hx⟩:=r.lt hd;obtain⟨l,xs,rfl,e,q,_⟩:=r.sl i _ _ hx hd;exact⟨_,hx,k _ hw _ H r (Kp.refl r) (.inr ⟨l,xs,d,rfl,rfl,r.own_pot hd hx,e,q⟩)⟩
 ·rename_i d hd
  obtain⟨x,hx⟩:=r.lt hd;obtain⟨l,xs,rfl,e,q,ys,f,f2⟩:=r.sl i _ _ hx hd;refine⟨_,hx,k _ hw _ H r (Kp.refl r) (.inr ⟨l,xs,d,rfl,rfl,?_,e,q⟩)⟩;rintro⟨j,j1,j2⟩;obtain⟨p,m,e1,_,w⟩:=r.sl j _ _ j1 j2;cases e1;rcases w with w | w
  ·exact f2 w
  ·rw[w] at f;cases f
 ·exact hw.elim
theorem QyI{e:Q5}{v:V}{d:Qb}(h:PE X e (tC v))(q:∀(A:Addr->Prop)(H:Hp),DA A H v d):PE X e (tX .D X.K E (dC d)):=PE.imp h λσ H Q ⟨F,δ,R,EX,r,hw,k,o⟩=>k d hw v H r (Kp.refl r) (q _ _)
theorem Qu0{i:Int}{j pos}:PE X (.Constant (.int i) j pos) (tX .D X.K E (dC (.int i))):=QyI Yv λ_ _=>.int i
theorem QxH{b:Bool}{j pos}:PE X (.Constant (.bool b) j pos) (tX .D X.K E (dC (.bool b))):=QyI QxB λ_ _=>.bl b
def OpD(r:R2)(rD:Qb->Qb->(Qb->Prop)->Prop):Prop:=∀(A P:Addr->Prop)(H:Hp)(x y:V)(d1 d2:Qb)(R:Qb->Prop)(Q:VK),Qb9 H->(∀a,A a->∃xs,H a=some (.lst xs))->DP A P H x d1->DP A P H y d2->rD d1 d2 R ->
 (∀d,R d->∀v H',Same H H'->DA A H' v d->FrV H H' v->Q v H')->r x y H Q
def QoZ(r:R2)(rD:Qb->Qb->(Qb->Prop)->Prop):Prop:=∀(A P:Addr->Prop)(H:Hp)(x y:V)(d1 d2:Qb)(R:Qb->Prop)(Q:VK),Qb9 H->(∀a,A a->∃xs,H a=some (.lst xs))->DP A P H x d1->DP A P H y d2->rD d1 d2 R ->
 (∀d,R d->∀v H',Same H H'->DA A H' v d->Q v H')->r x y H Q
def dOp(rD:Qb->Qb->(Qb->Prop)->Prop)(wa wb:DE):DE:=λδ Q EX=>wa δ (λd1=>wb δ (λd2=>rD d1 d2 Q) EX) EX
theorem QhK{K:PySem.W.Frag}{r:R2}{rD:Qb->Qb->(Qb->Prop)->Prop}{wa wb:DE}(hd:OpD r rD)(σ:L2.St)(H:Hp)(Q:VK)(h:tX .F K E (dOp rD wa wb) σ H Q) :
  tOp (λx y H Q=>Qb9 H->r x y H Q) (tX .P K E wa) (tX .P K E wb) σ H Q:=by
 obtain⟨F,δ,R,EX,rel,hw,k,o⟩:=h;refine⟨F,δ,_,EX,rel,hw,λd1 h1 x H1 rel1 kp1 x1=>⟨F,δ,_,EX,rel1,h1,λd2 h2 y H2 rel2 kp2 y2=>λln=>?_,o⟩,o⟩;refine hd (Av F σ δ) (Qaa σ δ) H2 x y d1 d2 R Q ln (λa ha=>rel2.isl ha) (kp2.dp x1) y2 h2 λd hR v H' s q f=>?_
 refine k d hR v H' (rel2.same s) ((kp1.trans kp2).trans (Kp.same rel2 s)) ⟨q,λl e1 e2=>?_⟩;have f2:=f l e1 e2;cases e:H l with
 |none=>rfl
 |some ob=>
  by_cases z:Qaa σ δ l
  ·obtain⟨n,en⟩:=kp2.2 l z;rw[en] at f2;cases f2
  ·rw[(kp1.trans kp2).1 _ _ z e] at f2;cases f2
theorem Qob{K:PySem.W.Frag}{r:R2}{rD:Qb->Qb->(Qb->Prop)->Prop}{wa wb:DE}(hd:QoZ r rD)(σ:L2.St)(H:Hp)(Q:VK)(h:tX .D K E (dOp rD wa wb) σ H Q) :
  tOp (λx y H Q=>Qb9 H->r x y H Q) (tX .P K E wa) (tX .P K E wb) σ H Q:=by
 obtain⟨F,δ,R,EX,rel,hw,k,o⟩:=h;refine⟨F,δ,_,EX,rel,hw,λd1 h1 x H1 rel1 kp1 x1=>⟨F,δ,_,EX,rel1,h1,λd2 h2 y H2 rel2 kp2 y2=>λln=>?_,o⟩,o⟩;refine hd (Av F σ δ) (Qaa σ δ) H2 x y d1 d2 R Q ln (λa ha=>rel2.isl ha) (kp2.dp x1) y2 h2 λd hR v H' s q=>?_
 exact k d hR v H' (rel2.same s) ((kp1.trans kp2).trans (Kp.same rel2 s)) q
variable{a b:Q5}{wa wb:DE}{pos:Pos}{r:R2}{rD:Qb->Qb->(Qb->Prop)->Prop}
theorem Qu3{op:Qcn}(ho:OpR X (binaryOp op) r)(hd:OpD r rD)(ha:PE X a (tX .P X.K E wa))(hb:PE X b (tX .P X.K E wb)):PE X (.BinOp a op b pos) (tX .F X.K E (dOp rD wa wb)):=PE.imp (Qa8 (OpR.len ho) ha hb) (QhK hd)
theorem Qu2{op:Qp5}(ho:OpR X (compareOp op) r)(hd:OpD r rD)(ha:PE X a (tX .P X.K E wa))(hb:PE X b (tX .P X.K E wb))(hm:behindInMarks op b=false):PE X (.Compare a [op] [b] pos) (tX .F X.K E (dOp rD wa wb)):=PE.imp (Qr0 (OpR.len ho) ha hb hm) (QhK hd)
theorem QxF{r:R2}{rD:Qb->Qb->(Qb->Prop)->Prop}(ho:IxR X r)(hd:QoZ r rD)(ha:PE X a (tX .P X.K E wa))(hb:PE X b (tX .P X.K E wb))(hs:Qin b):PE X (.Subscript a b pos) (tX .D X.K E (dOp rD wa wb)):=PE.imp (Qlr (IxR.len ho) ha hb hs) (Qob hd)
def dTst(w:DE):DT:=λδ Q EX=>w δ (λd=>match d with
 |.bool k=>Q k
 |_=>False) EX
theorem Qr7{op:Qp5}(ho:OpR X (compareOp op) r)(hd:OpD r rD)(ha:PE X a (tX .P X.K E wa))(hb:PE X b (tX .P X.K E wb))(hm:behindInMarks op b=false):PT X (.Compare a [op] [b] pos) (tT X.K E (dTst (dOp rD wa wb))):=by
 refine PT.imp (Qfz (OpR.len ho) ha hb hm) λσ H Q ⟨F,δ,R,EX,rel,hw,k,o⟩=>?_
 refine QhK hd σ H (λx H'=>∃k,x=.bl k/\Q k H') ⟨F,δ,_,EX,rel,hw,λd hd2 v H' rel' kp vk=>?_,o⟩;split at hd2
 ·rename_i b
  have:v=.bl b:=by cases vk.1;rfl
  exact⟨b,this,k b hd2 H' rel' kp⟩
 ·exact hd2.elim
def tru:Qb->Bool
 |.none=>false
 |.bool b=>b
 |.int i=>i != 0
 |.str y=>(y.length:Int) != 0
 |.list ds => !ds.isEmpty
 |.tuple ds => !ds.isEmpty
 |.dict ds => !ds.isEmpty
def strOk:Qb->Prop
 |.str y=>y.length<=sizeLine
 |_=>True
def dTru(w:DE):DT:=λδ Q EX=>w δ (λd=>strOk d/\Q (tru d)) EX
theorem Qt1{K:PySem.W.Frag}{A P:Addr->Prop}{H:Hp}{v:V}{d:Qb}(h:DP A P H v d)(hs:strOk d):Qym K v H (tru d):=by
 have sq:∀{xs:List V}{ds:List Qb},DAs A H xs ds->(!ds.isEmpty) = !xs.isEmpty:=λq=>by cases q<;>rfl
 rcases h with h | ⟨l,xs,ds,rfl,rfl,_,e,q⟩
 ·cases h with
  |non=>rfl
  |bl b=>rfl
  |int i=>rfl
  |str x c=>exact⟨hs,rfl⟩
  |@tup a xs ds n e q=>exact .inr (.inl ⟨xs,SqT.of e,sq q⟩)
  |@lst a xs ds n e q=>exact .inl ⟨xs,SqL.of e,sq q⟩
  |@dct a kvs ds n e q=>subst q;exact .inr (.inr ⟨dkV kvs,e,by cases kvs<;>rfl⟩)
 ·exact .inl ⟨xs,SqL.of e,sq q⟩
theorem Qr5{e:Q5}{w:DE}(h:PE X e (tX .P X.K E w))(he:∀whole,isTrue e X.env whole=(do let v <- whole;standAt e.pos;holding [v] (truthy v))):PT X e (tT X.K E (dTru w)):=by
 refine PT.imp (QnJ h he) λσ H Q ⟨F,δ,R,EX,rel,hw,k,o⟩=>?_
 exact⟨F,δ,_,EX,rel,hw,λd ⟨hs,hq⟩ v H' rel' kp vk=>⟨tru d,Qt1 vk hs,k _ hq H' rel' kp⟩,o⟩
theorem Qr4{e:Q5}{w:DE}(h:PE X e (tX .P X.K E w))(he:∀whole,isTrue e X.env whole=(do let v <- whole;standAt e.pos;holding [v] (truthy v)):=by intro _;rfl):PT X e (tT X.K E (dTst w)):=by
 refine PT.imp (QuI h he) λσ H Q ⟨F,δ,R,EX,rel,hw,k,o⟩=>?_
 refine⟨F,δ,_,EX,rel,hw,λd hd v H' rel' kp vk=>?_,o⟩;split at hd
 ·exact⟨_,DP.bool vk,k _ hd H' rel' kp⟩
 ·exact hd.elim
def Qy2(wa wb:DT):DT:=λδ Q EX=>wa δ (λc=>if c=true then wb δ Q EX else Q false) EX
def dOr(wa wb:DT):DT:=λδ Q EX=>wa δ (λc=>if c=true then Q true else wb δ Q EX) EX
def QyU(wa:DT):DT:=λδ Q EX=>wa δ (λc=>Q (!c)) EX
theorem Qdk{c:Prop}[Decidable c]{p q p' q':Prop}(h:if c then p else q)(h1:p->p')(h2:q->q'):if c then p' else q':=by
 split at h
 ·rw[if_pos (by assumption)];exact h1 h
 ·rw[if_neg (by assumption)];exact h2 h
variable{rest:List Q5}{ta tb:DT}
theorem QnS(ha:PT X a (tT X.K E ta)):PW X (.BoolOp .And [a] pos) (tT X.K E ta):=QrO ha
theorem Qr2(ha:PT X a (tT X.K E ta)):PW X (.BoolOp .Or [a] pos) (tT X.K E ta):=QuG ha
theorem Qr3(ha:PT X a (tT X.K E ta))(hb:PW X (.BoolOp .And (b::rest) pos) (tT X.K E tb)):PW X (.BoolOp .And (a::b::rest) pos) (tT X.K E (Qy2 ta tb)):=by
 refine PW.imp (QuH ha hb) λσ H Q ⟨F,δ,R,EX,rel,hw,k,o⟩=>?_
 refine⟨F,δ,_,EX,rel,hw,λc hc H' rel' kp=>?_,o⟩;exact Qdk hc (λz=>⟨F,δ,R,EX,rel',z,λc hc H2 rel2 kp2=>k c hc H2 rel2 (kp.trans kp2),o⟩) λz=>k _ z H' rel' kp
theorem QuS(ha:PT X a (tT X.K E ta))(hb:PW X (.BoolOp .Or (b::rest) pos) (tT X.K E tb)):PW X (.BoolOp .Or (a::b::rest) pos) (tT X.K E (dOr ta tb)):=by
 refine PW.imp (Qxw ha hb) λσ H Q ⟨F,δ,R,EX,rel,hw,k,o⟩=>?_
 refine⟨F,δ,_,EX,rel,hw,λc hc H' rel' kp=>?_,o⟩;exact Qdk hc (λz=>k _ z H' rel' kp) (λz=>⟨F,δ,R,EX,rel',z,λc hc H2 rel2 kp2=>k c hc H2 rel2 (kp.trans kp2),o⟩)
theorem Qr6(ha:PT X a (tT X.K E ta)):PT X (.UnaryOp .Not a pos) (tT X.K E (QyU ta)):=by
 refine PT.imp (QuJ ha) λσ H Q ⟨F,δ,R,EX,rel,hw,k,o⟩=>?_
 exact⟨F,δ,_,EX,rel,hw,λc hc H' rel' kp=>k _ hc H' rel' kp,o⟩
def Qv5(wa wb:DE):DE:=λδ Q EX=>wa δ (λd=>match d with
 |.bool c=>if c=true then wb δ Q EX else Q (.bool false)
 |_=>False) EX
def QyT(wa wb:DE):DE:=λδ Q EX=>wa δ (λd=>match d with
 |.bool c=>if c=true then Q (.bool true) else wb δ Q EX
 |_=>False) EX
def Qv1(wa:DE):DE:=λδ Q EX=>wa δ (λd=>match d with
 |.bool c=>Q (.bool (!c))
 |_=>False) EX
theorem QuW{op}{w:DE}(h:PE X a (tX .D X.K E w)):PE X (.BoolOp op [a] pos) (tX .D X.K E w):=QuO h
theorem Qu4(ha:PE X a (tX .P X.K E wa))(hb:PE X (.BoolOp .And (b::rest) pos) (tX .D X.K E wb)):PE X (.BoolOp .And (a::b::rest) pos) (tX .D X.K E (Qv5 wa wb)):=by
 refine PE.imp (QuR ha hb) λσ H Q ⟨F,δ,R,EX,rel,hw,k,o⟩=>?_
 refine⟨F,δ,_,EX,rel,hw,λd hd v H' rel' kp vk=>?_,o⟩;split at hd
 ·exact⟨_,DP.bool vk,Qdk hd (λz=>⟨F,δ,R,EX,rel',z,λd hd v H2 rel2 kp2=>k d hd v H2 rel2 (kp.trans kp2),o⟩) λz=>k _ z _ H' rel' kp (.bl _)⟩
 ·exact hd.elim
theorem QxE(ha:PE X a (tX .P X.K E wa))(hb:PE X (.BoolOp .Or (b::rest) pos) (tX .D X.K E wb)):PE X (.BoolOp .Or (a::b::rest) pos) (tX .D X.K E (QyT wa wb)):=by
 refine PE.imp (QxA ha hb) λσ H Q ⟨F,δ,R,EX,rel,hw,k,o⟩=>?_
 refine⟨F,δ,_,EX,rel,hw,λd hd v H' rel' kp vk=>?_,o⟩;split at hd
 ·exact⟨_,DP.bool vk,Qdk hd (λz=>k _ z _ H' rel' kp (.bl _)) (λz=>⟨F,δ,R,EX,rel',z,λd hd v H2 rel2 kp2=>k d hd v H2 rel2 (kp.trans kp2),o⟩)⟩
 ·exact hd.elim
theorem QuX(ha:PE X a (tX .P X.K E wa)):PE X (.UnaryOp .Not a pos) (tX .D X.K E (Qv1 wa)):=by
 refine PE.imp (QuP ha) λσ H Q ⟨F,δ,R,EX,rel,hw,k,o⟩=>?_
 refine⟨F,δ,_,EX,rel,hw,λd hd v H' rel' kp vk=>?_,o⟩;split at hd
 ·exact⟨_,DP.bool vk,k _ hd _ H' rel' kp (.bl _)⟩
 ·exact hd.elim
def QyZ(t:DT)(wa wb:DE):DE:=λδ Q EX=>t δ (λc=>if c=true then wa δ Q EX else wb δ Q EX) EX
theorem Qu1{c:Q5}(hc:PT X c (tT X.K E ta))(ha:PE X a (tX .D X.K E wa))(hb:PE X b (tX .D X.K E wb)):PE X (.IfExp c a b pos) (tX .D X.K E (QyZ ta wa wb)):=by
 refine PE.imp (QnQ hc ha hb) λσ H Q ⟨F,δ,R,EX,rel,hw,k,o⟩=>?_
 refine⟨F,δ,_,EX,rel,hw,λd hd H' rel' kp=>?_,o⟩;exact Qdk hd (λz=>⟨F,δ,R,EX,rel',z,λd hd v H2 rel2 kp2=>k d hd v H2 rel2 (kp.trans kp2),o⟩) (λz=>⟨F,δ,R,EX,rel',z,λd hd v H2 rel2 kp2=>k d hd v H2 rel2 (kp.trans kp2),o⟩)
end
theorem Qd7{A:Addr->Prop}{H H':Hp}{l:Addr}{xs:List V}{ds:List Qb}(dm:∀a,A a->∃xs,H a=some (.lst xs))(s:Same H H')(n:H l=none)(e:H' l=some (.lst xs))(q:DAs A H xs ds):DA A H' (.ref l) (.list ds):=
 .lst (λz=>by obtain⟨ys,e'⟩:=dm l z;rw[n] at e';cases e') e (q.same s)
theorem Qgi{A:Addr->Prop}{H H':Hp}{l:Addr}{xs:List V}{ds:List Qb}(dm:∀a,A a->∃xs,H a=some (.lst xs))(s:Same H H')(e:H' l=some (.tup xs))(q:DAs A H xs ds):DA A H' (.ref l) (.tuple ds):=
 .tup (λz=>by obtain⟨ys,e'⟩:=dm l z;rw[s _ _ e'] at e;cases e) e (q.same s)
theorem Qbb{H H':Hp}{l:Addr}(n:H l=none):FrV H H' (.ref l):=λl' e _=>by cases e;exact n
theorem Qed{H H':Hp}{l:Addr}{xs:List V}(e:H' l=some (.tup xs)):FrV H H' (.ref l):=λl' e1 ⟨ys,e2⟩=>by cases e1;rw[e] at e2;cases e2
theorem Ym{H H':Hp}{i:Int}:FrV H H' (.int i):=λl' e _=>by cases e
theorem Qai{H H':Hp}{i:Bool}:FrV H H' (.bl i):=λl' e _=>by cases e
theorem Qs3{H H':Hp}:FrV H H' .non:=λl' e _=>by cases e
theorem DAs.rep{A:Addr->Prop}{H:Hp}{xs:List V}{ds:List Qb}(q:DAs A H xs ds):∀k:Nat,DAs A H (Jb k xs).flatten (Jb k ds).flatten
 |0=>.nil
 |k+1=>by rw[Ze,Ze,ZX,ZX];exact q.app (DAs.rep q k)
def Qzx:Qb->Qb->(Qb->Prop)->Prop
 |.int i,.int j,Q=>Q (.int (i+j))
 |.tuple a,.tuple b,Q=>a.length+b.length<=1000000/\Q (.tuple (a++b))
 |.list a,.list b,Q=>a.length+b.length<=1000000/\Q (.list (a++b))
 |_,_,_=>False
def iiD(C:Int->Int->Prop)(f:Int->Int->Qb):Qb->Qb->(Qb->Prop)->Prop
 |.int i,.int j,Q=>C i j/\Q (f i j)
 |_,_,_=>False
def ii0(f:Int->Int->Qb):Qb->Qb->(Qb->Prop)->Prop
 |.int i,.int j,Q=>Q (f i j)
 |_,_,_=>False
def Qzp:Qb->Qb->(Qb->Prop)->Prop
 |.int i,.int j,Q=>(CMul i j∨CMulB i j)/\Q (.int (i*j))
 |.list a,.int k,Q=>(k<1000000 /\ -1000000<k/\a.length*k.toNat<=1000000)/\Q (.list (Jb k.toNat a).flatten)
 |_,_,_=>False
theorem Qj1:1000000<=sizeLine:=by show 1000000<=2^24;decide
section
variable{X:Cx}{E:XK}
theorem QhO{C:Int->Int->Prop}{g:Int->Int->Int}:OpD (rI C λi j=>.int (g i j)) (iiD C λi j=>.int (g i j)):=λA P H x y d1 d2 R Q ln dm hx hy h k=>by
 cases d1<;>cases d2<;>first | exact h.elim | skip
 rw[hx.int,hy.int];exact⟨_,_,rfl,rfl,h.1,k _ h.2 _ H (Same.refl H) (.int _) Ym⟩
theorem QgF{g:Int->Int->Int}:OpD (rI0 λi j=>.int (g i j)) (ii0 λi j=>.int (g i j)):=λA P H x y d1 d2 R Q ln dm hx hy h k=>by
 cases d1<;>cases d2<;>first | exact h.elim | skip
 rw[hx.int,hy.int];exact⟨_,_,rfl,rfl,k _ h _ H (Same.refl H) (.int _) Ym⟩
theorem QeS{g:Int->Int->Bool}:OpD (rI0 λi j=>.bl (g i j)) (ii0 λi j=>.bool (g i j)):=λA P H x y d1 d2 R Q ln dm hx hy h k=>by
 cases d1<;>cases d2<;>first | exact h.elim | skip
 rw[hx.int,hy.int];exact⟨_,_,rfl,rfl,k _ h _ H (Same.refl H) (.bl _) Qai⟩
def rAdd:R2:=λx y H Q=>(rI0 (λi j=>.int (i+j)) x y H Q∨Quy x y H Q)∨QyH x y H Q
theorem ZH:OpR X (binaryOp .Add) rAdd:=OpR.or2 (OpR.or2 QeR Qsw) Qvi
theorem Yw:OpD rAdd Qzx:=λA P H x y d1 d2 R Q ln dm hx hy h k=>by
 cases d1<;>cases d2<;>first | exact h.elim | skip
 ·rw[hx.int,hy.int];exact .inl (.inl ⟨_,_,rfl,rfl,k _ h _ H (Same.refl H) (.int _) Ym⟩)
 ·obtain⟨l1,xs,rfl,e1,q1⟩:=hx.list;obtain⟨l2,ys,rfl,e2,q2⟩:=hy.list;refine .inr ⟨l1,l2,xs,ys,rfl,rfl,e1,e2,Jd (by rw[q1.length,q2.length];exact h.1) Qj1,λp hp=>?_⟩;exact k _ h.2 _ _ (JW hp) (Qd7 dm (JW hp) hp JB (q1.app q2)) (Qbb hp)
 ·obtain⟨l1,xs,rfl,e1,q1⟩:=hx.tuple;obtain⟨l2,ys,rfl,e2,q2⟩:=hy.tuple;refine .inl (.inr ⟨l1,l2,xs,ys,rfl,rfl,e1,e2,Jd (by rw[q1.length,q2.length];exact h.1) Qj1,λp H' s e=>?_⟩);exact k _ h.2 _ _ s (Qgi dm s e (q1.app q2)) (Qed e)
def Quv:R2:=λx y H Q=>(rI CMul (λi j=>.int (i*j)) x y H Q∨rI CMulB (λi j=>.int (i*j)) x y H Q)∨Qyy x y H Q
theorem QhL:OpR X (binaryOp .Mult) Quv:=OpR.or2 (OpR.or2 QeQ Qss) Qva
theorem QlQ:OpD Quv Qzp:=λA P H x y d1 d2 R Q ln dm hx hy h k=>by
 cases d1<;>cases d2<;>first | exact h.elim | skip
 ·rw[hx.int,hy.int];rcases h.1 with c | c
  ·exact .inl (.inl ⟨_,_,rfl,rfl,c,k _ h.2 _ H (Same.refl H) (.int _) Ym⟩)
  ·exact .inl (.inr ⟨_,_,rfl,rfl,c,k _ h.2 _ H (Same.refl H) (.int _) Ym⟩)
 ·obtain⟨l1,xs,rfl,e1,q1⟩:=hx.list;rw[hy.int];obtain⟨⟨h1,h2,h3⟩,h4⟩:=h;refine .inr ⟨l1,_,xs,rfl,rfl,e1,by omega,by omega,Jd (by rw[q1.length];exact h3) Qj1,λp hp=>?_⟩;exact k _ h4 _ _ (JW hp) (Qd7 dm (JW hp) hp JB (q1.rep _)) (Qbb hp)
def eqD:Qb->Qb->(Qb->Prop)->Prop
 |.int i,.int j,Q=>Q (.bool (decide (i=j)))
 |.bool i,.bool j,Q=>Q (.bool (decide (i=j)))
 |.str i,.str j,Q=>Q (.bool (decide (i=j)))
 |a,b,Q=>(nd a=true/\nd b=true/\(a.depth<=50∨b.depth<=50))/\Q (.bool (Jj a b))
def neD:Qb->Qb->(Qb->Prop)->Prop
 |.int i,.int j,Q=>Q (.bool (!decide (i=j)))
 |.bool i,.bool j,Q=>Q (.bool (!decide (i=j)))
 |.str i,.str j,Q=>Q (.bool (!decide (i=j)))
 |a,b,Q=>(nd a=true/\nd b=true/\(a.depth<=50∨b.depth<=50))/\Q (.bool (!Jj a b))
theorem Qvq{a b:Qb}(h:a.depth<=50∨b.depth<=50):min a.depth b.depth<=50:=by rcases h with h | h<;>omega
def QyG(u:Nat):R2:=λx y H Q=>rEq x y H Q∨QyF u x y H Q
def QyA(u:Nat):R2:=λx y H Q=>rNe x y H Q∨Qyz u x y H Q
theorem QiO:OpR X (compareOp .Eq) (QyG X.A.units):=OpR.or2 QxM Qvg
theorem QeP:OpR X (compareOp .NotEq) (QyA X.A.units):=OpR.or2 QxK Qvb
theorem QvR{i j:Int}:decide (V.int i=V.int j)=decide (i=j):=by
 by_cases h:i=j
 ·subst h;simp
 ·rw[decide_eq_false h,decide_eq_false (λz=>h (V.int.inj z))]
theorem QvS{i j:Bool}:decide (V.bl i=V.bl j)=decide (i=j):=by
 by_cases h:i=j
 ·subst h;simp
 ·rw[decide_eq_false h,decide_eq_false (λz=>h (V.bl.inj z))]
theorem QvQ{i j:Str}:decide (V.str i=V.str j)=decide (i=j):=by
 by_cases h:i=j
 ·subst h;simp
 ·rw[decide_eq_false h,decide_eq_false (λz=>h (V.str.inj z))]
theorem Qog{u:Nat}(hu:u+60<cLine):OpD (QyG u) eqD:=λA P H x y d1 d2 R Q ln dm hx hy h k=>by
 unfold eqD at h;split at h
 ·rw[hx.int,hy.int];exact .inl ⟨rfl,k (.bool (decide (V.int _=V.int _))) (by rw[QvR];exact h) _ H (Same.refl H) (.bl _) Qai⟩
 ·rw[hx.bool,hy.bool];exact .inl ⟨rfl,k (.bool (decide (V.bl _=V.bl _))) (by rw[QvS];exact h) _ H (Same.refl H) (.bl _) Qai⟩
 ·rw[hx.str.1,hy.str.1];exact .inl ⟨rfl,k (.bool (decide (V.str _=V.str _))) (by rw[QvQ];exact h) _ H (Same.refl H) (.bl _) Qai⟩
 ·obtain⟨⟨n1,n2,dp⟩,hR⟩:=h;have:=Qvq dp;exact .inr ⟨_,_,hx.dat n1,hy.dat n2,by omega,k _ hR _ H (Same.refl H) (.bl _) Qai⟩
theorem QjU{u:Nat}(hu:u+60<cLine):OpD (QyA u) neD:=λA P H x y d1 d2 R Q ln dm hx hy h k=>by
 unfold neD at h;split at h
 ·rw[hx.int,hy.int];exact .inl ⟨rfl,k (.bool (!decide (V.int _=V.int _))) (by rw[QvR];exact h) _ H (Same.refl H) (.bl _) Qai⟩
 ·rw[hx.bool,hy.bool];exact .inl ⟨rfl,k (.bool (!decide (V.bl _=V.bl _))) (by rw[QvS];exact h) _ H (Same.refl H) (.bl _) Qai⟩
 ·rw[hx.str.1,hy.str.1];exact .inl ⟨rfl,k (.bool (!decide (V.str _=V.str _))) (by rw[QvQ];exact h) _ H (Same.refl H) (.bl _) Qai⟩
 ·obtain⟨⟨n1,n2,dp⟩,hR⟩:=h;have:=Qvq dp;exact .inr ⟨_,_,hx.dat n1,hy.dat n2,by omega,k _ hR _ H (Same.refl H) (.bl _) Qai⟩
def QrI(u:Nat)(neg:Bool):R2:=λx y H Q=>∃c ps ds d,y=.ref c/\H c=some (.lst ps)/\Dats H ps ds/\Dat H x d/\u+d.depth<cLine/\Q (.bl (if neg then !(ds.any λe=>Jj e d) else ds.any λe=>Jj e d)) H
theorem Qst:OpR X (compareOp .In) (QrI X.A.in1.units false):=by
 intro pins s σ H x y v u Q I rx ry h;obtain⟨c,ps,ds,d,rfl,hc,qs,qx,hu,q⟩:=h;cases ry;obtain⟨⟨as,ra⟩,ca⟩:=ZZ I.hok d x v qx rx;obtain⟨its,rv,pl,hz⟩:=I.list (SqL.of hc);obtain⟨⟨bs,rb⟩,cb⟩:=YH I.hok ds ps its qs rv;refine SeqAt.in_listAt (eqH s.heap d) pl.isList (λw hw=>Qea ra ca rb cb hu w (QbR.mp hw)) ⟨.bl _,H,I,rfl,?_⟩;rw[show its.toArray.any (eqH s.heap d)=its.any (eqH s.heap d) by simp,Qem rb cb];exact q
theorem QjP:OpR X (compareOp .NotIn) (QrI X.A.in1.units true):=by
 intro pins s σ H x y v u Q I rx ry h;obtain⟨c,ps,ds,d,rfl,hc,qs,qx,hu,q⟩:=h;cases ry;obtain⟨⟨as,ra⟩,ca⟩:=ZZ I.hok d x v qx rx;obtain⟨its,rv,pl,hz⟩:=I.list (SqL.of hc);obtain⟨⟨bs,rb⟩,cb⟩:=YH I.hok ds ps its qs rv;refine Qm1 (eqH s.heap d) pl.isList (λw hw=>Qea ra ca rb cb hu w (QbR.mp hw)) ⟨.bl _,H,I,rfl,?_⟩;rw[show its.toArray.any (eqH s.heap d)=its.any (eqH s.heap d) by simp,Qem rb cb];exact q
def inD(neg:Bool)(d:Qb):Qb->(Qb->Prop)->Prop
 |.list ds,Q=>(nds ds=true/\nd d=true/\d.depth<=50)/\Q (.bool (if neg then !(ds.any λe=>Jj e d) else ds.any λe=>Jj e d))
 |.tuple ds,Q=>(nds ds=true/\nd d=true/\d.depth<=50)/\Q (.bool (if neg then !(ds.any λe=>Jj e d) else ds.any λe=>Jj e d))
 |_,_=>False
def Qxt(u:Nat)(neg:Bool):R2:=λx y H Q=>Qxs u neg x y H Q∨QrI u neg x y H Q
theorem QlC:OpR X (compareOp .In) (Qxt X.A.in1.units false):=OpR.or2 Qve Qst
theorem QgC:OpR X (compareOp .NotIn) (Qxt X.A.in1.units true):=OpR.or2 QlA QjP
theorem QlR{u:Nat}{neg:Bool}(hu:u+60<cLine):OpD (Qxt u neg) (inD neg):=λA P H x y d1 d2 R Q ln dm hx hy h k=>by
 cases d2<;>first | exact h.elim | skip
 ·obtain⟨l,xs,rfl,e,q⟩:=hy.list;obtain⟨⟨n1,n2,n3⟩,hR⟩:=h;exact .inr ⟨l,xs,_,d1,rfl,e,Qbd _ _ n1 q,hx.dat n2,by omega,k _ hR _ H (Same.refl H) (.bl _) Qai⟩
 ·obtain⟨l,xs,rfl,e,q⟩:=hy.tuple;obtain⟨⟨n1,n2,n3⟩,hR⟩:=h;exact .inl ⟨l,xs,_,d1,rfl,e,Qbd _ _ n1 q,hx.dat n2,by omega,k _ hR _ H (Same.refl H) (.bl _) Qai⟩
def ixD:Qb->Qb->(Qb->Prop)->Prop
 |.list ds,.int i,Q=>∃d,atI ds i=some d/\Q d
 |.tuple ds,.int i,Q=>∃d,atI ds i=some d/\Q d
 |_,_,_=>False
theorem QpS{A:Addr->Prop}{H:Hp}{xs:List V}{ds:List Qb}{i:Int}{d:Qb}(q:DAs A H xs ds)(h:atI ds i=some d):∃v,atI xs i=some v/\DA A H v d:=by
 unfold atI at h ⊢;rw[q.length];cases e:ixN ds.length i with
 |none=>rw[e] at h;cases h
 |some j=>
  rw[e] at h;exact q.get j d h
def QyD(K:PySem.W.Frag):R2:=λx y H Q=>Qwu K x y H Q∨QyC K x y H Q
theorem Jy:IxR X (QyD X.K):=IxR.or2 QfJ QpC
theorem J9{K:PySem.W.Frag}:QoZ (QyD K) ixD:=λA P H x y d1 d2 R Q ln dm hx hy h k=>by
 cases d1<;>cases d2<;>first | exact h.elim | skip
 ·obtain⟨l,xs,rfl,e,q⟩:=hx.list;obtain⟨d,hd,hR⟩:=h;obtain⟨v,hv,dv⟩:=QpS q hd;rw[hy.int];exact .inl ⟨l,xs,_,v,rfl,rfl,SqL.of e,hv,k d hR v H (Same.refl H) dv⟩
 ·obtain⟨l,xs,rfl,e,q⟩:=hx.tuple;obtain⟨d,hd,hR⟩:=h;obtain⟨v,hv,dv⟩:=QpS q hd;rw[hy.int];exact .inr ⟨l,xs,_,v,rfl,rfl,SqT.of e,hv,k d hR v H (Same.refl H) dv⟩
def dUn(rD:Qb->(Qb->Prop)->Prop)(wa:DE):DE:=λδ Q EX=>wa δ (λd=>rD d Q) EX
def QyJ:Qb->(Qb->Prop)->Prop
 |.int i,Q=>Q (.int (-i))
 |_,_=>False
variable{a b c:Q5}{wa wb wc:DE}{pos:Pos}
theorem QuY(ha:PE X a (tX .P X.K E wa)):PE X (.UnaryOp .USub a pos) (tX .F X.K E (dUn QyJ wa)):=by
 refine PE.imp (Qxz QtX ha) λσ H Q ⟨F,δ,R,EX,rel,hw,k,o⟩=>?_
 refine⟨F,δ,_,EX,rel,hw,λd hd v H' rel' kp vk=>?_,o⟩;cases d<;>first | exact(show False from hd).elim | skip
 exact⟨_,DP.int vk,k _ hd _ H' rel' kp ⟨.int _,Ym⟩⟩
def dCh(p q:Int->Int->Bool)(wa wb wc:DE):DE:=λδ Q EX=>wa δ (λx=>wb δ (λy=>match x,y with
 |.int i,.int j=>if p i j=true then wc δ (λz=>match z with
  |.int k=>Q (.bool (q j k))
  |_=>False) EX else Q (.bool false)
 |_,_=>False) EX) EX
theorem Qtm{K:PySem.W.Frag}{p q:Int->Int->Bool}(σ:L2.St)(H:Hp)(Q:VK)(h:tX .F K E (dCh p q wa wb wc) σ H Q) :
  Qpc (rI0 λi j=>.bl (p i j)) (rI0 λi j=>.bl (q i j)) (tX .P K E wa) (tX .P K E wb) (tX .P K E wc) σ H Q:=by
 obtain⟨F,δ,R,EX,rel,hw,k,o⟩:=h;refine⟨F,δ,_,EX,rel,hw,λd1 h1 x H1 rel1 kp1 x1=>⟨F,δ,_,EX,rel1,h1,λd2 h2 y H2 rel2 kp2 y2=>?_,o⟩,o⟩;cases d1<;>cases d2<;>first | exact(show False from h2).elim | skip
 rw[DP.int x1,DP.int y2];refine⟨_,_,rfl,rfl,_,rfl,Qdk h2 (λz=>⟨F,δ,_,EX,rel2,z,λd3 h3 v H3 rel3 kp3 v3=>?_,o⟩) λz=>k _ z _ H2 rel2 (kp1.trans kp2) ⟨.bl _,Qai⟩⟩;cases d3<;>first | exact(show False from h3).elim | skip
 rw[DP.int v3];exact⟨_,_,rfl,rfl,k _ h3 _ H3 rel3 ((kp1.trans kp2).trans kp3) ⟨.bl _,Qai⟩⟩
theorem QxG{op op':Qp5}{p q:Int->Int->Bool}(ho:OpR X (compareOp op) (rI0 λi j=>.bl (p i j)))(ho':OpR X (compareOp op') (rI0 λi j=>.bl (q i j)))(ha:PE X a (tX .P X.K E wa))(hb:PE X b (tX .P X.K E wb))(hc:PE X c (tX .P X.K E wc))(hm:lastMarks [op,op'] [b,c]=false:=by with_unfolding_all rfl) :
  PE X (.Compare a [op,op'] [b,c] pos) (tX .F X.K E (dCh p q wa wb wc)):=PE.imp (QnR ho ho' ha hb hc (hm:=hm)) Qtm
def QyV:DAr:=λ_ Q _=>Q []
def Qmt(we:DE)(wr:DAr):DAr:=λδ Q EX=>we δ (λd=>wr δ (λds=>Q (d::ds)) EX) EX
theorem Qsk{m:Md}:PA X [] (tAr 0 m X.K E QyV):=PA.imp Z5 λσ H Q ⟨F,δ,R,EX,rel,hw,k,o⟩=>k [] hw rfl [] H rel (Kp.refl rel) .nil
theorem QmR{n:Nat}{m:Md}{K:PySem.W.Frag}{we:DE}{wr:DAr}(hm:∀{F:Fm}{σ:L2.St}{δ:Sts}{H H':Hp}{v:V}{d:Qb},Vok m F σ δ H H' v d->VD m (Av F σ δ) (Qaa σ δ) H' v d)(σ:L2.St)(H:Hp)(Q:List V->Hp->Prop)(h:tAr (n+1) m K E (Qmt we wr) σ H Q):Qgk (tX m K E we) (tAr n m K E wr) σ H Q:=by
 obtain⟨F,δ,R,EX,rel,hw,k,o⟩:=h;refine⟨F,δ,_,EX,rel,hw,λd hd v H' rel' kp vk=>⟨F,δ,_,EX,rel',hd,λds hds hl vs H2 rel2 kp2 vks=>?_,o⟩,o⟩;exact k _ hds (by rw[QL,hl]) (v::vs) H2 rel2 (kp.trans kp2) (.cons (kp2.vd (hm vk)) vks)
theorem Qlw{n:Nat}{e:Q5}{es:List Q5}{we:DE}{wr:DAr}(he:PE X e (tX .D X.K E we))(hr:PA X es (tAr n .D X.K E wr))(hs:notStar e=true:=by rfl):PA X (e::es) (tAr (n+1) .D X.K E (Qmt we wr)):=PA.imp (Qd3 he hr hs) (QmR λh=>h)
theorem Qlv{n:Nat}{e:Q5}{es:List Q5}{we:DE}{wr:DAr}(he:PE X e (tX .P X.K E we))(hr:PA X es (tAr n .P X.K E wr))(hs:notStar e=true:=by rfl):PA X (e::es) (tAr (n+1) .P X.K E (Qmt we wr)):=PA.imp (Qd3 he hr hs) (QmR λh=>h)
theorem Qc0{A P:Addr->Prop}{H:Hp}:∀{vs:List V}{ds:List Qb},QaY (VD .D A P H) vs ds->DAs A H vs ds
 |_,_,.nil=>.nil
 |_,_,.cons a b=>.cons a (Qc0 b)
def QyP(w:DAr):DE:=λδ Q EX=>w δ (λds=>Q (.tuple ds)) EX
def QyW(w:DAr):DE:=λδ Q EX=>w δ (λds=>Q (.list ds)) EX
theorem QuV{n:Nat}{es:List Q5}{w:DAr}{x1}(h:PA X es (tAr n .D X.K E w))(hn:n<=1000:=by decide):PE X (.Tuple es x1 pos) (tX .F X.K E (QyP w)):=by
 refine PE.imp (Qlq h) λσ H Q ⟨F,δ,R,EX,rel,hw,k,o⟩=>?_
 refine⟨F,δ,_,EX,rel,hw,λds hds hl vs H' rel' kp q=>?_,o⟩;have q':=Qc0 q;refine⟨by rw[q'.length,hl];exact hn,λa H2 s n e=>k _ hds _ H2 (rel'.same s) (kp.trans (Kp.same rel' s)) ⟨Qgi (λa ha=>rel'.isl ha) s e q',Qed e⟩⟩
theorem Qc6{σ:L2.St}{δ:Sts}{H H':Hp}{l:Addr}(k:Kp σ δ H H')(n:H' l=none):H l=none:=by
 cases e:H l with
 |none=>rfl
 |some ob=>
  by_cases z:Qaa σ δ l
  ·obtain⟨m,em⟩:=k.2 l z;rw[em] at n;cases n
  ·rw[k.1 _ _ z e] at n;cases n
theorem QuZ{n:Nat}{es:List Q5}{w:DAr}(h:PA X es (tAr n .D X.K E w))(hn:n<=1000:=by decide):PE X (.List es pos) (tX .F X.K E (QyW w)):=by
 refine PE.imp (QrZ h) λσ H Q ⟨F,δ,R,EX,rel,hw,k,o⟩=>?_
 refine⟨F,δ,_,EX,rel,hw,λds hds hl vs H' rel' kp q=>?_,o⟩;have q':=Qc0 q;refine⟨by rw[q'.length,hl];exact hn,λa H2 s n e=>k _ hds _ H2 (rel'.same s) (kp.trans (Kp.same rel' s)) ⟨Qd7 (λa ha=>rel'.isl ha) s n e q',Qbb (Qc6 kp n)⟩⟩
def Qca(r:List V->Hp->VK->Prop)(rD:List Qb->(Qb->Prop)->Prop):Prop:=∀(A P:Addr->Prop)(H:Hp)(vs:List V)(ds:List Qb)(R:Qb->Prop)(Q:VK),Qb9 H->(∀a,A a->∃xs,H a=some (.lst xs))->QaY (DP A P H) vs ds->rD ds R ->
 (∀d,R d->∀v H',Same H H'->DA A H' v d->FrV H H' v->Q v H')->r vs H Q
def dCB(rD:List Qb->(Qb->Prop)->Prop)(wa:DAr):DE:=λδ Q EX=>wa δ (λds=>rD ds Q) EX
theorem QmD{n:Nat}{K:PySem.W.Frag}{r:List V->Hp->VK->Prop}{rD:List Qb->(Qb->Prop)->Prop}{wa:DAr}(hd:Qca r rD)(σ:L2.St)(H:Hp)(Q:VK)(h:tX .F K E (dCB rD wa) σ H Q) :
  tCB (λxs H Q=>Qb9 H->r xs H Q) (tAr n .P K E wa) σ H Q:=by
 obtain⟨F,δ,R,EX,rel,hw,k,o⟩:=h;refine⟨F,δ,_,EX,rel,hw,λds hds hl vs H' rel' kp q ln=>?_,o⟩;refine hd (Av F σ δ) (Qaa σ δ) H' vs ds R Q ln (λa ha=>rel'.isl ha) q hds λd hR v H2 s dv fr=>?_
 exact k d hR v H2 (rel'.same s) (kp.trans (Kp.same rel' s)) ⟨dv,λl e1 e2=>Qc6 kp (fr l e1 e2)⟩
variable{x:Str}{bid T:String}{p:Pos}{e:Q5}{es:List Q5}{n:Nat}{wr:DAr}{r:List V->Hp->VK->Prop}{rD:List Qb->(Qb->Prop)->Prop}
theorem Qoa(hc:CallR X (.builtin bid) r)(hd:Qca r rD)(hg:Gl X x)(hm:X.mg x=none)(hv:bootBuiltins x=some (.builtin bid))(ha:PA X (e::es) (tAr n .P X.K E wr))(hn:x ≠ "__name__" := by decide)(hdb:(x == ("__debug__" : Str))=false:=by decide)
  (he:starEach (e::es) X.env=(false,eval e X.env)::starEach es X.env:=by rfl)(hpl:(backTo pos (starEach es X.env)).any (·.1)=false:=by rfl):PE X (.Call (.Name x p) (e::es) [] pos) (tX .F X.K E (dCB rD wr)):=
 PE.imp (Qa9 (CallR.len hc) hg hm hv ha hn hdb he hpl) (QmD hd)
theorem Qly(hc:CallR X (.type T) r)(hd:Qca r rD)(hg:Gl X x)(hm:X.mg x=none)(hv:bootBuiltins x=some (.type T))(ha:PA X (e::es) (tAr n .P X.K E wr))(hn:x ≠ "__name__" := by decide)(hdb:(x == ("__debug__" : Str))=false:=by decide)
  (he:starEach (e::es) X.env=(false,eval e X.env)::starEach es X.env:=by rfl)(hpl:(backTo pos (starEach es X.env)).any (·.1)=false:=by rfl):PE X (.Call (.Name x p) (e::es) [] pos) (tX .F X.K E (dCB rD wr)):=
 PE.imp (Qcy (CallR.len hc) hg hm hv ha hn hdb he hpl) (QmD hd)
theorem pd1{A P:Addr->Prop}{H:Hp}{vs:List V}{d:Qb}(q:QaY (DP A P H) vs [d]):∃v,vs=[v]/\DP A P H v d:=by
 cases q with
 |cons a b=>cases b;exact⟨_,rfl,a⟩
theorem pd2{A P:Addr->Prop}{H:Hp}{vs:List V}{d d':Qb}(q:QaY (DP A P H) vs [d,d']):∃v v',vs=[v,v']/\DP A P H v d/\DP A P H v' d':=by
 cases q with
 |cons a b=>cases b with | cons b c=>cases c;exact⟨_,_,rfl,a,b⟩
def QyL:List Qb->(Qb->Prop)->Prop
 |[.list ds],Q=>Q (.int ds.length)
 |[.tuple ds],Q=>Q (.int ds.length)
 |_,_=>False
theorem QaA{K:PySem.W.Frag}:Qca (Qux K) QyL:=λA P H vs ds R Q ln dm q h k=>by
 unfold QyL at h;split at h
 ·obtain⟨v,rfl,hv⟩:=pd1 q;obtain⟨l,xs,rfl,e,qq⟩:=hv.list;exact⟨l,xs,rfl,.inl (SqL.of e),by rw[qq.length];exact k _ h _ H (Same.refl H) (.int _) Ym⟩
 ·obtain⟨v,rfl,hv⟩:=pd1 q;obtain⟨l,xs,rfl,e,qq⟩:=hv.tuple;exact⟨l,xs,rfl,.inr (SqT.of e),by rw[qq.length];exact k _ h _ H (Same.refl H) (.int _) Ym⟩
 ·exact h.elim
theorem Zy:CallR X (.builtin "len") (Qux X.K):=QbD
def QsN:List Qb->(Qb->Prop)->Prop
 |[.int i,.int j],Q=>Q (.int (if j<i then j else i))
 |_,_=>False
def Qvr:List Qb->(Qb->Prop)->Prop
 |[.int i,.int j],Q=>Q (.int (if j > i then j else i))
 |_,_=>False
theorem QmC:Qca (λxs H Q=>∃i j,xs=[.int i,.int j]/\Q (.int (if j<i then j else i)) H) QsN:=λA P H vs ds R Q ln dm q h k=>by
 unfold QsN at h;split at h
 ·obtain⟨v,v',rfl,h1,h2⟩:=pd2 q;rw[h1.int,h2.int];exact⟨_,_,rfl,k _ h _ H (Same.refl H) (.int _) Ym⟩
 ·exact h.elim
theorem Qto:Qca (λxs H Q=>∃i j,xs=[.int i,.int j]/\Q (.int (if j > i then j else i)) H) Qvr:=λA P H vs ds R Q ln dm q h k=>by
 unfold Qvr at h;split at h
 ·obtain⟨v,v',rfl,h1,h2⟩:=pd2 q;rw[h1.int,h2.int];exact⟨_,_,rfl,k _ h _ H (Same.refl H) (.int _) Ym⟩
 ·exact h.elim
def QbE:List Qb->Option (List Bool)
 |[]=>some []
 |.bool b::ds=>(QbE ds).map (b::·)
 |_::_=>none
def QbY:List Qb->Option (List Int)
 |[]=>some []
 |.int b::ds=>(QbY ds).map (b::·)
 |_::_=>none
theorem QmL(bs:List Bool):QbE (bs.map Qbp)=some bs:=by
 induction bs with
 |nil=>rfl
 |cons b bs ih=>rw[Jh,QbE,ih];rfl
theorem ints_map(bs:List Int):QbY (bs.map Qe)=some bs:=by
 induction bs with
 |nil=>rfl
 |cons b bs ih=>rw[Jh,QbY,ih];rfl
theorem bools_eq:∀{ds:List Qb}{bs:List Bool},QbE ds=some bs->ds=bs.map Qbp
 |[],bs,h=>by cases h;rfl
 |d::ds,bs,h=>by
  cases d<;>first | (unfold QbE at h;cases h;done) | skip
  rw[QbE] at h;obtain⟨cs,h1,rfl⟩:=J7.mp h;rw[bools_eq h1];rfl
theorem QfK:∀{ds:List Qb}{bs:List Int},QbY ds=some bs->ds=bs.map Qe
 |[],bs,h=>by cases h;rfl
 |d::ds,bs,h=>by
  cases d<;>first | (unfold QbY at h;cases h;done) | skip
  rw[QbY] at h;obtain⟨cs,h1,rfl⟩:=J7.mp h;rw[QfK h1];rfl
theorem QgS{A:Addr->Prop}{H:Hp}:∀{bs:List Bool}{xs:List V},DAs A H xs (bs.map Qbp)->xs=bs.map V.bl
 |[],_,.nil=>rfl
 |b::bs,_,.cons (.bl _) r=>by rw[QgS r];rfl
theorem Qbc{A:Addr->Prop}{H:Hp}:∀{bs:List Int}{xs:List V},DAs A H xs (bs.map Qe)->xs=bs.map V.int
 |[],_,.nil=>rfl
 |b::bs,_,.cons (.int _) r=>by rw[Qbc r];rfl
@[irreducible] def QwA:List Qb->(Qb->Prop)->Prop
 |[.list ds],Q=>∃bs,QbE ds=some bs/\Q (.bool (bs.all id))
 |_,_=>False
theorem QgY{K:PySem.W.Frag}{cm:Bool}(hc:cm=true):Qca (λxs H Q=>∃(p:Addr)(bs:List Bool),xs=[.ref p]/\SqL K H p (bs.map V.bl)/\cm=true/\Q (.bl (bs.all id)) H) QwA:=λA P H vs ds R Q ln dm q h k=>by
 unfold QwA at h;split at h
 ·obtain⟨v,rfl,hv⟩:=pd1 q;obtain⟨bs,hb,hR⟩:=h;rw[bools_eq hb] at hv;obtain⟨l,xs,rfl,e,qq⟩:=hv.list;rw[QgS qq] at e;exact⟨l,bs,rfl,SqL.of e,hc,k _ hR _ H (Same.refl H) (.bl _) Qai⟩
 ·exact h.elim
@[irreducible] def Qwt:List Qb->(Qb->Prop)->Prop
 |[.list ds],Q=>∃ns,QbY ds=some ns/\Q (.int ns.sum)
 |_,_=>False
theorem Qv8{K:PySem.W.Frag}:Qca (Quq K) Qwt:=λA P H vs ds R Q ln dm q h k=>by
 unfold Qwt at h;split at h
 ·obtain⟨v,rfl,hv⟩:=pd1 q;obtain⟨bs,hb,hR⟩:=h;rw[QfK hb] at hv;obtain⟨l,xs,rfl,e,qq⟩:=hv.list;rw[Qbc qq] at e;exact⟨l,bs,rfl,SqL.of e,k _ hR _ H (Same.refl H) (.int _) Ym⟩
 ·exact h.elim
def Qpa:List Qb->(Qb->Prop)->Prop
 |[.list ds],Q=>Q (.tuple ds)
 |[.tuple ds],Q=>Q (.tuple ds)
 |_,_=>False
def Qvu:List Qb->(Qb->Prop)->Prop
 |[.list ds],Q=>Q (.list ds)
 |[.tuple ds],Q=>Q (.list ds)
 |_,_=>False
theorem QfW{K:PySem.W.Frag}:Qca (Qk8 K) Qpa:=λA P H vs ds R Q ln dm q h k=>by
 unfold Qpa at h;split at h
 ·obtain⟨v,rfl,hv⟩:=pd1 q;obtain⟨l,xs,rfl,e,qq⟩:=hv.list;exact⟨l,xs,rfl,.inl ⟨SqL.of e,λl' H' s n e'=>k _ h _ H' s (Qgi dm s e' qq) (Qed e')⟩⟩
 ·obtain⟨v,rfl,hv⟩:=pd1 q;obtain⟨l,xs,rfl,e,qq⟩:=hv.tuple;exact⟨l,xs,rfl,.inr ⟨SqT.of e,k _ h _ H (Same.refl H) (Qgi dm (Same.refl H) e qq) (Qed e)⟩⟩
 ·exact h.elim
theorem Qtp{K:PySem.W.Frag}:Qca (Qla K) Qvu:=λA P H vs ds R Q ln dm q h k=>by
 unfold Qvu at h;split at h
 ·obtain⟨v,rfl,hv⟩:=pd1 q;obtain⟨l,xs,rfl,e,qq⟩:=hv.list;exact⟨l,xs,rfl,.inl (SqL.of e),λl' H' s n e'=>k _ h _ H' s (Qd7 dm s n e' qq) (Qbb n)⟩
 ·obtain⟨v,rfl,hv⟩:=pd1 q;obtain⟨l,xs,rfl,e,qq⟩:=hv.tuple;exact⟨l,xs,rfl,.inr (SqT.of e),λl' H' s n e'=>k _ h _ H' s (Qd7 dm s n e' qq) (Qbb n)⟩
 ·exact h.elim
end
section
variable{X:Cx}{E:XK}
inductive Tn where | int | bool | str | tuple | list
def Tn.s:Tn->String
 |.int => "int"
 |.bool => "bool"
 |.str => "str"
 |.tuple => "tuple"
 |.list => "list"
def isT:Tn->Qb->Bool
 |.int,.int _=>true
 |.int,.bool _=>true
 |.bool,.bool _=>true
 |.str,.str _=>true
 |.tuple,.tuple _=>true
 |.list,.list _=>true
 |_,_=>false
theorem QsY{K:PySem.W.Frag}{A P:Addr->Prop}{H:Hp}{v:V}{d:Qb}(tn:Tn)(h:DP A P H v d):∃t,TyOf K H v t/\PySem.W.kitOne K t (.type tn.s)=some (isT tn d):=by
 rcases h with h | ⟨l,xs,ds,rfl,rfl,_,e,q⟩
 ·cases h with
  |non=>exact⟨_,.non,by cases tn<;>rfl⟩
  |bl b=>exact⟨_,.bl _,by cases tn<;>rfl⟩
  |int i=>exact⟨_,.int _,by cases tn<;>rfl⟩
  |str x c=>exact⟨_,.str _,by cases tn<;>rfl⟩
  |tup n e q=>exact⟨_,.tup e,by cases tn<;>rfl⟩
  |lst n e q=>exact⟨_,.lst e,by cases tn<;>rfl⟩
  |dct n e q=>exact⟨_,.dK e,by cases tn<;>rfl⟩
 ·exact⟨_,.lst e,by cases tn<;>rfl⟩
def Qv3(tn:Tn)(we:DE):DE:=λδ Q EX=>we δ (λd=>Q (.bool (isT tn d))) EX
theorem Qsn{e f:Q5}{we:DE}{p pos:Pos}(tn:Tn)(hg:Gl X "isinstance")(hm:X.mg "isinstance" = none)(he:PE X e (tX .P X.K E we))(hf:PE X f (tC (.ty tn.s)))(h1:notStar e=true:=by rfl)(h2:notStar f=true:=by rfl) :
  PE X (.Call (.Name "isinstance" p) [e,f] [] pos) (tX .F X.K E (Qv3 tn we)):=by
 refine PE.imp (Qa9 Qig hg hm QfZ (Qd3 he (Qd3 hf Z5 h2) h1) (he:=YB h1) (hpl:=by rw[YB h2];rfl)) λσ H Q ⟨F,δ,R,EX,rel,hw,k,o⟩=>?_
 refine⟨F,δ,_,EX,rel,hw,λd hd v H' rel' kp vk=>?_,o⟩;obtain⟨t,ty,et⟩:=QsY (K:=X.K) tn vk;exact⟨v,t,tn.s,_,rfl,ty,et,k _ hd _ H' rel' kp ⟨.bl _,Qai⟩⟩
theorem QxI{x:Str}{pos:Pos}(tn:Tn)(hg:Gl X x)(hm:X.mg x=none)(hv:bootBuiltins x=some (.type tn.s))(hn:x ≠ "__name__" := by decide)(hd:(x == ("__debug__" : Str))=false:=by decide):PE X (.Name x pos) (tC (.ty tn.s)):=Qr1 (v:=.ty tn.s) hg hm hv rfl hn hd
abbrev DO:=Sts->(Option Int->Prop)->XP->Prop
def tO(K:PySem.W.Frag)(E:XK)(w:DO):TO:=λσ H Q=>∃(F:Fm)(δ:Sts)(R:Option Int->Prop)(EX:XP),Rel K F σ H δ/\w δ R EX/\(∀d,R d->∀H',Rel K F σ H' δ->Kp σ δ H H'->Q d H')/\Out F E EX
def dNo:DO:=λ_ Q _=>Q none
def dSo(we:DE):DO:=λδ Q EX=>we δ (λd=>match d with
 |.int i=>Q (some i)
 |_=>False) EX
theorem PO.imp{e:Option Q5}{t t':TO}(h:PO X e t)(i:∀σ H Q,t' σ H Q->t σ H Q):PO X e t':=λpins s σ H Q I q=>h pins s σ H Q I (i σ H Q q)
theorem Qn4:PO X none (tO X.K E dNo):=PO.imp QrU λσ H Q ⟨F,δ,R,EX,rel,hw,k,o⟩=>k _ hw H rel (Kp.refl rel)
theorem Qn3{e:Q5}{we:DE}(he:PE X e (tX .P X.K E we)):PO X (some e) (tO X.K E (dSo we)):=by
 refine PO.imp (QrT he) λσ H Q ⟨F,δ,R,EX,rel,hw,k,o⟩=>?_
 refine⟨F,δ,_,EX,rel,hw,λd hd v H' rel' kp vk=>?_,o⟩;cases d<;>first | exact(show False from hd).elim | skip
 exact⟨_,DP.int vk,k _ hd H' rel' kp⟩
def cutD(xs:List Qb)(lo hi:Option Int):List Qb:=(xs.drop (HT.sIx xs.length 0 lo)).take (HT.sIx xs.length xs.length hi - HT.sIx xs.length 0 lo)
theorem Qmv{A:Addr->Prop}{H:Hp}{xs:List V}{ds:List Qb}(q:DAs A H xs ds)(lo hi:Option Int):DAs A H (Qje xs lo hi) (cutD ds lo hi):=by
 unfold Qje cutD;rw[q.length];exact(q.drop _).take _
def slD(d:Qb)(lo hi:Option Int)(Q:Qb->Prop):Prop:=
 match d with
 |.list ds=>Q (.list (cutD ds lo hi))
 |.tuple ds=>Q (.tuple (cutD ds lo hi))
 |_=>False
def dSl(we:DE)(wl wh:DO):DE:=λδ Q EX=>we δ (λd=>wl δ (λlo=>wh δ (λhi=>slD d lo hi Q) EX) EX) EX
def Qut(K:PySem.W.Frag):V->Option Int->Option Int->Hp->VK->Prop:=λx a b H Q=>Qyx x a b H Q∨Qus K x a b H Q
theorem Qn8{e:Q5}{lo hi:Option Q5}{we:DE}{wl wh:DO}{p2 pos:Pos}(he:PE X e (tX .P X.K E we))(hl:PO X lo (tO X.K E wl))(hh:PO X hi (tO X.K E wh)):PE X (.Subscript e (.Slice lo hi none p2) pos) (tX .F X.K E (dSl we wl wh)):=by
 refine PE.imp (QnN (r:=Qut X.K) (SlR.or2 Quj Qnv) he hl hh) λσ H Q ⟨F,δ,R,EX,rel,hw,k,o⟩=>?_
 refine⟨F,δ,_,EX,rel,hw,λd hd v H1 rel1 kp1 vk=>⟨F,δ,_,EX,rel1,hd,λa ha H2 rel2 kp2=>⟨F,δ,_,EX,rel2,ha,λb hb H3 rel3 kp3=>?_,o⟩,o⟩,o⟩;have v3:=kp3.dp (kp2.dp vk);have K3:=(kp1.trans kp2).trans kp3;cases d<;>first | exact(show False from hb).elim | skip
 ·obtain⟨l,xs,rfl,e,q⟩:=DP.list v3;exact .inr ⟨l,xs,rfl,SqL.of e,λp H' s n e'=>k _ hb _ H' (rel3.same s) (K3.trans (Kp.same rel3 s)) ⟨Qd7 (λa ha=>rel3.isl ha) s n e' (Qmv q _ _),Qbb (Qc6 K3 n)⟩⟩
 ·obtain⟨l,xs,rfl,e,q⟩:=DP.tuple v3;exact .inl ⟨l,xs,rfl,e,λp H' s e'=>k _ hb _ H' (rel3.same s) (K3.trans (Kp.same rel3 s)) ⟨Qgi (λa ha=>rel3.isl ha) s e' (Qmv q _ _),Qed e'⟩⟩
abbrev DF:=List Sl->(Qb->Prop)->XP->Prop
def Kq(pt:Addr->Prop)(H H':Hp):Prop:=(∀b o,¬pt b->H b=some o->H' b=some o)/\∀p,pt p->∃n,H' p=some (.lst [.int n])
def Zq(fr:Bool)(f:DF):Sp:=λvs H Q Ex=>∃(A pt:Addr->Prop)(args:List Sl)(R:Qb->Prop)(EX:XP),(∀a,A a->∃xs,H a=some (.lst xs))/\(∀p,pt p->A p/\∃n,H p=some (.lst [.int n]))/\QaY (Qkg A pt H) vs args/\f args R EX /\
 (∀d,R d->∀v H',Kq pt H H'->DA A H' v d->(fr=true->FrV H H' v)->Q v H')/\∀C,EX C->∀H',Kq pt H H'->Ex (.ref C) none H'
def Qyw:DSl:=λ_ Q _=>Q []
def sV(we:DE)(wr:DSl):DSl:=λδ Q EX=>we δ (λd=>wr δ (λds=>Q (.v d::ds)) EX) EX
def Qxo(i:Nat)(wr:DSl):DSl:=λδ Q EX=>match δ[i]? with
 |some .pot=>wr δ (λds=>Q (.pot::ds)) EX
 |_=>False
theorem Qsc:PA X [] (tAs X.K E Qyw):=PA.imp Z5 λσ H Q ⟨F,δ,R,EX,rel,hw,k,o⟩=>k [] hw [] H rel (Kp.refl rel) .nil
theorem QxC{e:Q5}{es:List Q5}{we:DE}{wr:DSl}(he:PE X e (tX .D X.K E we))(hr:PA X es (tAs X.K E wr))(hs:notStar e=true:=by rfl):PA X (e::es) (tAs X.K E (sV we wr)):=by
 refine PA.imp (Qd3 he hr hs) λσ H Q ⟨F,δ,R,EX,rel,hw,k,o⟩=>?_
 refine⟨F,δ,_,EX,rel,hw,λd hd v H' rel' kp vk=>⟨F,δ,_,EX,rel',hd,λds hds vs H2 rel2 kp2 vks=>?_,o⟩,o⟩;exact k _ hds (v::vs) H2 rel2 (kp.trans kp2) (.cons (kp2.da vk) vks)
theorem Qsa{e:Q5}{es:List Q5}{i:Nat}{wr:DSl}(he:PE X e (Qix i))(hr:PA X es (tAs X.K E wr))(hs:notStar e=true:=by rfl):PA X (e::es) (tAs X.K E (Qxo i wr)):=by
 refine PA.imp (Qd3 he hr hs) λσ H Q ⟨F,δ,R,EX,rel,hw,k,o⟩=>?_
 unfold Qxo at hw;split at hw
 ·rename_i hd
  obtain⟨x,hx⟩:=rel.lt hd;obtain⟨p,n,rfl,e,q⟩:=rel.sl i _ _ hx hd;refine⟨.ref p,hx,F,δ,_,EX,rel,hw,λds hds vs H2 rel2 kp2 vks=>?_,o⟩;exact k _ hds (.ref p::vs) H2 rel2 kp2 (.cons ⟨p,rfl,i,hx,hd⟩ vks)
 ·exact hw.elim
def Qmu(f:DF)(wa:DSl):DE:=λδ Q EX=>wa δ (λargs=>f args Q EX) EX
theorem Kq.kp{K:PySem.W.Frag}{F:Fm}{σ:L2.St}{δ:Sts}{H H':Hp}(k:Kq (Qaa σ δ) H H'):Kp σ δ H H':=k
theorem Qg0{m:Md}{fr:Bool}{K:PySem.W.Frag}{f:DF}{wa:DSl}(hm:∀{F:Fm}{σ:L2.St}{δ:Sts}{H H':Hp}{v:V}{d:Qb},DA (Av F σ δ) H' v d->(fr=true->FrV H H' v)->Vok m F σ δ H H' v d)(σ:L2.St)(H:Hp)(Q:VK)(h:tX m K E (Qmu f wa) σ H Q):Qud (Zq fr f) [] E (tAs K E wa) σ H Q:=by
 obtain⟨F,δ,R,EX,rel,hw,k,o⟩:=h;refine⟨F,δ,_,EX,rel,hw,λargs ha vs H1 rel1 kp1 q=>?_,o⟩;show Zq fr f (vs++[]) H1 Q E;rw[Jr];refine⟨Av F σ δ,Qaa σ δ,args,R,EX,λa ha=>rel1.isl ha,λp hp=>⟨QaX hp,(Kp.refl rel1).2 p hp⟩,q,ha,λd hd v H' kq dv fr=>?_,λC hC H' kq=>o C hC H' (rel1.kp kq).ke⟩;exact k d hd v H' (rel1.kp kq) (kp1.trans kq) (hm dv λz l e1 e2=>Qc6 kp1 (fr z l e1 e2))
variable{CX:CXT}{k:Nat}{f:Addr}{fd:QR}{ps:List Str}{x:Str}{p pos:Pos}{e:Q5}{es:List Q5}{fD:DF}{wa:DSl}
theorem Qsq(G:FnOk X.prog X.w X.K X.mg X.base CX k f fd ps (Zq false fD))(hr:Room k X.A)(hg:Gl X x)(hm:X.mg x=some (.ref f))(hk:PySem.W.keepIn X.K (.ref f)=true)(hb:Binds X.K fd ps [])(hx:Qen CX X E)
  (ha:PA X (e::es) (tAs X.K E wa))(hdb:(x == ("__debug__" : Str))=false:=by decide)(he:starEach (e::es) X.env=(false,eval e X.env)::starEach es X.env:=by rfl)(hpl:(backTo pos (starEach es X.env)).any (·.1)=false:=by rfl) :
  PE X (.Call (.Name x p) (e::es) [] pos) (tX .D X.K E (Qmu fD wa)):=PE.imp (QhJ G hr hg hm hk hb .nil hx ha hdb he hpl) (Qg0 λh _=>h)
theorem Qn9(G:FnOk X.prog X.w X.K X.mg X.base CX k f fd ps (Zq true fD))(hr:Room k X.A)(hg:Gl X x)(hm:X.mg x=some (.ref f))(hk:PySem.W.keepIn X.K (.ref f)=true)(hb:Binds X.K fd ps [])(hx:Qen CX X E)
  (ha:PA X (e::es) (tAs X.K E wa))(hdb:(x == ("__debug__" : Str))=false:=by decide)(he:starEach (e::es) X.env=(false,eval e X.env)::starEach es X.env:=by rfl)(hpl:(backTo pos (starEach es X.env)).any (·.1)=false:=by rfl) :
  PE X (.Call (.Name x p) (e::es) [] pos) (tX .F X.K E (Qmu fD wa)):=PE.imp (QhJ G hr hg hm hk hb .nil hx ha hdb he hpl) (Qg0 λh z=>⟨h,z rfl⟩)
end
abbrev DG:=Qb->Sts->(Sts->Prop)->Prop
def tG(ix:List Nat)(K:PySem.W.Frag)(w:DG):TG:=λv σ H Q=>∃(F:Fm)(δ:Sts)(d:Qb)(R:Sts->Prop),Rel K F σ H δ/\DA (Av F σ δ) H v d/\w d δ R /\
 ∀δ',R δ'->∀σ',Rel K F σ' H δ'->Stp F σ H δ σ' H δ'->σ'.length=σ.length->(∀j,j∉ix->σ'[j]? = σ[j]?)->Q σ' H
theorem Qav{α:Type}{l:List α}{i j:Nat}{x:α}(h:j≠i):(l.set i x)[j]? = l[j]? := QcI (QaZ h)
theorem set_eq{α:Type}{l:List α}{i:Nat}{x y:α}(h:(l.set i x)[i]? = some y):y=x:=by
 rw[Qo6] at h;simp only[if_true] at h;split at h
 ·exact(Qs h).symm
 ·cases h
theorem Qel{F:Fm}{σ:L2.St}{δ:Sts}{i:Nat}{o:Option V}{d:Qb}{a:Addr}(h:Av F (σ.set i o) (δ.set i (.v d)) a):Av F σ δ a:=by
 rcases h with h | ⟨j,h1,h2⟩
 ·exact .inl h
 ·by_cases z:j=i
  ·subst z;rcases h2 with h2 | ⟨ds,h2⟩<;>cases set_eq h2
  ·rw[Qav z] at h1 h2;exact .inr ⟨j,h1,h2⟩
theorem Rel.setv{K:PySem.W.Frag}{F:Fm}{σ:L2.St}{H:Hp}{δ:Sts}(r:Rel K F σ H δ){i:Nat}{v:V}{d:Qb}(q:DA (Av F σ δ) H v d):Rel K F (σ.set i (some v)) H (δ.set i (.v d)) where
 len:=by rw[ZW,ZW];exact r.len
 dom:=r.dom
 dom0:=r.dom0
 pt0:=r.pt0
 kx:=r.kx
 sl:=λj o x h1 h2=>by
  have wk:∀{v:V}{d':Qb},DA (Av F σ δ) H v d'->DA (Av F (σ.set i (some v)) (δ.set i (.v d))) H v d':=λh=>h.mv (λ_ _ _ e=>e) λa z=>.inl (Qel z)
  by_cases z:j=i
  ·subst z;cases set_eq h1;cases set_eq h2;exact⟨v,rfl,q.mv (λ_ _ _ e=>e) λa z=>.inl (Qel z)⟩
  ·rw[Qav z] at h1 h2;have h:=r.sl j o x h1 h2;cases x with
   |no=>trivial
   |v d=>obtain⟨v',e,q'⟩:=h;exact⟨v',e,q'.mv (λ_ _ _ e=>e) λa z=>.inl (Qel z)⟩
   |own ds=>obtain⟨l,xs,e,e2,q',f⟩:=h;exact⟨l,xs,e,e2,q'.mv (λ_ _ _ e=>e) λa z=>.inl (Qel z),f⟩
   |pk ds=>obtain⟨l,xs,e,e2,q',f⟩:=h;exact⟨l,xs,e,e2,q'.mv (λ_ _ _ e=>e) λa z=>.inl (Qel z),f⟩
   |pot=>exact h
   |scr=>exact h
 inj:=λj k a ds h1 h2 ⟨h3,h4⟩=>by
  by_cases z:j=i
  ·subst z;cases set_eq h1
  ·rw[Qav z] at h1 h2;by_cases z2:k=i
   ·subst z2;rcases h4 with h4 | ⟨ds,h4⟩<;>cases set_eq h4
   ·rw[Qav z2] at h3 h4;exact r.inj j k a ds h1 h2 ⟨h3,h4⟩
theorem Stp.setv{F:Fm}{σ:L2.St}{H:Hp}{δ:Sts}{i:Nat}{o:Option V}{d:Qb}:Stp F σ H δ (σ.set i o) H (δ.set i (.v d)):=⟨λ_ _ _ e=>e,λa z=>.inl (Qel z)⟩
def gN(i:Nat):DG:=λd δ Q=>Q (δ.set i (.v d))
def QiD:Sts->List Nat->List Qb->Sts
 |δ,i::is,d::ds=>QiD (δ.set i (.v d)) is ds
 |δ,_,_=>δ
def gTN(is:List Nat):DG:=λd δ Q=>match d with
 |.tuple ds=>ds.length=is.length/\Q (QiD δ is ds)
 |_=>False
section
variable{X:Cx}{E:XK}
theorem PG.imp{e:Q5}{t t':TG}(h:PG X e t)(i:∀v σ H Q,t' v σ H Q->t v σ H Q):PG X e t':=λpins s σ H v u Q I r q=>h pins s σ H v u Q I r (i v σ H Q q)
theorem Qn7{e:Q5}{i:Nat}(h:PG X e (Qey i)):PG X e (tG [i] X.K (gN i)):=PG.imp h λv σ H Q ⟨F,δ,d,R,rel,dv,hw,k⟩=>
 k _ hw _ (rel.setv dv) Stp.setv (ZW ..) λj hj=>Qav λz=>hj (by rw[z];exact QC.mpr rfl)
def gNs:List Nat->TGs
 |[]=>Qx5
 |i::is=>QoA (Qey i) (gNs is)
theorem Qi4{K:PySem.W.Frag}{F:Fm}{H:Hp}{Q:L2.St->Hp->Prop}:∀(is:List Nat)(vs:List V)(ds:List Qb)(σ:L2.St)(δ:Sts),ds.length=is.length->Rel K F σ H δ->DAs (Av F σ δ) H vs ds ->
  (∀σ',Rel K F σ' H (QiD δ is ds)->Stp F σ H δ σ' H (QiD δ is ds)->σ'.length=σ.length->(∀j,j∉is->σ'[j]? = σ[j]?)->Q σ' H)->gNs is vs σ H Q
 |[],vs,ds,σ,δ,hl,rel,q,k=>by
  cases ds with
  |nil=>cases q;exact⟨rfl,k σ rel Stp.refl rfl λ_ _=>rfl⟩
  |cons d ds=>cases hl
 |i::is,vs,ds,σ,δ,hl,rel,q,k=>by
  cases ds with
  |nil=>cases hl
  |cons d ds=>
   cases q with
   |@cons v vs _ _ q qs=>
    refine⟨v,vs,rfl,?_⟩;refine Qi4 is vs ds _ _ (by simpa using hl) (rel.setv q) (qs.mv (λ_ _ _ e=>e) λa z=>.inl (Qel z)) λσ' r' st hl' hj=>?_
    refine k σ' r' (Stp.setv.trans st) (by rw[hl',ZW]) λj hn=>?_
    rw[hj j (λz=>hn (Jg _ z)),Qav (λz=>hn (by rw[z];exact J4))]
theorem Qsj{e:Q5}{n:Nat}{is:List Nat}(h:PG X e (Qx4 X.K n (gNs is)))(hn:is.length=n:=by rfl):PG X e (tG is X.K (gTN is)):=PG.imp h λv σ H Q ⟨F,δ,d,R,rel,dv,hw,k⟩=>by
 unfold gTN at hw;split at hw
 ·obtain⟨hl,hR⟩:=hw;cases dv with
  |@tup a xs ds na e q=>
   exact⟨a,xs,rfl,SqT.of e,by rw[q.length,hl,hn],Qi4 is xs _ σ δ hl rel q λσ' r' st hl' hj=>k _ hR σ' r' st hl' hj⟩
 ·exact hw.elim
def ItD(A S:Addr->Prop)(J:It)(items:List Qb)(H1:Hp):Prop:=items.length<=sizeLine/\∀(H2:Hp)(A':Addr->Prop),(∀b o,S b->H1 b=some o->H2 b=some o)->(∀b,A' b->A b∨H1 b=none)->(∀a,A' a->∃xs,H2 a=some (.lst xs)) ->
 (∀(i:Nat) d,items[i]? = some d->J.go i H2/\∀x H3,J.yld i H2 x H3->Same H2 H3/\DA A' H3 x d)/\J.stop items.length H2
def Sx(m:Md)(F:Fm)(σ:L2.St)(δ:Sts)(b:Addr):Prop:=
 match m with
 |.P=>¬Qaa σ δ b
 |_=>¬Av F σ δ b
abbrev DI:=Sts->(List Qb->Prop)->XP->Prop
def tI(m:Md)(K:PySem.W.Frag)(E:XK)(w:DI):TI:=λσ H R=>∃(F:Fm)(δ:Sts)(R':List Qb->Prop)(EX:XP),Rel K F σ H δ/\w δ R' EX/\(∀items,R' items->∀J H',Rel K F σ H' δ->Kp σ δ H H'->ItD (Av F σ δ) (Sx m F σ δ) J items H'->R J H')/\Out F E EX
theorem PI.imp{tg e:Q5}{t t':TI}(h:PI X tg e t)(i:∀σ H R,Qb9 H->t' σ H R->t σ H R):PI X tg e t':=λpins s σ H R I q=>h pins s σ H R I (i σ H R (Inv.lens I) q)
theorem PI.len{tg e:Q5}{t:TI}(h:PI X tg e t):PI X tg e (λσ H R=>t σ H λJ H1=>Qb9 H1->R J H1):=λpins s σ H R I q=>by
 refine thn (h pins s σ H _ I q) λv s1 h1=>thn h1 λitv s2 h2=>?_
 obtain⟨it,fp,tn,J,H',e,I',T,t0,fo,hR⟩:=h2;exact⟨it,fp,tn,J,H',e,I',T,t0,fo,hR (Inv.lens I')⟩
def QyY(w:DE):DI:=λδ Q EX=>w δ (λd=>match d with
 |.list ds=>Q ds
 |_=>False) EX
def QyX(w:DE):DI:=λδ Q EX=>w δ (λd=>match d with
 |.tuple ds=>Q ds
 |_=>False) EX
theorem Qfr{A S:Addr->Prop}{H H2:Hp}{A':Addr->Prop}{xs:List V}{ds:List Qb}(sA:∀b,¬A b->S b)(k:∀b o,S b->H b=some o->H2 b=some o)(m:∀b,A' b->A b∨H b=none)(q:DAs A H xs ds):DAs A' H2 xs ds:=q.mv (λa o n e=>k a o (sA a n) e) m
theorem QxV{K:PySem.W.Frag}{A S:Addr->Prop}{H:Hp}{l:Addr}{xs:List V}{ds:List Qb}(sA:∀b,¬A b->S b)(sl:S l)(e:H l=some (.lst xs))(q:DAs A H xs ds)(ln:xs.length<=sizeLine):ItD A S (Itl K l) ds H:=by
 refine⟨by rw[<- q.length];exact ln,λH2 A' k m dm=>⟨λi d hd=>?_,xs,SqL.of (k _ _ sl e),by rw[q.length];exact Qj _⟩⟩;obtain⟨x,hx,dx⟩:=(Qfr sA k m q).get i d hd;refine⟨⟨xs,x,SqL.of (k _ _ sl e),hx⟩,λy H3 ⟨e3,hy⟩=>?_⟩;subst e3;have:=hy xs (SqL.of (k _ _ sl e));rw[hx] at this;cases this;exact⟨Same.refl _,dx⟩
theorem QxT{K:PySem.W.Frag}{A S:Addr->Prop}{H:Hp}{l:Addr}{xs:List V}{ds:List Qb}(sA:∀b,¬A b->S b)(sl:S l)(e:H l=some (.tup xs))(q:DAs A H xs ds)(ln:xs.length<=sizeLine):ItD A S (Itt K l) ds H:=by
 refine⟨by rw[<- q.length];exact ln,λH2 A' k m dm=>⟨λi d hd=>?_,xs,SqT.of (k _ _ sl e),by rw[q.length];exact Qj _⟩⟩;obtain⟨x,hx,dx⟩:=(Qfr sA k m q).get i d hd;refine⟨⟨xs,x,SqT.of (k _ _ sl e),hx⟩,λy H3 ⟨e3,hy⟩=>?_⟩;subst e3;have:=hy xs (SqT.of (k _ _ sl e));rw[hx] at this;cases this;exact⟨Same.refl _,dx⟩
theorem QkH{m:Md}{F:Fm}{σ:L2.St}{δ:Sts}{b:Addr}(h:¬Av F σ δ b):Sx m F σ δ b:=by
 cases m
 ·exact h
 ·exact λz=>h (QaX z)
 ·exact h
theorem stL{m:Md}{F:Fm}{σ:L2.St}{δ:Sts}{H H':Hp}{v:V}{ds:List Qb}(h:VD m (Av F σ δ) (Qaa σ δ) H v (.list ds)):∃l xs,v=.ref l/\Sx m F σ δ l/\H l=some (.lst xs)/\DAs (Av F σ δ) H xs ds:=by
 cases m
 ·cases h with | @lst a xs _ n e q=>exact⟨a,xs,rfl,n,e,q⟩
 ·rcases h with h | ⟨l,xs,ds',rfl,e,n,e2,q⟩
  ·cases h with | @lst a xs _ n e q=>exact⟨a,xs,rfl,QkH n,e,q⟩
  ·cases e;exact⟨l,xs,rfl,n,e2,q⟩
 ·cases h with | @lst a xs _ n e q=>exact⟨a,xs,rfl,n,e,q⟩
theorem stT{m:Md}{F:Fm}{σ:L2.St}{δ:Sts}{H H':Hp}{v:V}{ds:List Qb}(h:VD m (Av F σ δ) (Qaa σ δ) H v (.tuple ds)):∃l xs,v=.ref l/\Sx m F σ δ l/\H l=some (.tup xs)/\DAs (Av F σ δ) H xs ds:=by
 cases m
 ·cases h with | @tup a xs _ n e q=>exact⟨a,xs,rfl,n,e,q⟩
 ·rcases h with h | ⟨l,xs,ds',rfl,e,n,e2,q⟩
  ·cases h with | @tup a xs _ n e q=>exact⟨a,xs,rfl,QkH n,e,q⟩
  ·cases e
 ·cases h with | @tup a xs _ n e q=>exact⟨a,xs,rfl,n,e,q⟩
theorem QkA{m:Md}{F:Fm}{σ:L2.St}{δ:Sts}{H H':Hp}{v:V}{d:Qb}(h:Vok m F σ δ H H' v d):VD m (Av F σ δ) (Qaa σ δ) H' v d:=by
 cases m
 ·exact h
 ·exact h
 ·exact h.1
variable{m:Md}{tg e e':Q5}{w w':DE}{p pos tpos:Pos}
theorem Qn6(h:PE X e (tX m X.K E w)):PI X tg e (tI m X.K E (QyY w)):=by
 refine PI.imp (PI.len (QrV h)) λσ H R _ ⟨F,δ,R',EX,rel,hw,k,o⟩=>?_
 refine⟨F,δ,_,EX,rel,hw,λd hd v H' rel' kp vk=>?_,o⟩;cases d<;>first | exact(show False from hd).elim | skip
 obtain⟨l,xs,rfl,sl,e,q⟩:=stL (H':=H') (QkA vk);exact⟨l,rfl,⟨xs,SqL.of e⟩,λln=>k _ hd _ H' rel' kp (QxV (λb=>QkH) sl e q (ln _ _ (.inl e)))⟩
theorem Qsi(h:PE X e (tX m X.K E w)):PI X tg e (tI m X.K E (QyX w)):=by
 refine PI.imp (PI.len (Qpo h)) λσ H R _ ⟨F,δ,R',EX,rel,hw,k,o⟩=>?_
 refine⟨F,δ,_,EX,rel,hw,λd hd v H' rel' kp vk=>?_,o⟩;cases d<;>first | exact(show False from hd).elim | skip
 obtain⟨l,xs,rfl,sl,e,q⟩:=stT (H':=H') (QkA vk);exact⟨l,rfl,⟨xs,SqT.of e⟩,λln=>k _ hd _ H' rel' kp (QxT (λb=>QkH) sl e q (ln _ _ (.inr e)))⟩
def Qhl(lo:Int)(n:Nat):List Qb:=(Je n).map λ(i:Nat)=>.int (lo+i)
theorem QcW{lo:Int}{n i:Nat}{d:Qb}(h:(Qhl lo n)[i]? = some d):i<n/\d=.int (lo+i):=by
 unfold Qhl at h;rw[QF] at h;by_cases z:i<n
 ·rw[Zf z] at h;exact⟨z,(Qs h).symm⟩
 ·rw[JR (by rw[Jf];omega)] at h;cases h
theorem QhF{lo:Int}{n:Nat}:(Qhl lo n).length=n:=by unfold Qhl;rw[Qd,Jf]
theorem QxU{A S:Addr->Prop}{H:Hp}{lo:Int}{n:Nat}(hn:n<=1000000):ItD A S (Itr lo n) (Qhl lo n) H:=by
 refine⟨by rw[QhF];exact Jd hn Qj1,λH2 A' k m dm=>⟨λi d hd=>?_,by rw[QhF];exact Qj _⟩⟩;obtain⟨hi,rfl⟩:=QcW hd;exact⟨hi,λx H3 ⟨e1,e2⟩=>by subst e1 e2;exact⟨Same.refl _,.int _⟩⟩
def QvZ(w:DE):DI:=λδ Q EX=>w δ (λd=>match d with
 |.int j=>(-1000000<=j/\j<=1000000)/\Q (Qhl 0 j.toNat)
 |_=>False) EX
theorem Qn5(hg:Gl X "range")(hm:X.mg "range" = none)(h:PE X e (tX .P X.K E w))(hs:notStar e=true:=by rfl):PI X tg (.Call (.Name "range" p) [e] [] pos) (tI m X.K E (QvZ w)):=by
 refine PI.imp (Qgy hg hm (Qd3 h Z5 hs) (by rw[YB hs];rfl)) λσ H R _ ⟨F,δ,R',EX,rel,hw,k,o⟩=>?_
 refine⟨F,δ,_,EX,rel,hw,λd hd v H' rel' kp vk=>?_,o⟩;cases d<;>first | exact(show False from hd).elim | skip
 obtain⟨⟨h1,h2⟩,hR⟩:=hd;rw[DP.int vk];exact⟨_,rfl,by omega,by omega,k _ hR _ H' rel' kp (QxU (by omega))⟩
theorem Qsr{A':Addr->Prop}{H2:Hp}{r:Addr}{x y:V}{d d':Qb}(dm:∀a,A' a->∃xs,H2 a=some (.lst xs))(n:H2 r=none)(q:DA A' H2 x d)(q':DA A' H2 y d'):DA A' (upd H2 r (.tup [x,y])) (.ref r) (.tuple [d,d']):=
 .tup (λz=>by obtain⟨xs,e⟩:=dm r z;rw[n] at e;cases e) JB (.cons (q.same (JW n)) (.cons (q'.same (JW n)) .nil))
def QgR(ds:List Qb):List Qb:=(Je ds.length).map λ(i:Nat)=>.tuple [.int i,ds.getD i .none]
theorem QfP{ds:List Qb}{i:Nat}{d:Qb}(h:(QgR ds)[i]? = some d):∃e,ds[i]? = some e/\d=.tuple [.int i,e]:=by
 unfold QgR at h;rw[QF] at h;by_cases z:i<ds.length
 ·rw[Zf z] at h;refine⟨ds[i],Qk z,?_⟩;rw[<- Qs h];show Zh [.int i,ds.getD i .none]=_;rw[QY,Qk z];rfl
 ·rw[JR (by rw[Jf];omega)] at h;cases h
theorem QfO{ds:List Qb}:(QgR ds).length=ds.length:=by unfold QgR;rw[Qd,Jf]
def Qy0(w:DE):DI:=λδ Q EX=>w δ (λd=>match d with
 |.list ds=>Q (QgR ds)
 |_=>False) EX
variable{elts:List Q5}
theorem Qlu{x1}(hg:Gl X "enumerate")(hm:X.mg "enumerate" = none)(h:PE X e (tX m X.K E w))(hs:notStar e=true:=by rfl):PI X (.Tuple elts x1 tpos) (.Call (.Name "enumerate" p) [e] [] pos) (tI m X.K E (Qy0 w)):=by
 refine PI.imp (PI.len (QrW hg hm (Qd3 h Z5 hs) (by rw[YB hs];rfl))) λσ H R _ ⟨F,δ,R',EX,rel,hw,k,o⟩=>?_
 refine⟨F,δ,_,EX,rel,hw,λd hd v H' rel' kp vk=>?_,o⟩;cases d<;>first | exact(show False from hd).elim | skip
 obtain⟨l,xs,rfl,sl,e,q⟩:=stL (H':=H') (QkA vk);refine⟨l,xs,rfl,e,λln=>k _ hd _ H' rel' kp ⟨by rw[QfO,<- q.length];exact ln _ _ (.inl e),λH2 A' kk mm dm=>⟨λi d hd'=>?_,xs,kk _ _ sl e,by rw[QfO,q.length];exact Qj _⟩⟩⟩;obtain⟨d',hd2,rfl⟩:=QfP hd';obtain⟨x,hx,dx⟩:=(Qfr (S:=Sx m F σ δ) (λb=>QkH) kk mm q).get i d' hd2;refine⟨⟨xs,x,kk _ _ sl e,hx⟩,λy H3 ⟨r,x',nr,hx',e1,e2⟩=>?_⟩;subst e1 e2;have:=hx' xs (kk _ _ sl e);rw[hx] at this;cases this;exact⟨JW nr,Qsr dm nr (.int _) dx⟩
end
def Qtr:Option Sl->Sl
 |some (.v d)=>.v d
 |some (.own ds)=>.pk ds
 |some (.pk ds)=>.pk ds
 |some .pot=>.pot
 |_=>.no
def Qie(cap:List (Option Nat))(δ:Sts):Sts:=cap.map λo=>match o with
 |none=>.no
 |some j=>Qtr δ[j]?
theorem Qjk{cap:List (Option Nat)}{σ:L2.St}{i:Nat}{o:Option V}(h:(QfX cap σ)[i]? = some o):(cap[i]? = some none/\o=none)∨∃j,cap[i]? = some (some j)/\o=(σ[j]?).getD none:=by
 unfold QfX at h;rw[QF] at h;obtain⟨c,hc,rfl⟩:=J7.mp h;cases c with
 |none=>exact .inl ⟨hc,rfl⟩
 |some j=>exact .inr ⟨j,hc,rfl⟩
theorem QoR{cap:List (Option Nat)}{δ:Sts}{i:Nat}{x:Sl}(h:(Qie cap δ)[i]? = some x):(cap[i]? = some none/\x=.no)∨∃j,cap[i]? = some (some j)/\x=Qtr δ[j]? := by
 unfold Qie at h;rw[QF] at h;obtain⟨c,hc,rfl⟩:=J7.mp h;cases c with
 |none=>exact .inl ⟨hc,rfl⟩
 |some j=>exact .inr ⟨j,hc,rfl⟩
theorem QaL{cap:List (Option Nat)}{σ:L2.St}{δ:Sts}{i:Nat}{o:Option V}{x:Sl}(h1:(QfX cap σ)[i]? = some o)(h2:(Qie cap δ)[i]? = some x)(hx:x≠.no):∃(j:Nat)(y:Sl),δ[j]? = some y/\x=Qtr (some y)/\o=(σ[j]?).getD none:=by
 rcases QoR h2 with⟨_,e⟩ | ⟨j,hj,e⟩
 ·exact absurd e hx
 ·rcases Qjk h1 with⟨z,_⟩ | ⟨j',hj',e'⟩
  ·rw[hj] at z;cases z
  ·rw[hj] at hj';cases hj';cases e2:δ[j]? with
   |none=>rw[e2] at e;exact absurd e hx
   |some y=>exact⟨j,y,e2,by rw[e,e2],e'⟩
theorem Qdb{cap:List (Option Nat)}{σ:L2.St}{δ:Sts}{a:Addr}(h:Qaa (QfX cap σ) (Qie cap δ) a):Qaa σ δ a:=by
 obtain⟨i,h1,h2⟩:=h;obtain⟨j,y,hy,e,eo⟩:=QaL h1 h2 (λz=>by cases z);cases y<;>first | (cases e;done) | skip
 refine⟨j,?_,hy⟩;cases e2:σ[j]? with
 |none=>rw[e2] at eo;cases eo
 |some o'=>rw[e2] at eo;exact congrArg some eo.symm
def inF(A1:Addr->Prop)(cap:List (Option Nat))(σ:L2.St)(δ:Sts)(H:Hp):Fm:=⟨H,A1,Qaa (QfX cap σ) (Qie cap δ)⟩
theorem QpG{A1:Addr->Prop}{cap:List (Option Nat)}{σ:L2.St}{δ:Sts}{H:Hp}(h:∀a,Qaa σ δ a->A1 a){a:Addr}:Av (inF A1 cap σ δ H) (QfX cap σ) (Qie cap δ) a↔A1 a:=by
 constructor
 ·rintro(z | ⟨i,h1,h2⟩)
  ·exact z
  ·rcases h2 with h2 | ⟨ds,h2⟩
   ·exact h a (Qdb ⟨i,h1,h2⟩)
   ·obtain⟨j,y,hy,e,eo⟩:=QaL h1 h2 (λz=>by cases z);cases y<;>cases e
 ·exact .inl
theorem QvI{K:PySem.W.Frag}{F:Fm}{σ:L2.St}{δ:Sts}{H1 H3:Hp}{A1:Addr->Prop}{cap:List (Option Nat)}(rel:Rel K F σ H1 δ)(hA:∀a,Av F σ δ a->A1 a)(hN:∀a,A1 a->Av F σ δ a∨H1 a=none)
  (dm:∀a,A1 a->∃xs,H3 a=some (.lst xs))(kp:Kp σ δ H1 H3):Rel K (inF A1 cap σ δ H3) (QfX cap σ) H3 (Qie cap δ) where
 len:=by unfold QfX Qie;rw[Qd,Qd]
 dom:=dm
 dom0:=dm
 pt0:=λp hp=>⟨hA p (QaX (Qdb hp)),kp.2 p (Qdb hp)⟩
 kx:=λb o _ e=>e
 sl:=λi o x h1 h2=>by
  have iv:∀{a:Addr},Av (inF A1 cap σ δ H3) (QfX cap σ) (Qie cap δ) a->A1 a:=λ{a}=>(QpG λa z=>hA a (QaX z)).mp
  have mv:∀{v:V}{d:Qb},DA (Av F σ δ) H1 v d->DA (Av (inF A1 cap σ δ H3) (QfX cap σ) (Qie cap δ)) H3 v d:=λq=>q.mv (λa o n e=>kp.1 a o (λz=>n (QaX z)) e) λa z=>hN a (iv z)
  have mvs:∀{v:List V}{d:List Qb},DAs (Av F σ δ) H1 v d->DAs (Av (inF A1 cap σ δ H3) (QfX cap σ) (Qie cap δ)) H3 v d:=λq=>q.mv (λa o n e=>kp.1 a o (λz=>n (QaX z)) e) λa z=>hN a (iv z)
  cases x with
  |no=>trivial
  |own ds=>
   obtain⟨j,y,hy,e,eo⟩:=QaL h1 h2 (λz=>by cases z);cases y<;>cases e
  |scr=>
   obtain⟨j,y,hy,e,eo⟩:=QaL h1 h2 (λz=>by cases z);cases y<;>cases e
  |v d=>
   obtain⟨j,y,hy,e,eo⟩:=QaL h1 h2 (λz=>by cases z);cases y<;>first | (cases e;done) | skip
   cases e;obtain⟨x,hx⟩:=rel.lt hy;obtain⟨v,rfl,q⟩:=rel.sl j _ _ hx hy;rw[hx] at eo;exact⟨v,eo,mv q⟩
  |pk ds=>
   obtain⟨j,y,hy,e,eo⟩:=QaL h1 h2 (λz=>by cases z);cases y<;>first | (cases e;done) | skip
   ·cases e;obtain⟨x,hx⟩:=rel.lt hy;obtain⟨l,xs,rfl,e,q,f⟩:=rel.sl j _ _ hx hy;rw[hx] at eo;have np:=rel.own_pot hy hx;exact⟨l,xs,eo,kp.1 _ _ np e,mvs q,xs,kp.1 _ _ np e,λz=>np (Qdb z)⟩
   ·cases e;obtain⟨x,hx⟩:=rel.lt hy;obtain⟨l,xs,rfl,e,q,ys,f,f2⟩:=rel.sl j _ _ hx hy;rw[hx] at eo;have np:¬Qaa σ δ l:=by
     rintro⟨j,j1,j2⟩;obtain⟨p,m,e1,_,w⟩:=rel.sl j _ _ j1 j2;cases e1;rcases w with w | w
     ·exact f2 w
     ·rw[w] at f;cases f
    exact⟨l,xs,eo,kp.1 _ _ np e,mvs q,xs,kp.1 _ _ np e,λz=>np (Qdb z)⟩
  |pot=>
   obtain⟨j,y,hy,e,eo⟩:=QaL h1 h2 (λz=>by cases z);cases y<;>first | (cases e;done) | skip
   obtain⟨x,hx⟩:=rel.lt hy;obtain⟨p,n,rfl,e,q⟩:=rel.sl j _ _ hx hy;rw[hx] at eo;obtain⟨m,em⟩:=kp.2 p ⟨j,hx,hy⟩;have eo':o=some (.ref p):=eo;subst eo';exact⟨p,m,rfl,em,.inl ⟨i,h1,h2⟩⟩
 inj:=λi j a ds h1 h2 _=>by
  obtain⟨j,y,hy,e,eo⟩:=QaL h2 h1 (λz=>by cases z);cases y<;>cases e
theorem Qrd:∀{σ σ':L2.St},σ'.length=σ.length->(∀(i:Nat) v,σ[i]? = some (some v)->σ'[i]? = some (some v))->Wk σ σ'
 |[],[],_,_=>trivial
 |[],_::_,h,_=>by cases h
 |_::_,[],h,_=>by cases h
 |none::a,x::b,h,g=>Qrd (σ:=a) (σ':=b) (by simpa using h) λi v e=>by simpa using g (i+1) v (by simpa using e)
 |some u::a,x::b,h,g=>by
  have h0:=g 0 u rfl;simp only[Qip,Option.some.injEq] at h0;subst h0;exact⟨rfl,Qrd (σ:=a) (σ':=b) (by simpa using h) λi v e=>by simpa using g (i+1) v (by simpa using e)⟩
def QoB(cap:List (Option Nat))(ix:List Nat):Bool:=ix.all λi=>match cap[i]? with
 |some none=>true
 |_=>false
theorem Qv9{cap:List (Option Nat)}{ix:List Nat}(hf:QoB cap ix=true){σ σ4:L2.St}(hl:σ4.length=(QfX cap σ).length)(hj:∀j,j∉ix->σ4[j]? = (QfX cap σ)[j]?):Wk (QfX cap σ) σ4:=by
 refine Qrd hl λi v e=>?_
 by_cases z:i∈ix
 ·have:=Zv.mp hf i z;rcases Qjk e with⟨_,e2⟩ | ⟨j,hj2,_⟩
  ·cases e2
  ·rw[hj2] at this;cases this
 ·rw[hj i z];exact e
def XF:XP:=λ_=>False
@[irreducible] def Qkf(items:List Qb)(wg:DG)(wt:DT)(we:DE)(δ:Sts)(Q:Qb->Prop):Prop:=∃Iv:Nat->List Qb->Prop,Iv 0 [] /\
 (∀(i:Nat) acc d,items[i]? = some d->Iv i acc->wg d δ λδ4=>wt δ4 (λb=>if b=true then we δ4 (λe=>Iv (i+1) (acc++[e])) XF else Iv (i+1) acc) XF)/\∀acc,Iv items.length acc->Q (.list acc)
def dComp(cap:List (Option Nat))(wi:DI)(wg:DG)(wt:DT)(we:DE):DE:=λδ Q EX=>wi δ (λitems=>Qkf items wg wt we (Qie cap δ) Q) EX
def Qwz:DT:=λ_ Q _=>Q true
section
variable{X:Cx}{E:XK}
theorem Qww{F:Fm}{E:XK}:Out F E XF:=λ_ z=>z.elim
theorem PTs.imp{es:List Q5}{t t':TT}(h:PTs X es t)(i:∀σ H Q,t' σ H Q->t σ H Q):PTs X es t':=λpins s σ H Q I q=>h pins s σ H Q I (i σ H Q q)
theorem QnU:PTs X [] (tT X.K E Qwz):=PTs.imp QrP λσ H Q ⟨F,δ,R,EX,rel,hw,k,o⟩=>k _ hw H rel (Kp.refl rel)
theorem QnT{c:Q5}{t:DT}(h:PT X c (tT X.K E t)):PTs X [c] (tT X.K E t):=Qll h
theorem Qs0{K:PySem.W.Frag}{A1:Addr->Prop}{cap:List (Option Nat)}{σ σ4:L2.St}{δ δ4:Sts}{H3 H4:Hp}(r:Rel K (inF A1 cap σ δ H3) σ4 H4 δ4)(hk:∀b o,¬Qaa σ δ b->H4 b=some o->H3 b=none->False){b:Addr}(h:Qaa σ4 δ4 b):Qaa σ δ b:=by
 obtain⟨i,h1,h2⟩:=h;obtain⟨p,n,e,hp,w⟩:=r.sl i _ _ h1 h2;cases e;rcases w with w | w
 ·exact Qdb w
 ·by_cases z:Qaa σ δ b
  ·exact z
  ·exact(hk b _ z hp w).elim
theorem Qri{K:PySem.W.Frag}{F:Fm}{σ:L2.St}{δ:Sts}{H1 H3:Hp}{cap:List (Option Nat)}{ix:List Nat}{wg:DG}{wt:DT}{A1:Addr->Prop}{x:V}{d:Qb}{inner:L2.St->Hp->(Hp->Prop)->Prop}{kk:Hp->Prop}{T:Sts->Prop}{N:Prop}
  (hf:QoB cap ix=true)(rel:Rel K F σ H1 δ)(hA:∀a,Av F σ δ a->A1 a)(hN:∀a,A1 a->Av F σ δ a∨H1 a=none)(dm:∀a,A1 a->∃xs,H3 a=some (.lst xs))(kp:Kp σ δ H1 H3)(dx:DA A1 H3 x d)
  (h:wg d (Qie cap δ) λδ4=>wt δ4 (λb=>if b=true then T δ4 else N) XF)
  (hT:∀σ4 δ4 H5,T δ4->Rel K (inF A1 cap σ δ H3) σ4 H5 δ4->Kp σ δ H3 H5->(∀b,Qaa σ4 δ4 b->Qaa σ δ b)->inner σ4 H5 kk)(hF:N->∀H5,Kp σ δ H3 H5->kk H5) :
  bOf (QfX cap σ) (tG ix K wg) (tT K E0 wt) inner x H3 kk:=by
 have ri:=QvI (cap:=cap) rel hA hN dm kp;have iv:∀{a:Addr},Av (inF A1 cap σ δ H3) (QfX cap σ) (Qie cap δ) a->A1 a:=λ{a}=>(QpG λa z=>hA a (QaX z)).mp
 refine⟨inF A1 cap σ δ H3,Qie cap δ,d,_,ri,dx.mv (λ_ _ _ e=>e) λa z=>.inl (iv z),h,λδ4 h4 σ4 r4 st4 l4 j4=>⟨Qv9 hf l4 j4,inF A1 cap σ δ H3,δ4,_,XF,r4,h4,λb hb H5 r5 kp5=>?_,Qww⟩⟩;have pots:∀{b:Addr},Qaa σ4 δ4 b->Qaa σ δ b:=λz=>Qs0 r4 (λb o _ e1 e2=>by rw[e2] at e1;cases e1) z
 have K5:Kp σ δ H3 H5:=by
  refine⟨λb o n e=>kp5.1 b o (λz=>n (pots z)) e,λb hb=>?_⟩;by_cases z:Qaa σ4 δ4 b
  ·exact kp5.2 b z
  ·obtain⟨n,e⟩:=kp.2 b hb;exact⟨n,kp5.1 _ _ z e⟩
 exact Qdk hb (λz=>hT σ4 δ4 H5 z r5 K5 λb=>pots) λz=>hF z H5 K5
structure Lp (σ:L2.St) (δ:Sts) (A1:Addr->Prop) (p:Addr) (H1 H2:Hp) (acc:List Qb):Prop where
 kp:Kp σ δ H1 H2
 at_:∃ys,H2 p=some (.lst ys)/\DAs A1 H2 ys acc
theorem Lp.step{σ:L2.St}{δ:Sts}{A1:Addr->Prop}{p:Addr}{H1 H2 H3:Hp}{acc:List Qb}(hpA:∀a,Qaa σ δ a->A1 a)(hpn:¬Qaa σ δ p)(h:Lp σ δ A1 p H1 H2 acc)(k:Kp σ δ H2 H3):Lp σ δ A1 p H1 H3 acc:=by
 obtain⟨ys,e,q⟩:=h.at_;exact⟨h.kp.trans k,ys,k.1 _ _ hpn e,q.mv (λa o n e=>k.1 a o (λz=>n (hpA a z)) e) λa z=>.inl z⟩
theorem QvO{K:PySem.W.Frag}{σ σ4:L2.St}{δ δ4:Sts}{H1 H3 H5:Hp}{cap:List (Option Nat)}{we:DE}{A1:Addr->Prop}{p:Addr}{acc:List Qb}{kk:Hp->Prop}{G:Qb->Prop}
  (hpA:A1 p)(hP:∀a,Qaa σ δ a->A1 a)(hp1:H1 p=none)(hpn:¬Qaa σ δ p)(lp:Lp σ δ A1 p H1 H5 acc)(hl:acc.length<sizeLine)(r5:Rel K (inF A1 cap σ δ H3) σ4 H5 δ4)(pots:∀b,Qaa σ4 δ4 b->Qaa σ δ b)
  (h:we δ4 G XF)(hk:∀e,G e->∀H',Lp σ δ A1 p H1 H' (acc++[e])->kk H'):Qyk p (tX .D K E0 we) σ4 H5 kk:=by
 refine⟨inF A1 cap σ δ H3,δ4,G,XF,r5,h,λe he v H6 r6 kp6 dv=>?_,Qww⟩;have k56:Kp σ δ H5 H6:=by
  refine⟨λb o n e=>kp6.1 b o (λz=>n (pots b z)) e,λb hb=>?_⟩;by_cases z:Qaa σ4 δ4 b
  ·exact kp6.2 b z
  ·obtain⟨n,e⟩:=lp.kp.2 b hb;exact⟨n,kp6.1 _ _ z e⟩
 obtain⟨k6,ys,e6,q6⟩:=lp.step hP hpn k56;have up:∀{b:Addr}{o:HO},¬A1 b->H6 b=some o->upd H6 p (.lst (ys++[v])) b=some o:=λ{b o} n e=>by rw[JU (λz=>n (by rw[z];exact hpA))];exact e
 refine⟨ys,e6,by rw[q6.length];exact hl,hk e he _ ⟨⟨λb o n e=>?_,λb hb=>?_⟩,ys++[v],JB,DAs.app (q6.mv (λ_ _=>up) λa z=>.inl z) (.cons (DA.mv dv (λa o n e=>up (λz=>n (.inl z)) e) λa z=>.inl (.inl z)) .nil)⟩⟩
 ·rw[JU (λz=>by rw[z,hp1] at e;cases e)];exact k6.1 b o n e
 ·rw[JU (λz=>hpn (by rw[<- z];exact hb))];exact k6.2 b hb
theorem Qso{M:List Str}{cap:List (Option Nat)}{elt tg iter:Q5}{ifs:List Q5}{scope:QaM}{pos:Pos}{ix:List Nat}{wi:DI}{wg:DG}{wt:DT}{we:DE}(hc:X.calm=true)(ok:Qj9 X.N X.env.scope M scope cap=true)(hf:QoB cap ix=true)
  (hi:PI X tg iter (tI .P X.K E wi))(hb:∀cl ex s3 H3 C,PG (blk X M scope cl ex s3 H3 C) tg (tG ix X.K wg)/\PTs (blk X M scope cl ex s3 H3 C) ifs (tT X.K E0 wt)/\PE (blk X M scope cl ex s3 H3 C) elt (tX .D X.K E0 we))
  (hs:∀x,foldedSetIterable iter X.env x=pure x:=by intro _;rfl):PE X (.ListComp elt [⟨tg,iter,ifs,0⟩] scope pos) (tX .F X.K E (dComp cap wi wg wt we)):=by
 refine PE.imp (QnP hc ok hi hb hs) λσ H Q ⟨F,δ,R,EX,rel,hw,k,o⟩=>?_
 refine⟨F,δ,_,EX,rel,hw,λitems hC J H1 rel1 kp1 ⟨ln,it⟩ p hp=>?_,o⟩;unfold Qkf at hC;obtain⟨Iv,i0,step,fin⟩:=hC;have hpn:¬Qaa σ δ p:=λz=>by obtain⟨xs,e⟩:=rel1.isl (QaX (F:=F) z);rw[hp] at e;cases e
 let A1:Addr->Prop:=λa=>Av F σ δ a∨a=p
 have hP:∀a,Qaa σ δ a->A1 a:=λa z=>.inl (QaX z)
 have hN:∀a,A1 a->Av F σ δ a∨H1 a=none:=λa z=>z.elim .inl λz=>.inr (by rw[z];exact hp)
 have dmK:∀{H2:Hp},Kp σ δ H1 H2->(∃ys,H2 p=some (.lst ys))->∀a,A1 a->∃xs,H2 a=some (.lst xs):=λ{H2} k2 e2 a z=>by
  rcases z with z | z
  ·exact(rel1.kp k2).isl z
  ·rw[z];exact e2
 refine QlV items.length (λi H2=>i<=items.length/\∃acc,Iv i acc/\acc.length<=i/\Lp σ δ A1 p H1 H2 acc) ⟨Qr _,[],i0,Qj _,Kp.same rel1 (JW hp),[],JB,.nil⟩ (λi H2 hi ⟨_,acc,iv,hl,lp⟩=>?_) λH2 ⟨_,acc,iv,hl,lp⟩=>?_
 ·obtain⟨k2,ys,e2,q2⟩:=lp;obtain⟨go,_⟩:=it H2 A1 (λb o n e=>k2.1 b o n e) hN (dmK k2 ⟨ys,e2⟩);have hd:items[i]? = some items[i]:=Qk hi;obtain⟨g1,g2⟩:=go i _ hd;refine⟨g1,λx H3 y kk hk=>?_⟩;obtain⟨s3,dx⟩:=g2 x H3 y;have k23:=Kp.same (rel1.kp k2) s3;have lp3:Lp σ δ A1 p H1 H3 acc:=Lp.step hP hpn ⟨k2,ys,e2,q2⟩ k23;refine Qri hf rel1 (λa z=>.inl z) hN (dmK lp3.kp ⟨ys,s3 _ _ e2⟩) lp3.kp dx (step i acc _ hd iv) (λσ4 δ4 H5 h5 r5 k5 pots=>?_) λh5 H5 k5=>hk _ ⟨hi,acc,h5,by omega,lp3.step hP hpn k5⟩
  exact QvO (.inr rfl) hP hp hpn (lp3.step hP hpn k5) (by omega) r5 pots h5 λe he H' lp'=>hk _ ⟨hi,acc++[e],he,by rw[Qo];show _+1<=_;omega,lp'⟩
 ·obtain⟨k2,ys,e2,q2⟩:=lp;obtain⟨_,st⟩:=it H2 A1 (λb o n e=>k2.1 b o n e) hN (dmK k2 ⟨ys,e2⟩);refine⟨st,k _ (fin acc iv) (.ref p) H2 (rel1.kp k2) (kp1.trans k2) ⟨.lst (λz=>?_) e2 (q2.mv (λ_ _ _ e=>e) λa z=>.inl (.inl z)),λl e1 _=>?_⟩⟩
  ·obtain⟨xs,e⟩:=rel1.isl z;rw[hp] at e;cases e
  ·cases e1;exact Qc6 kp1 hp
theorem Qmz{items:List Qb}{wg:DG}{wt:DT}{we:DE}{δ:Sts}{Q:Qb->Prop}(G:Qb->Option Qb)
  (h:∀d∈items,∀(k1:Prop)(k2:Qb->Prop),(G d=none->k1)->(∀e,G d=some e->k2 e)->wg d δ λδ4=>wt δ4 (λb=>if b=true then we δ4 k2 XF else k1) XF)(q:Q (.list (items.filterMap G))) :
  Qkf items wg wt we δ Q:=by
 unfold Qkf;refine⟨λi acc=>acc=(items.take i).filterMap G,by simp,λi acc d hd e=>?_,λacc e=>by rw[e,QaC];exact q⟩;have hs:(items.take (i+1)).filterMap G=(items.take i).filterMap G++(G d).toList:=by
  rw[Qbq,hd,List.filterMap_append];cases e2:G d<;>simp[e2]
 have e:acc=(items.take i).filterMap G:=e;refine h d (Jx hd) _ _ (λe2=>?_) λe' e2=>?_
 ·show acc=(items.take (i+1)).filterMap G;rw[hs,e2,e];simp
 ·show acc++[e']=(items.take (i+1)).filterMap G;rw[hs,e2,e];rfl
theorem Qaz{items:List Qb}{wg:DG}{we:DE}{δ:Sts}{Q:Qb->Prop}(G:Qb->Qb)
  (h:∀d∈items,∀(k2:Qb->Prop),k2 (G d)->wg d δ λδ4=>we δ4 k2 XF)(q:Q (.list (items.map G))) :
  Qkf items wg Qwz we δ Q:=by
 unfold Qkf;refine⟨λi acc=>acc=(items.take i).map G,by simp,λi acc d hd e=>?_,λacc e=>by rw[e,QaC];exact q⟩;have hs:(items.take (i+1)).map G=(items.take i).map G++[G d]:=by
  rw[Qbq,hd,Jm];simp
 have e:acc=(items.take i).map G:=e;have hh:=h d (Jx hd) (λe=>acc++[e]=(items.take (i+1)).map G) (by show acc++[G d]=_;rw[hs,e]);simp only[Qwz,if_true];exact hh
end
theorem Qmk:∀{a b:List (Int×Int)},dkV a=dkV b->a=b
 |[],[],_=>rfl
 |[],_::_,h=>by cases h
 |_::_,[],h=>by cases h
 |p::a,q::b,h=>by
  have h:=List.cons.inj (show(Qcl p.1,V.int p.2)::dkV a=(Qcl q.1,V.int q.2)::dkV b from h);have h1:=Y6 h.1;rw[Qmk h.2,Prod.ext (QtN h1.1) (V.int.inj h1.2)]
mutual
theorem Qmp{A B:Addr->Prop}{H:Hp}:∀(d d':Qb)(x:V),DA A H x d->DA B H x d'->d=d'
 |.none,d',_,.non,h=>by cases h;rfl
 |.bool _,d',_,.bl _,h=>by cases h;rfl
 |.int _,d',_,.int _,h=>by cases h;rfl
 |.str _,d',_,.str _ _,h=>by cases h;rfl
 |.tuple ds,d',_,.tup (xs:=xs) n e q,h=>by
  cases h with
  |@tup a ys es n' e' q'=>
   rw[e] at e';cases e';rw[QfQ ds es xs q q']
  |@lst a ys es n' e' q'=>rw[e] at e';cases e'
  |@dct a kvs' ds' n' e' q'=>rw[e] at e';cases e'
 |.list ds,d',_,.lst (xs:=xs) n e q,h=>by
  cases h with
  |@tup a ys es n' e' q'=>rw[e] at e';cases e'
  |@lst a ys es n' e' q'=>
   rw[e] at e';cases e';rw[QfQ ds es xs q q']
  |@dct a kvs' ds' n' e' q'=>rw[e] at e';cases e'
 |.dict _,d',_,.dct (kvs:=kvs) n e q,h=>by
  cases h with
  |@tup a ys es n' e' q'=>rw[e] at e';cases e'
  |@lst a ys es n' e' q'=>rw[e] at e';cases e'
  |@dct a kvs' ds' n' e' q'=>
   rw[e] at e';rw[q,q',Qmk (HO.dK.inj (Qs e'))]
theorem QfQ{A B:Addr->Prop}{H:Hp}:∀(ds es:List Qb)(xs:List V),DAs A H xs ds->DAs B H xs es->ds=es
 |[],es,_,.nil,h=>by cases h;rfl
 |d::ds,es,_,.cons q qs,h=>by
  cases h with
  |@cons x xs e es q' qs'=>rw[Qmp d e _ q q',QfQ ds es _ qs qs']
end
mutual
theorem QvU{A:Addr->Prop}{H:Hp}{l:Addr}{rs:List Qb}(root:DA A H (.ref l) (.list rs)):∀(d:Qb)(x:V),sizeOf d<sizeOf (Qac rs)->DA A H x d->DA (λa=>A a∨a=l) H x d
 |.none,_,_,.non=>.non
 |.bool _,_,_,.bl _=>.bl _
 |.int _,_,_,.int _=>.int _
 |.str _,_,_,.str _ c=>.str _ c
 |.tuple ds,_,hs,.tup (a:=a) (xs:=xs) n e q=>.tup (λz=>z.elim n λz=>by subst z;cases root with | @lst _ ys _ n' e' q'=>(rw[e] at e';cases e')) e (QfR root ds xs (by simp at hs ⊢;omega) q)
 |.list ds,_,hs,.lst (a:=a) (xs:=xs) n e q=>.lst (λz=>z.elim n λz=>by
   subst z;have:=Qmp _ _ _ root (.lst n e q);rw[this] at hs;omega) e (QfR root ds xs (by simp at hs ⊢;omega) q)
 |.dict _,_,hs,.dct (a:=a) n e q=>.dct (λz=>z.elim n λz=>by subst z;cases root with | @lst _ ys _ n' e' q'=>(rw[e] at e';cases e')) e q
theorem QfR{A:Addr->Prop}{H:Hp}{l:Addr}{rs:List Qb}(root:DA A H (.ref l) (.list rs)):∀(ds:List Qb)(xs:List V),sizeOf ds<sizeOf (Qac rs)->DAs A H xs ds->DAs (λa=>A a∨a=l) H xs ds
 |[],_,_,.nil=>.nil
 |d::ds,_,hs,.cons q qs=>.cons (QvU root d _ (by simp at hs ⊢;omega) q) (QfR root ds _ (by simp at hs ⊢;omega) qs)
end
theorem DA.items{A:Addr->Prop}{H:Hp}{l:Addr}{ds:List Qb}(root:DA A H (.ref l) (.list ds)):∃xs,H l=some (.lst xs)/\DAs (λa=>A a∨a=l) H xs ds:=by
 have root':=root;cases root with
 |@lst _ xs _ n e q=>exact⟨xs,e,QfR root' ds xs (by simp) q⟩
structure Qeo where
 nx:Sts->Prop
 rt:Qb->Prop
 rtF:Qb->Prop
 bk:Sts->Prop
 ct:Sts->Prop
 ex:XP
abbrev DS:=Qeo->Sts->Prop
structure Nx (K:PySem.W.Frag) (F:Fm) (σ:L2.St) (H:Hp) (δ:Sts) (R:Sts->Prop) (T:L2.St->Hp->Prop):Prop where
 go:∀δ',R δ'->∀σ' H',Rel K F σ' H' δ'->Stp F σ H δ σ' H' δ'->T σ' H'
structure Ends1 (K:PySem.W.Frag) (E:XK) (F:Fm) (σ:L2.St) (H:Hp) (δ:Sts) (DD:Qeo) (D:Ends):Prop where
 nx:Nx K F σ H δ DD.nx D.nx
 rt:∀d,DD.rt d->∀v H',Ke F H'->DA F.A0 H' v d->D.rt v H'
 rtF:∀d,DD.rtF d->∀v H',Ke F H'->DA F.A0 H' v d->FrV F.H0 H' v->D.rt v H'
 bk:Nx K F σ H δ DD.bk D.bk
 ct:Nx K F σ H δ DD.ct D.ct
 ex:Out F E DD.ex
def tS(K:PySem.W.Frag)(E:XK)(w:DS):TS:=λD σ H=>∃(F:Fm)(δ:Sts)(DD:Qeo),Rel K F σ H δ/\w DD δ/\Ends1 K E F σ H δ DD D
theorem Nx.step{K:PySem.W.Frag}{F:Fm}{σ σ1:L2.St}{H H1:Hp}{δ δ1:Sts}{R:Sts->Prop}{T:L2.St->Hp->Prop}(h:Nx K F σ H δ R T)(s:Stp F σ H δ σ1 H1 δ1):Nx K F σ1 H1 δ1 R T:=⟨λδ' hR σ' H' r st=>h.go δ' hR σ' H' r (s.trans st)⟩
theorem Ends1.step{K:PySem.W.Frag}{E:XK}{F:Fm}{σ σ1:L2.St}{H H1:Hp}{δ δ1:Sts}{DD:Qeo}{D:Ends}(h:Ends1 K E F σ H δ DD D)(s:Stp F σ H δ σ1 H1 δ1):Ends1 K E F σ1 H1 δ1 DD D:=⟨h.nx.step s,h.rt,h.rtF,h.bk.step s,h.ct.step s,h.ex⟩
section
variable{X:Cx}{E:XK}
theorem PS.imp{e:Yn}{t t':TS}(h:PS X e t)(i:∀D σ H,t' D σ H->t D σ H):PS X e t':=λpins s σ H D I q=>h pins s σ H D I (i D σ H q)
theorem PSs.imp{e:List Yn}{t t':TS}(h:PSs X e t)(i:∀D σ H,t' D σ H->t D σ H):PSs X e t':=λpins s σ H D I q=>h pins s σ H D I (i D σ H q)
def QyR(a b:DS):DS:=λD δ=>a { D with nx:=b D } δ
def QvW:DS:=λD δ=>D.nx δ
theorem QnV:PSs X [] (tS X.K E QvW):=PSs.imp QhH λD σ H ⟨F,δ,DD,rel,hw,en⟩=>en.nx.go δ hw σ H rel Stp.refl
theorem Qsb{st:Yn}{w:DS}(h:PS X st (tS X.K E w)):PSs X [st] (tS X.K E w):=Qby h
theorem Qn1{st:Yn}{rest:List Yn}{w w':DS}(h:PS X st (tS X.K E w))(h':PSs X rest (tS X.K E w')):PSs X (st::rest) (tS X.K E (QyR w w')):=by
 refine PSs.imp (Y5 h h') λD σ H ⟨F,δ,DD,rel,hw,en⟩=>?_
 exact⟨F,δ,_,rel,hw,⟨λδ' h' σ' H' r st=>⟨F,δ',DD,r,h',en.step st⟩⟩,en.rt,en.rtF,en.bk,en.ct,en.ex⟩
def QyQ(i:Nat)(we:DE):DS:=λD δ=>we δ (λd=>D.nx (δ.set i (.v d))) D.ex
def QvY(i:Nat)(we:DE):DS:=λD δ=>we δ (λd=>match d with
 |.list ds=>D.nx (δ.set i (.own ds))
 |_=>False) D.ex
def QvX(i:Nat)(we:DE):DS:=λD δ=>we δ (λd=>match d with
 |.list [.int _]=>D.nx (δ.set i .pot)
 |_=>False) D.ex
variable{i:Nat}{e:Q5}{st:Yn}{we wi:DE}
theorem Qr8(h:PS X st (Qro (tX .D X.K E we) (Qey i))):PS X st (tS X.K E (QyQ i we)):=by
 refine PS.imp h λD σ H ⟨F,δ,DD,rel,hw,en⟩=>?_
 refine⟨F,δ,_,DD.ex,rel,hw,λd hd v H' rel' kp vk=>?_,en.ex⟩;exact en.nx.go _ hd _ H' (rel'.setv vk) ((Stp.kp kp).trans Stp.setv)
theorem QpR{F:Fm}{σ:L2.St}{δ:Sts}{i:Nat}{l:Addr}{x:Sl}{a:Addr}(h:Av F (σ.set i (some (.ref l))) (δ.set i x) a):Av F σ δ a∨a=l:=by
 rcases h with h | ⟨j,h1,h2⟩
 ·exact .inl (.inl h)
 ·by_cases z:j=i
  ·subst z;cases set_eq h1;exact .inr rfl
  ·rw[Qav z] at h1 h2;exact .inl (.inr ⟨j,h1,h2⟩)
theorem Rel.seto{K:PySem.W.Frag}{F:Fm}{σ:L2.St}{H H':Hp}{δ:Sts}{l:Addr}{x:Sl}(r:Rel K F σ H δ)(r':Rel K F σ H' δ)(kp:Kp σ δ H H')(n:H l=none)(hx:∀A:Addr->Prop,(∀a,A a->Av F σ δ a∨H a=none)->(∀a,A a->Av F σ δ a∨a=l)->Qy5 K F H' A (some (.ref l)) x) :
  Rel K F (σ.set i (some (.ref l))) H' (δ.set i x)/\Stp F σ H δ (σ.set i (some (.ref l))) H' (δ.set i x):=by
 have nA:∀a,Av F (σ.set i (some (.ref l))) (δ.set i x) a->Av F σ δ a∨H a=none:=λa z=>(QpR z).elim .inl λz=>.inr (by rw[z];exact n)
 have kk:∀a o,¬Av F σ δ a->H a=some o->H' a=some o:=λa o m e=>kp.1 a o (λz=>m (QaX z)) e
 refine⟨?_,⟨kk,nA⟩⟩;exact{
  len:=by rw[ZW,ZW];exact r.len
  dom:=r'.dom
  dom0:=r'.dom0
  pt0:=r'.pt0
  kx:=r'.kx
  sl:=λj o y h1 h2=>by
   by_cases z:j=i
   ·subst z;cases set_eq h1;cases set_eq h2;exact hx _ nA λa z=>QpR z
   ·rw[Qav z] at h1 h2;have h:=r.sl j o y h1 h2;have h':=r'.sl j o y h1 h2;cases y with
    |no=>trivial
    |v d=>obtain⟨v',e,q'⟩:=h;exact⟨v',e,q'.mv kk nA⟩
    |own ds=>obtain⟨l',xs,rfl,e2,q',f⟩:=h;exact⟨l',xs,rfl,kp.1 _ _ (r.own_pot h2 h1) e2,q'.mv kk nA,f⟩
    |pk ds=>
     obtain⟨l',xs,rfl,e2,q',ys,f,f2⟩:=h;refine⟨l',xs,rfl,kp.1 _ _ ?_ e2,q'.mv kk nA,ys,f,f2⟩;rintro⟨j,j1,j2⟩;obtain⟨p,m,e1,_,w⟩:=r.sl j _ _ j1 j2;cases e1;rcases w with w | w
     ·exact f2 w
     ·rw[w] at f;cases f
    |pot=>exact h'
    |scr=>exact h'
  inj:=λj k a ds h1 h2 ⟨h3,h4⟩=>by
   have ne:∀(k:Nat),k≠i->σ[k]? = some (some (.ref l))->(δ[k]? = some .pot∨∃ds,δ[k]? = some (.own ds))->False:=λk _ h3 h4=>by
    obtain⟨xs,e⟩:=r.isl (a:=l) (.inr ⟨k,h3,h4⟩);rw[n] at e;cases e
   by_cases z:j=i
   ·subst z;cases set_eq h2;by_cases z2:k=j
    ·exact z2.symm
    ·rw[Qav z2] at h3 h4;exact(ne k z2 h3 h4).elim
   ·rw[Qav z] at h1 h2;by_cases z2:k=i
    ·subst z2;cases set_eq h3;exact(ne j z h2 (.inr ⟨ds,h1⟩)).elim
    ·rw[Qav z2] at h3 h4;exact r.inj j k a ds h1 h2 ⟨h3,h4⟩ }
theorem Qmc{K:PySem.W.Frag}{F:Fm}{σ:L2.St}{H:Hp}{δ:Sts}(r:Rel K F σ H δ){l:Addr}(n:H l=none):F.H0 l=none:=by
 cases e:F.H0 l with
 |none=>rfl
 |some o=>
  by_cases z:F.pt l
  ·obtain⟨_,m,e'⟩:=r.pt0 l z;rw[n] at e';cases e'
  ·rw[r.kx l o z e] at n;cases n
theorem QnX(h:PS X st (Qro (tX .F X.K E we) (Qey i))):PS X st (tS X.K E (QvY i we)):=by
 refine PS.imp h λD σ H ⟨F,δ,DD,rel,hw,en⟩=>?_
 refine⟨F,δ,_,DD.ex,rel,hw,λd hd v H' rel' kp ⟨vk,fr⟩=>?_,en.ex⟩;obtain⟨ds,rfl⟩:∃ds,d=.list ds:=by cases d<;>first | exact⟨_,rfl⟩ | exact(show False from hd).elim
 obtain⟨l,rfl⟩:∃l,v=.ref l:=by cases vk;exact⟨_,rfl⟩
 obtain⟨xs,e,q⟩:=DA.items vk;have n:=fr l rfl ⟨xs,e⟩;obtain⟨r2,st⟩:=rel.seto (i:=i) (x:=.own ds) rel' kp n λA hA hB=>⟨l,xs,rfl,e,q.mv (λ_ _ _ e=>e) λa z=>.inl (hB a z),Qmc rel n⟩
 exact en.nx.go _ hd _ H' r2 st
theorem QnW(h:PS X st (Qro (tX .F X.K E we) (Qey i))):PS X st (tS X.K E (QvX i we)):=by
 refine PS.imp h λD σ H ⟨F,δ,DD,rel,hw,en⟩=>?_
 refine⟨F,δ,_,DD.ex,rel,hw,λd hd v H' rel' kp ⟨vk,fr⟩=>?_,en.ex⟩;split at hd
 ·cases vk with
  |@lst l xs ds na e q=>
   have n:=fr l rfl ⟨xs,e⟩;cases q with
   |cons q1 q2=>
    cases q1;cases q2;obtain⟨r2,st⟩:=rel.seto (i:=i) (x:=.pot) rel' kp n λA hA hB=>⟨l,_,rfl,e,.inr (Qmc rel n)⟩
    exact en.nx.go _ hd _ H' r2 st
 ·exact hd.elim
def Qy1(we:DE)(wg:DG):DS:=λD δ=>we δ (λd=>wg d δ D.nx) D.ex
theorem Qsg{ix:List Nat}{wg:DG}(h:PS X st (Qro (tX .D X.K E we) (tG ix X.K wg))):PS X st (tS X.K E (Qy1 we wg)):=by
 refine PS.imp h λD σ H ⟨F,δ,DD,rel,hw,en⟩=>?_
 refine⟨F,δ,_,DD.ex,rel,hw,λd hd v H' rel' kp vk=>?_,en.ex⟩;exact⟨F,δ,d,_,rel',vk,hd,λδ' h' σ' r' st' _ _=>en.nx.go _ h' _ H' r' ((Stp.kp kp).trans st')⟩
def QyS(we:DE):DS:=λD δ=>we δ D.rt D.ex
def Qv0(we:DE):DS:=λD δ=>we δ D.rtF D.ex
theorem Qtb{F:Fm}{σ:L2.St}{δ:Sts}{H:Hp}{v:V}{d:Qb}(h:DA (Av F σ δ) H v d):DA F.A0 H v d:=h.mv (λ_ _ _ e=>e) λa z=>.inl (.inl z)
theorem Qr9{e:Q5}{pos:Pos}(h:PE X e (tX .D X.K E we)):PS X (.Return (some e) pos) (tS X.K E (QyS we)):=by
 refine PS.imp (Qcx h) λD σ H ⟨F,δ,DD,rel,hw,en⟩=>?_
 exact⟨F,δ,_,DD.ex,rel,hw,λd hd v H' rel' kp vk=>en.rt d hd v H' rel'.ke (Qtb vk),en.ex⟩
theorem QnZ{e:Q5}{pos:Pos}(h:PE X e (tX .F X.K E we)):PS X (.Return (some e) pos) (tS X.K E (Qv0 we)):=by
 refine PS.imp (Qcx h) λD σ H ⟨F,δ,DD,rel,hw,en⟩=>?_
 exact⟨F,δ,_,DD.ex,rel,hw,λd hd v H' rel' kp vk=>en.rtF d hd v H' rel'.ke (Qtb vk.1) λl e1 e2=>Qmc rel (vk.2 l e1 e2),en.ex⟩
def Qtc(i:Nat):DS:=λD δ=>match δ[i]? with
 |some (.own ds)=>D.rtF (.list ds)
 |some (.v d)=>D.rt d
 |_=>False
theorem QnY{e:Q5}{pos:Pos}(h:PE X e (Qix i)):PS X (.Return (some e) pos) (tS X.K E (Qtc i)):=by
 refine PS.imp (Qcx h) λD σ H ⟨F,δ,DD,rel,hw,en⟩=>?_
 unfold Qtc at hw;split at hw
 ·rename_i ds hd
  obtain⟨x,hx⟩:=rel.lt hd;obtain⟨l,xs,rfl,e,q,f⟩:=rel.sl i _ _ hx hd;refine⟨_,hx,en.rtF _ hw _ H rel.ke (.lst (λz=>?_) e (q.mv (λ_ _ _ e=>e) λa z=>.inl (.inl z))) λl' e1 _=>by cases e1;exact f⟩;obtain⟨ys,e'⟩:=rel.dom0 l z;rw[f] at e';cases e'
 ·rename_i d hd
  obtain⟨x,hx⟩:=rel.lt hd;obtain⟨v,rfl,q⟩:=rel.sl i _ _ hx hd;exact⟨v,hx,en.rt _ hw _ H rel.ke (Qtb q)⟩
 ·exact hw.elim
def dIf(t:DT)(a b:DS):DS:=λD δ=>t δ (λc=>if c=true then a D δ else b D δ) D.ex
theorem QuT{c:Q5}{a b:List Yn}{pos:Pos}{t:DT}{w w':DS}(hc:PT X c (tT X.K E t))(ha:PSs X a (tS X.K E w))(hb:PSs X b (tS X.K E w')):PS X (.If c a b pos) (tS X.K E (dIf t w w')):=by
 refine PS.imp (QrQ hc ha hb) λD σ H ⟨F,δ,DD,rel,hw,en⟩=>?_
 exact⟨F,δ,_,DD.ex,rel,hw,λb hb H' rel' kp=>Qdk hb (λz=>⟨F,δ,DD,rel',z,en.step (Stp.kp kp)⟩) λz=>⟨F,δ,DD,rel',z,en.step (Stp.kp kp)⟩,en.ex⟩
theorem Qlt{sts:List Yn}:PSs X sts (tS X.K E λ_ _=>False):=λpins s σ H D I ⟨F,δ,DD,rel,hw,en⟩=>hw.elim
def Qyg(i:Nat)(rD:Qb->Qb->(Qb->Prop)->Prop)(we:DE):DS:=λD δ=>match δ[i]? with
 |some (.v d)=>we δ (λe=>rD d e (λz=>D.nx (δ.set i (.v z)))) D.ex
 |_=>False
theorem Qsf{r:TIp}{rD:Qb->Qb->(Qb->Prop)->Prop}(hd:QoZ r rD)(h:PS X st (Qys i (tX .P X.K E we) (λx y H Q=>Qb9 H->r x y H Q))):PS X st (tS X.K E (Qyg i rD we)):=by
 refine PS.imp h λD σ H ⟨F,δ,DD,rel,hw,en⟩=>?_
 unfold Qyg at hw;split at hw
 ·rename_i d hd'
  obtain⟨x,hx⟩:=rel.lt hd';obtain⟨v,rfl,q⟩:=rel.sl i _ _ hx hd';refine⟨v,hx,F,δ,_,DD.ex,rel,hw,λe he y H' rel' kp yk ln=>?_,en.ex⟩;refine hd (Av F σ δ) (Qaa σ δ) H' v y d e _ _ ln (λa ha=>rel'.isl ha) (.inl (kp.da q)) yk he λz hz u H2 s du=>?_
  exact en.nx.go _ hz _ H2 ((rel'.same s).setv du) (((Stp.kp kp).trans (Stp.kp (Kp.same rel' s))).trans Stp.setv)
 ·exact hw.elim
theorem QhN{g:Int->Int->Int}:QoZ (ipI g) (ii0 λi j=>.int (g i j)):=λA P H x y d1 d2 R Q ln dm hx hy h k=>by
 cases d1<;>cases d2<;>first | exact h.elim | skip
 rw[hx.int,hy.int];exact⟨_,_,rfl,rfl,k _ h _ H (Same.refl H) (.int _)⟩
theorem PIp.len{op:Qcn}{t:TIp}(h:PIp X op t):PIp X op (λx y H Q=>Qb9 H->t x y H Q):=λpins s σ H x y v u Q I rx ry q=>h pins s σ H x y v u Q I rx ry (q (Inv.lens I))
theorem Rel.mut{K:PySem.W.Frag}{F:Fm}{σ:L2.St}{H:Hp}{δ:Sts}(r:Rel K F σ H δ){l:Addr}{ds ds':List Qb}{ys:List V}(h:δ[i]? = some (.own ds))(hx:σ[i]? = some (some (.ref l)))(q:DAs (Av F σ δ) H ys ds') :
  Rel K F σ (upd H l (.lst ys)) (δ.set i (.own ds'))/\Stp F σ H δ σ (upd H l (.lst ys)) (δ.set i (.own ds')):=by
 have hl:Av F σ δ l:=.inr ⟨i,hx,.inr ⟨ds,h⟩⟩;obtain⟨l',xs0,e0,el,_,f⟩:=r.sl i _ _ hx h;cases e0;have lt:i < δ.length:=(QQ.mp h).1;have ge:(δ.set i (.own ds'))[i]? = some (.own ds'):=by rw[QbU lt]
 have kk:∀a o,¬Av F σ δ a->H a=some o->upd H l (.lst ys) a=some o:=λa o n e=>by rw[JU (λz=>n (by rw[z];exact hl))];exact e
 have av:∀a,Av F σ (δ.set i (.own ds')) a->Av F σ δ a:=λa z=>by
  rcases z with z | ⟨j,h1,h2⟩
  ·exact .inl z
  ·by_cases z:j=i
   ·subst z;exact .inr ⟨j,h1,.inr ⟨ds,h⟩⟩
   ·rw[Qav z] at h2;exact .inr ⟨j,h1,h2⟩
 have up:∀{b:Addr}{o:HO},b≠l->H b=some o->upd H l (.lst ys) b=some o:=λn e=>by rw[JU n];exact e
 refine⟨?_,⟨kk,λa z=>.inl (av a z)⟩⟩;exact{
  len:=by rw[ZW];exact r.len
  dom:=λa ha=>by
   by_cases z:a=l
   ·rw[z];exact⟨_,JB⟩
   ·obtain⟨xs,e⟩:=r.dom a ha;exact⟨xs,up z e⟩
  dom0:=r.dom0
  pt0:=λp hp=>by
   obtain⟨h1,n,e⟩:=r.pt0 p hp;refine⟨h1,n,up (λz=>?_) e⟩;obtain⟨xs,e'⟩:=r.dom0 p h1;rw[z,f] at e';cases e'
  kx:=λb o n e=>up (λz=>by rw[z,f] at e;cases e) (r.kx b o n e)
  sl:=λj o y h1 h2=>by
   by_cases z:j=i
   ·subst z;rw[ge] at h2;cases h2;rw[hx] at h1;cases h1;exact⟨l,ys,rfl,JB,q.mv kk λa z=>.inl (av a z),f⟩
   ·rw[Qav z] at h2;have hh:=r.sl j o y h1 h2;cases y with
    |no=>trivial
    |v d=>obtain⟨v',e,q'⟩:=hh;exact⟨v',e,q'.mv kk λa z=>.inl (av a z)⟩
    |own es=>
     obtain⟨l',xs,rfl,e2,q',f'⟩:=hh;exact⟨l',xs,rfl,up (λz2=>z (r.inj j i l' es h2 h1 ⟨by rw[z2];exact hx,.inr ⟨ds,h⟩⟩)) e2,q'.mv kk λa z=>.inl (av a z),f'⟩
    |pk es=>
     obtain⟨l',xs,rfl,e2,q',ys',f',f2⟩:=hh;exact⟨l',xs,rfl,up (λz2=>by rw[z2,f] at f';cases f') e2,q'.mv kk λa z=>.inl (av a z),ys',f',f2⟩
    |pot=>
     obtain⟨p,n,rfl,e2,w⟩:=hh;refine⟨p,n,rfl,up (λz2=>?_) e2,w⟩;subst z2;exact r.own_pot h hx ⟨j,h1,h2⟩
    |scr=>exact hh
  inj:=λj k a es h1 h2 ⟨h3,h4⟩=>by
   have h4':δ[k]? = some .pot∨∃ds,δ[k]? = some (.own ds):=by
    by_cases z:k=i
    ·subst z;exact .inr ⟨ds,h⟩
    ·rw[Qav z] at h4;exact h4
   by_cases z:j=i
   ·subst z;exact r.inj j k a ds h h2 ⟨h3,h4'⟩
   ·rw[Qav z] at h1;exact r.inj j k a es h1 h2 ⟨h3,h4'⟩ }
def Qyh(i:Nat)(we:DE):DS:=λD δ=>match δ[i]? with
 |some (.own ds)=>we δ (λd=>ds.length<1000000/\D.nx (δ.set i (.own (ds++[d])))) D.ex
 |_=>False
theorem Qsh(h:PS X st (Qnr (tBM X.K "list" Qlb (Qix i) (Qgk (tX .D X.K E we) Qub)))):PS X st (tS X.K E (Qyh i we)):=by
 refine PS.imp h λD σ H ⟨F,δ,DD,rel,hw,en⟩=>?_
 unfold Qyh at hw;split at hw
 ·rename_i ds hd
  obtain⟨x,hx⟩:=rel.lt hd;obtain⟨l,xs,rfl,e,q,f⟩:=rel.sl i _ _ hx hd;have np:=rel.own_pot hd hx;refine⟨.ref l,hx,.inl ⟨rfl,_,SqL.of e⟩,F,δ,_,DD.ex,rel,hw,λd ⟨hl,hn⟩ v H' rel' kp vk=>?_,en.ex⟩;have q':=kp.das q;refine⟨l,xs,v,rfl,rfl,kp.1 _ _ np e,Q0 (by rw[q.length];exact hl) Qj1,?_⟩;obtain⟨r2,st⟩:=rel'.mut hd hx (q'.app (.cons vk .nil));exact en.nx.go _ hn _ _ r2 ((Stp.kp kp).trans st)
 ·exact hw.elim
def Qtf(i:Nat)(rD:Qb->Qb->(Qb->Prop)->Prop)(wi we:DE):DS:=λD δ=>match δ[i]? with
 |some (.own ds)=>wi δ (λz=>match z with
  |.int k=>∃j a,ixN ds.length k=some j/\ds[j]? = some a/\we δ (λe=>rD a e λb=>D.nx (δ.set i (.own (ds.set j b)))) D.ex
  |_=>False) D.ex
 |_=>False
theorem Qn2{r:TIp}{rD:Qb->Qb->(Qb->Prop)->Prop}(hd:QoZ r rD)(h:PS X st (Que (Qix i) (tX .P X.K E wi) (tX .P X.K E we) (Qwu X.K) (λx y H Q=>Qb9 H->r x y H Q) Quu)):PS X st (tS X.K E (Qtf i rD wi we)):=by
 refine PS.imp h λD σ H ⟨F,δ,DD,rel,hw,en⟩=>?_
 unfold Qtf at hw;split at hw
 ·rename_i ds hds
  obtain⟨x,hx⟩:=rel.lt hds;obtain⟨l,xs,rfl,e,q,f⟩:=rel.sl i _ _ hx hds;have np:=rel.own_pot hds hx;refine⟨.ref l,hx,F,δ,_,DD.ex,rel,hw,λz hz y H1 rel1 kp1 yk=>?_,en.ex⟩;cases z<;>first | exact(show False from hz).elim | skip
  obtain⟨j,a,hj,ha,hn⟩:=hz;have q1:=kp1.das q;obtain⟨va,hva,da⟩:=q1.get j a ha;rw[DP.int yk];refine⟨l,xs,_,va,rfl,rfl,SqL.of (kp1.1 _ _ np e),by unfold atI;rw[q.length,hj];exact hva,F,δ,_,DD.ex,rel1,hn,λb hb u H2 rel2 kp2 uk ln=>?_,en.ex⟩;refine hd (Av F σ δ) (Qaa σ δ) H2 va u a b _ _ ln (λa ha=>rel2.isl ha) (.inl (kp2.da da)) uk hb λc hc w H3 s dw=>?_
  have r3:=rel2.same s;have k3:=kp2.trans (Kp.same rel2 s);refine⟨l,xs,_,j,rfl,rfl,k3.1 _ _ np (kp1.1 _ _ np e),by rw[q.length];exact hj,?_⟩;obtain⟨r4,st⟩:=r3.mut hds hx ((k3.das q1).set dw j);exact en.nx.go _ hc _ _ r4 (((Stp.kp kp1).trans (Stp.kp k3)).trans st)
 ·exact hw.elim
@[irreducible] def Qtz(items:List Qb)(wg:DG)(wb:DS)(D:Qeo)(δ:Sts):Prop:=∃Iv:Nat->Sts->Prop,Iv 0 δ/\(∀(i:Nat) d δ,items[i]? = some d->Iv i δ->wg d δ λδ2=>wb { D with nx:=Iv (i+1),ct:=Iv (i+1),bk:=D.nx } δ2)/\∀δ,Iv items.length δ->D.nx δ
def dFor(wi:DI)(wg:DG)(wb:DS):DS:=λD δ=>wi δ (λitems=>Qtz items wg wb D δ) D.ex
theorem Qse{tg iter:Q5}{body:List Yn}{pos:Pos}{ix:List Nat}{wi:DI}{wg:DG}{wb:DS}(hp:Qfd (model X.prog X.w) X.A X.env X.xe)(hc:X.calm=true)(hi:PI X tg iter (tI .D X.K E wi))(hg:PG X tg (tG ix X.K wg))(hb:PSs X body (tS X.K E wb))
  (hs:∀x,foldedSetIterable iter X.env x=pure x:=by intro _;rfl):PS X (.For tg iter body [] pos) (tS X.K E (dFor wi wg wb)):=by
 refine PS.imp (Qpk hp hc hi hg hb hs) λD σ H ⟨F,δ,DD,rel,hw,en⟩=>?_
 refine⟨F,δ,_,DD.ex,rel,hw,λitems hC J H1 rel1 kp1 ⟨ln,it⟩=>?_,en.ex⟩;unfold Qtz at hC;obtain⟨Iv,i0,step,fin⟩:=hC;have en1:=en.step (Stp.kp (F:=F) kp1);refine⟨λi m σ' H'=>m=items.length - i/\i<=items.length/\∃δ',Iv i δ'/\Rel X.K F σ' H' δ'/\Stp F σ H1 δ σ' H' δ',⟨_,rfl,Qr _,δ,i0,rel1,Stp.refl⟩,?_⟩;rintro i m σ' H' ⟨rfl,hi',δ',iv,r',st'⟩;obtain⟨go,stop⟩:=it H' (Av F σ' δ') st'.1 st'.2 λa ha=>r'.isl ha
 by_cases hlt:i<items.length
 ·have hd:items[i]? = some items[i]:=Qk hlt;obtain⟨g1,g2⟩:=go i _ hd;refine .inr ⟨g1,λσ2 H2=>∃δ2,Iv (i+1) δ2/\Rel X.K F σ2 H2 δ2/\Stp F σ H1 δ σ2 H2 δ2,λσ2 H2 ⟨δ2,h2,r2,s2⟩=>⟨_,by omega,rfl,hlt,δ2,h2,r2,s2⟩,λx H3 y=>?_⟩;obtain⟨s3,dx⟩:=g2 x H3 y;have r3:=r'.same s3;have st3:Stp F σ H1 δ σ' H3 δ':=st'.trans (Stp.kp (Kp.same r' s3));refine⟨F,δ',_,_,r3,dx,step i _ δ' hd iv,λδ4 h4 σ4 r4 st4 _ _=>⟨F,δ4,_,r4,h4,?_⟩⟩;have st5:=st3.trans st4;exact⟨⟨λδ6 h6 σ6 H6 r6 s6=>⟨δ6,h6,r6,st5.trans s6⟩⟩,en.rt,en.rtF,(en1.step st5).nx,⟨λδ6 h6 σ6 H6 r6 s6=>⟨δ6,h6,r6,st5.trans s6⟩⟩,en.ex⟩
 ·have e:i=items.length:=by omega
  subst e;exact .inl ⟨stop,(en1.step st').nx.go δ' (fin δ' iv) σ' H' r' Stp.refl⟩
theorem Qee{lo:Int}{n:Nat}{wg:DG}{wb:DS}{D:Qeo}{δ:Sts}(Iv:Nat->Sts->Prop)(h0:Iv 0 δ)
  (hs:∀(i:Nat) δ,i<n->Iv i δ->wg (.int (lo+i)) δ λδ2=>wb { D with nx:=Iv (i+1),ct:=Iv (i+1),bk:=D.nx } δ2)(hd:∀δ,Iv n δ->D.nx δ):Qtz (Qhl lo n) wg wb D δ:=by
 unfold Qtz;exact⟨Iv,h0,λi d δ hd iv=>by obtain⟨hi,rfl⟩:=QcW hd;exact hs i δ hi iv,λδ iv=>hd δ (by rw[QhF] at iv;exact iv)⟩
theorem QcD{items:List Qb}{wg:DG}{wb:DS}{D:Qeo}{δ:Sts}(Iv:Nat->Sts->Prop)(h0:Iv 0 δ)
  (hs:∀(i:Nat) d δ,items[i]? = some d->Iv i δ->wg d δ λδ2=>wb { D with nx:=Iv (i+1),ct:=Iv (i+1),bk:=D.nx } δ2)(hd:∀δ,Iv items.length δ->D.nx δ):Qtz items wg wb D δ:=by
 unfold Qtz;exact⟨Iv,h0,hs,hd⟩
def Qv4(we:DE):DS:=λD δ=>we δ (λ_=>D.nx δ) D.ex
theorem Qn0(h:PS X st (Qnr (tX .P X.K E we))):PS X st (tS X.K E (Qv4 we)):=by
 refine PS.imp h λD σ H ⟨F,δ,DD,rel,hw,en⟩=>?_
 exact⟨F,δ,_,DD.ex,rel,hw,λd hd v H' rel' kp vk=>en.nx.go δ hd σ H' rel' (Stp.kp kp),en.ex⟩
end
def stD(N:List Str)(args:List Sl):Sts:=args++Jb (N.length - args.length) .no
theorem QeO{α β:Type}{R:α->β->Prop}:∀{xs:List α}{ys:List β},QaY R xs ys->∀(i:Nat) x y,xs[i]? = some x->ys[i]? = some y->R x y
 |_,_,.nil,i,x,y,h,_=>by simp at h
 |_,_,.cons a b,0,x,y,h,h'=>by simp at h h';subst h h';exact a
 |_,_,.cons a b,i+1,x,y,h,h'=>QeO b i x y (by simpa using h) (by simpa using h')
theorem QkN{K:PySem.W.Frag}{N:List Str}{A pt:Addr->Prop}{H:Hp}{vs:List V}{args:List Sl}(dm:∀a,A a->∃xs,H a=some (.lst xs))(hp:∀p,pt p->A p/\∃n,H p=some (.lst [.int n]))(q:QaY (Qkg A pt H) vs args):Rel K ⟨H,A,pt⟩ (L2.start N vs) H (stD N args):=by
 have hl:vs.length=args.length:=q.length;have no:∀(i:Nat) x,(stD N args)[i]? = some x->(i<args.length/\args[i]? = some x)∨x=.no:=λi x h=>by
  unfold stD at h;by_cases z:i<args.length
  ·rw[Zi z] at h;exact .inl ⟨z,h⟩
  ·rw[JF (by omega),Z2] at h;split at h
   ·exact .inr (Qs h).symm
   ·cases h
 have arg:∀(i:Nat) o x,(L2.start N vs)[i]? = some o->(stD N args)[i]? = some x->x≠.no->∃v,o=some v/\Qkg A pt H v x:=λi o x h1 h2 hx=>by
  rcases no i x h2 with⟨z,e⟩ | e
  ·unfold L2.start at h1;rw[Zi (by rw[Qd];omega),QF] at h1;obtain⟨v,hv,rfl⟩:=J7.mp h1;exact⟨v,rfl,QeO q i v x hv e⟩
  ·exact absurd e hx
 have av:∀a,Av ⟨H,A,pt⟩ (L2.start N vs) (stD N args) a->A a:=λa z=>by
  rcases z with z | ⟨i,h1,h2⟩
  ·exact z
  ·rcases h2 with h2 | ⟨ds,h2⟩
   ·obtain⟨v,e,p,rfl,hp'⟩:=arg i _ _ h1 h2 (λz=>by cases z);cases e;exact(hp _ hp').1
   ·obtain⟨v,e,hh⟩:=arg i _ _ h1 h2 (λz=>by cases z);exact hh.elim
 exact{
  len:=by unfold L2.start stD;rw[Qo,Qo,Qd,Qap,Qap,hl]
  dom:=dm
  dom0:=dm
  pt0:=hp
  kx:=λ_ _ _ e=>e
  sl:=λi o x h1 h2=>by
   cases x with
   |no=>trivial
   |v d=>
    obtain⟨v,e,hh⟩:=arg i _ _ h1 h2 (λz=>by cases z);exact⟨v,e,DA.mv hh (λ_ _ _ e=>e) λa z=>.inl (av a z)⟩
   |pot=>
    obtain⟨v,e,p,rfl,hp'⟩:=arg i _ _ h1 h2 (λz=>by cases z);obtain⟨_,n,en⟩:=hp p hp';exact⟨p,n,e,en,.inl hp'⟩
   |own ds=>obtain⟨v,e,hh⟩:=arg i _ _ h1 h2 (λz=>by cases z);exact hh.elim
   |pk ds=>obtain⟨v,e,hh⟩:=arg i _ _ h1 h2 (λz=>by cases z);exact hh.elim
   |scr=>obtain⟨v,e,hh⟩:=arg i _ _ h1 h2 (λz=>by cases z);exact hh.elim
  inj:=λi j a ds h1 h2 _=>by
   obtain⟨v,e,hh⟩:=arg i _ _ h2 h1 (λz=>by cases z);exact hh.elim }
def Qzo:Qb->Bool
 |.list _=>false
 |_=>true
def rtD:Bool->(Qb->Prop)->Qb->Prop
 |true,R,d=>Qzo d=true/\R d
 |false,R,d=>R d
def Qs9(fr:Bool)(R:Qb->Prop)(EX:XP):Qeo:=⟨λ_=>R .none,rtD fr R,R,λ_=>False,λ_=>False,EX⟩
theorem Qs8{K:PySem.W.Frag}{E Ex:XK}{fr:Bool}{A pt:Addr->Prop}{H:Hp}{R:Qb->Prop}{EX EX':XP}{Q:VK}{σ:L2.St}{δ:Sts}(k:∀d,R d->∀v H',Kq pt H H'->DA A H' v d->(fr=true->FrV H H' v)->Q v H')(o:Out ⟨H,A,pt⟩ E EX') :
  Ends1 K E ⟨H,A,pt⟩ σ H δ (Qs9 fr R EX') { nx:=λ_ H'=>Q .non H',rt:=Q } where
 nx:=⟨λδ' hR σ' H' r st=>k _ hR _ H' r.ke .non λ_=>Qs3⟩
 rt:=λd h v H' ke dv=>by
  cases fr with
  |false=>exact k d h v H' ke dv λz=>by cases z
  |true=>
   obtain⟨h1,h2⟩:=h;refine k d h2 v H' ke dv λz l e1 ⟨xs,e2⟩=>?_
   subst e1;cases dv with
   |@tup a ys ds n e q=>rw[e] at e2;cases e2
   |@lst a ys ds n e q=>cases h1
   |@dct a kvs ds n e q=>rw[e] at e2;cases e2
 rtF:=λd h v H' ke dv fr'=>k d h v H' ke dv λ_=>fr'
 bk:=⟨λ_ h=>h.elim⟩
 ct:=⟨λ_ h=>h.elim⟩
 ex:=o
section
variable{P:QB}{w:Ji}{K:PySem.W.Frag}{mg:Str->Option Value}{base:Heap}
theorem okD{x qual:Str}{st:Yn}{f:Addr}{fd:QR}{N ps:List Str}{k:Nat}{fD:DF}(fr:Bool)(F:Fun K x qual st f fd)(S:JH N ps (Qx st))(len:∀args R EX,fD args R EX->args.length=ps.length)
  (hbody:∀(cdv:Value)(A:Q3)(outer:List Env)(s:Shared)(H:Hp)(E:XK),Room k (A.deeper (envOfC qual (Qx st) s.heap.objs.size f cdv)) ->
   ∃wd,PSs (Qm7 CX0 P w K mg base N qual (Qx st) f cdv A outer s H E).nox (Jz st) (tS K E0 wd)/\∀args R EX,fD args R EX->wd (Qs9 fr R XF) (stD N args)):FnOk P w K mg base CX0 (k+1) f fd ps (Zq fr fD):=by
 refine F.ok S (λvs H Q E h=>?_) λcdv A outer s H vs Q E hr h=>?_
 ·obtain⟨A,pt,args,R,EX,_,_,q,h,_⟩:=h;rw[q.length];exact len _ _ _ h
 ·obtain⟨wd,hp,hw⟩:=hbody cdv A outer s H E hr;obtain⟨A',pt,args,R,EX,dm,hpt,q,h,k,_⟩:=h;exact⟨_,hp,⟨H,A',pt⟩,_,_,QkN dm hpt q,hw args R EX h,Qs8 (Ex:=E) (EX:=EX) k Qww⟩
end
end Dl
namespace L2
def Qyq(i j:Int):Prop:=0<j/\j<=10^40
theorem Qoc{X:Cx}:OpR X (binaryOp .FloorDiv) (rI Qyq λi j=>.int (i / j)):=opI λi j _ _ _ _ _ hc q=>by
 have h1:(0:Int)<j:=hc.1;have h2:j<=10^40:=hc.2;refine floordiv_int (by omega) (by rw[Qhj i (by omega)];exact q) (.inl (PyProof.noPylong_of_log2 ?_));have h3:j.natAbs<2^200:=by
  have:(10:Int)^40<2^200:=by decide
  omega
 have:=(Nat.log2_lt (by omega:j.natAbs≠0)).mpr h3;omega
end L2
namespace Rk
open L2 _root_.Rd
def QiB:Sp:=λvs H Q _=>∃p n f,vs=[.ref p,.int f]/\H p=some (.lst [.int n])/\0<f/\f<=10^40/\∀r m,0<=r->r<f->Q (.int r) (upd H p (.lst [.int m]))
end Rk
namespace Dl
open L2 _root_.Rd Rk
theorem ZJ{X:Cx}{E:XK}:Qen CX0 X E:=λ_ _ _ _ _ _ _ h=>h.elim
theorem Room.u60{k:Nat}{A:Q3}(r:Room k A):A.units+60<cLine:=by have:=r.un;omega
theorem Room.i60{k:Nat}{A:Q3}(r:Room k A):A.in1.units+60<cLine:=by
 have:=r.un;show A.units+1+60<cLine;omega
section
variable{X:Cx}{E:XK}{CX:CXT}{k:Nat}{f:Addr}{fd:QR}{ps:List Str}{x:Str}{p pos:Pos}{e:Q5}{es:List Q5}{fD:DF}
def Qrj:DF:=λargs R _=>∃f,args=[.pot,.v (.int f)]/\0<f/\f<=10^40/\∀r,0<=r->r<f->R (.int r)
theorem Qt4{vs:List V}{H:Hp}{Q:VK}{Ex:XK}(h:Zq true Qrj vs H Q Ex):QiB vs H Q Ex:=by
 obtain⟨A,pt,args,R,EX,dm,hp,q,⟨f,rfl,f0,f1,hR⟩,k,_⟩:=h;cases q with
 |cons q1 q2=>cases q2 with
  |cons q2 q3=>
   cases q3;obtain⟨p,rfl,pp⟩:=q1;cases q2;obtain⟨_,n,e⟩:=hp p pp;refine⟨p,n,f,rfl,e,f0,f1,λr m r0 r1=>k _ (hR r r0 r1) _ _ ⟨λb o nb eb=>?_,λz hz=>?_⟩ (.int _) λ_=>Ym⟩
   ·rw[JU (λz=>nb (by rw[z];exact pp))];exact eb
   ·by_cases y:z=p
    ·rw[y];exact⟨m,JB⟩
    ·obtain⟨_,n',e'⟩:=hp z hz;exact⟨n',by rw[JU y];exact e'⟩
def Qxy:DF:=λargs R _=>∃c,args=[.v (.int c)]/\∀n,R (.list [.int n])
theorem Qxx{vs:List V}{H:Hp}{Q:VK}{Ex:XK}(h:Zq true Qxy vs H Q Ex):Quh vs H Q Ex:=by
 obtain⟨A,pt,args,R,EX,dm,hp,q,⟨c,rfl,hR⟩,k,_⟩:=h;cases q with
 |cons q1 q2=>
  cases q2;cases q1;refine⟨c,rfl,λp n hn=>k _ (hR n) _ _ ⟨λb o _ eb=>JW hn b o eb,λz hz=>?_⟩ (.lst (λz=>?_) JB (.cons (.int _) .nil)) λ_=>Qbb hn⟩
  ·obtain⟨_,n',e'⟩:=hp z hz;exact⟨n',JW hn _ _ e'⟩
  ·obtain⟨xs,e⟩:=dm p z;rw[hn] at e;cases e
def isW:Qb->Bool
 |.int _=>true
 |_=>false
def QdV:DF:=λargs R _=>∃d,args=[.v d]/\R (.bool (isW d))
theorem QkR{K:PySem.W.Frag}{F:Fm}{σ:L2.St}{H:Hp}{δ:Sts}(r:Rel K F σ H δ){a:Addr}{xs:List V}(h:SqL K F.H0 a xs)(n:¬F.pt a):SqL K H a xs:=by
 rcases h with h | h
 ·rcases h with h | ⟨o,h⟩
  ·exact .inl (.inl (r.kx _ _ n h))
  ·exact .inl (.inr ⟨o,r.kx _ _ n h⟩)
 ·exact .inr h
def Qtd(i:Nat):DE:=λδ Q _=>match δ[i]? with
 |some .scr=>∀n:Nat,n<=63->Q (.int n)
 |_=>False
theorem Qsm{i:Nat}{a:Q5}(hg:Gl X "len")(hm:X.mg "len" = none)(h:PE X a (Qix i))(hs:notStar a=true:=by rfl):PE X (.Call (.Name "len" p) [a] [] pos) (tX .F X.K E (Qtd i)):=by
 refine PE.imp (Qa9 QbD hg hm YV (Qd3 h Z5 hs) (he:=by rw[YB hs])) λσ H Q ⟨F,δ,R,EX,rel,hw,k,o⟩=>?_
 unfold Qtd at hw;split at hw
 ·rename_i hd
  obtain⟨x,hx⟩:=rel.lt hd;obtain⟨l,ns,rfl,sq,np,n63⟩:=rel.sl i _ _ hx hd;refine⟨_,hx,l,_,rfl,.inl (QkR rel sq np),?_⟩;rw[Qd];exact k _ (hw _ n63) _ H rel (Kp.refl rel) ⟨.int _,Ym⟩
 ·exact hw.elim
def Qte(i:Nat)(wb:DE):DE:=λδ Q EX=>match δ[i]? with
 |some .scr=>wb δ (λd=>match d with
  |.int k=>0<=k/\∀c,Q (.int c)
  |_=>False) EX
 |_=>False
theorem Qsp{i:Nat}{a b:Q5}{wb:DE}(G:FnOk X.prog X.w X.K X.mg X.base CX0 k f fd ps (Qcs X.K))(hr:Room k X.A)(hg:Gl X x)(hm:X.mg x=some (.ref f))(hk:PySem.W.keepIn X.K (.ref f)=true)(hb:Binds X.K fd ps [])
  (ha:PE X a (Qix i))(h:PE X b (tX .P X.K E wb))(h1:notStar a=true:=by rfl)(h2:notStar b=true:=by rfl)(hdb:(x == ("__debug__" : Str))=false:=by decide) :
  PE X (.Call (.Name x p) [a,b] [] pos) (tX .F X.K E (Qte i wb)):=by
 refine PE.imp (QhJ (E:=E) G hr hg hm hk hb .nil ZJ (Qd3 ha (Qd3 h Z5 h2) h1) hdb (YB h1) (by rw[YB h2];rfl)) λσ H Q ⟨F,δ,R,EX,rel,hw,k,o⟩=>?_
 unfold Qte at hw;split at hw
 ·rename_i hd
  obtain⟨x,hx⟩:=rel.lt hd;obtain⟨l,ns,rfl,sq,np,n63⟩:=rel.sl i _ _ hx hd;refine⟨_,hx,F,δ,_,EX,rel,hw,λd hd2 v H' rel' kp vk=>?_,o⟩;cases d<;>first | exact(show False from hd2).elim | skip
  rw[DP.int vk];exact⟨l,ns,_,rfl,QkR rel' sq np,QdP n63 (by decide),hd2.1,λc=>k _ (hd2.2 c) _ H' rel' kp ⟨.int _,Ym⟩⟩
 ·exact hw.elim
end
section
variable{P:QB}{w:Ji}{K:PySem.W.Frag}{mg:Str->Option Value}{base:Heap}
def QeH(K:PySem.W.Frag):Sp:=λvs H Q _=>∃(a:Addr)(ns:List Int),vs=[.ref a]/\SqL K H a (ns.map V.int)/\ns.length<=63/\∀H',Q (.bl true) H'
def QvN:Qeo:=⟨λ_=>False,λd=>d=.bool true,λd=>d=.bool true,λ_=>False,λ_=>False,XF⟩
theorem QxO{x qual:Str}{st:Yn}{f:Addr}{fd:QR}{N:List Str}{p:Str}{k:Nat}(F:Fun K x qual st f fd)(S:JH N [p] (Qx st))
  (hbody:∀(cdv:Value)(A:Q3)(outer:List Env)(s:Shared)(H:Hp)(E:XK),Room k (A.deeper (envOfC qual (Qx st) s.heap.objs.size f cdv)) ->
   ∃wd,PSs (Qm7 CX0 P w K mg base N qual (Qx st) f cdv A outer s H E).nox (Jz st) (tS K E0 wd)/\wd QvN (stD N [.scr])):FnOk P w K mg base CX0 (k+1) f fd [p] (QeH K):=by
 refine F.ok S (λvs H Q E h=>?_) λcdv A outer s H vs Q E hr h=>?_
 ·obtain⟨a,ns,rfl,_⟩:=h;rfl
 ·obtain⟨wd,hp,hw⟩:=hbody cdv A outer s H E hr;obtain⟨a,ns,rfl,sq,n63,k⟩:=h;have get0:∀(i:Nat) o y,(L2.start N [V.ref a])[i]? = some o->(stD N [.scr])[i]? = some y->y≠.no->o=some (.ref a)/\y=.scr:=λi o y h1 h2 hy=>by
   cases i with
   |zero=>cases h1;cases h2;exact⟨rfl,rfl⟩
   |succ i=>
    unfold stD at h2;rw[JF (by simp),Z2] at h2;split at h2
    ·exact absurd (Qs h2).symm hy
    ·cases h2
  have noav:∀b,¬Av (⟨H,λ_=>False,λ_=>False⟩:Fm) (L2.start N [V.ref a]) (stD N [.scr]) b:=λb z=>by
   rcases z with z | ⟨i,h1,h2⟩
   ·exact z
   ·rcases h2 with h2 | ⟨ds,h2⟩
    ·cases(get0 i _ _ h1 h2 (λz=>by cases z)).2
    ·cases(get0 i _ _ h1 h2 (λz=>by cases z)).2
  refine⟨_,hp,⟨H,λ_=>False,λ_=>False⟩,_,_,?_,hw,?_⟩
  ·exact{
    len:=by unfold L2.start stD;simp
    dom:=λ_ h=>h.elim
    dom0:=λ_ h=>h.elim
    pt0:=λ_ h=>h.elim
    kx:=λ_ _ _ e=>e
    sl:=λi o y h1 h2=>by
     cases y with
     |no=>trivial
     |scr=>
      obtain⟨rfl,_⟩:=get0 i _ _ h1 h2 (λz=>by cases z);exact⟨a,ns,rfl,sq,λz=>z,n63⟩
     |v d=>cases(get0 i _ _ h1 h2 (λz=>by cases z)).2
     |own d=>cases(get0 i _ _ h1 h2 (λz=>by cases z)).2
     |pk d=>cases(get0 i _ _ h1 h2 (λz=>by cases z)).2
     |pot=>cases(get0 i _ _ h1 h2 (λz=>by cases z)).2
    inj:=λi j b ds h1 h2 _=>by cases(get0 i _ _ h2 h1 (λz=>by cases z)).2 }
  ·exact{
    nx:=⟨λ_ h=>h.elim⟩
    rt:=λd h v H' ke dv=>by cases(show d=.bool true from h);cases dv;exact k H'
    rtF:=λd h v H' ke dv _=>by cases(show d=.bool true from h);cases dv;exact k H'
    bk:=⟨λ_ h=>h.elim⟩
    ct:=⟨λ_ h=>h.elim⟩
    ex:=Qww }
end
theorem Qwf{α:Type}{p:α->Prop}:∀x∈([]:List α),p x:=λ_ h=>nomatch h
theorem QaR{α:Type}{p:α->Prop}{a:α}{l:List α}(h:p a)(t:∀x∈l,p x):∀x∈a::l,p x:=λx hx=>by
 rcases Qy.mp hx with z | z
 ·rw[z];exact h
 ·exact t x z
theorem QpT{b c:Bool}{R:Qb->Prop}(h:R (.bool (b&&c))):if b=true then R (.bool c) else R (.bool false):=by
 cases b
 ·exact Qzt h
 ·exact QyM h
theorem ifF{c:Bool}{A B:Prop}(h:c=false)(k:B):if c=true then A else B:=by subst h;exact k
theorem ifT{c:Bool}{A B:Prop}(h:c=true)(k:A):if c=true then A else B:=by subst h;exact k
theorem ifC{c:Bool}{A B:Prop}(t:c=true->A)(f:c=false->B):if c=true then A else B:=by
 cases c
 ·exact f rfl
 ·exact t rfl
theorem all_map{α:Type}(l:List α)(g:α->Bool):(l.map g).all id=l.all g:=by
 rw[Qkk];rfl
theorem Qdc{ds:List Qb}{Q:Qb->Prop}{g:Qb->Bool}{items:List Qb}(h:ds=[.list (items.map λd=>.bool (g d))])(q:Q (.bool (items.all g))):QwA ds Q:=by
 subst h;unfold QwA;refine⟨items.map g,?_,by rw[all_map];exact q⟩;rw[show items.map (λd=>Qbp (g d))=(items.map g).map Qbp by rw[QP];rfl,QmL]
theorem Qrp{ds:List Qb}{Q:Qb->Prop}(ns:List Int)(h:ds=[.list (ns.map Qe)])(q:Q (.int ns.sum)):Qwt ds Q:=by
 subst h;unfold Qwt;exact⟨ns,ints_map ns,q⟩
end Dl
namespace L2
section
variable{X:Cx}
end
end L2
namespace Dl
open L2 _root_.Rd Rk
section
variable{X:Cx}{E:XK}
variable{e:Q5}{w:DE}{p p2 pos pos2:Pos}
end
theorem Qwd{ds:List Qb}{i:Int}(h0:0<=i)(h1:i<ds.length):∃d,d∈ds/\atI ds i=some d:=by
 obtain⟨j,rfl⟩:∃j:Nat,i=j:=⟨i.toNat,by omega⟩
 have hj:j<ds.length:=by omega
 exact⟨ds[j],Z9 hj,Jv (Qk hj)⟩
theorem QxS{ds:List Qb}{i:Int}{Q:Qb->Prop}(h0:0<=i)(h1:i<ds.length)(q:∀d∈ds,Q d):∃d,atI ds i=some d/\Q d:=by
 obtain⟨d,hd,e⟩:=Qwd h0 h1;exact⟨d,e,q d hd⟩
structure QE (m:Md) (X:Cx) (E:XK) (e:Q5) (w:DE):Prop where h:PE X e (tX m X.K E w)
structure QT (X:Cx) (E:XK) (e:Q5) (w:DT):Prop where h:PT X e (tT X.K E w)
structure QW (X:Cx) (E:XK) (e:Q5) (w:DT):Prop where h:PW X e (tT X.K E w)
structure QTs (X:Cx) (E:XK) (es:List Q5) (w:DT):Prop where h:PTs X es (tT X.K E w)
structure QA (n:Nat) (m:Md) (X:Cx) (E:XK) (es:List Q5) (w:DAr):Prop where h:PA X es (tAr n m X.K E w)
structure QAs (X:Cx) (E:XK) (es:List Q5) (w:DSl):Prop where h:PA X es (tAs X.K E w)
structure QO (X:Cx) (E:XK) (o:Option Q5) (w:DO):Prop where h:PO X o (tO X.K E w)
structure QG (ix:List Nat) (X:Cx) (tg:Q5) (w:DG):Prop where h:PG X tg (tG ix X.K w)
structure QI (m:Md) (X:Cx) (E:XK) (tg it:Q5) (w:DI):Prop where h:PI X tg it (tI m X.K E w)
structure QS (X:Cx) (E:XK) (st:Yn) (w:DS):Prop where h:PS X st (tS X.K E w)
structure QSs (X:Cx) (E:XK) (sts:List Yn) (w:DS):Prop where h:PSs X sts (tS X.K E w)
section
variable{X:Cx}{E:XK}
theorem Zw{e:Q5}{w:DE}(h:QE .F X E e w):QE .D X E e w:=⟨toD h.h⟩
theorem Q4{e:Q5}{w:DE}(h:QE .D X E e w):QE .P X E e w:=⟨toP h.h⟩
theorem Q6{e:Q5}{w:DE}(h:QE .F X E e w):QE .P X E e w:=⟨Qza h.h⟩
theorem qv(i:Nat){x:Str}{pos:Pos}(hN:X.N[i]? = some x:=by rfl)(hv:Vis X.env.scope x:=by first | exact Jc rfl | exact Q8 (Jc rfl) | exact Q8 (Q8 rfl))(hd:(x == ("__debug__" : Str))=false:=by decide)(hcd:(x == ("__classdict__" : Str))=false:=by decide):QE .D X E (.Name x pos) (Qyd i):=⟨QuU (pv i hN hv hd hcd)⟩
theorem qp(i:Nat){x:Str}{pos:Pos}(hN:X.N[i]? = some x:=by rfl)(hv:Vis X.env.scope x:=by first | exact Jc rfl | exact Q8 (Jc rfl) | exact Q8 (Q8 rfl))(hd:(x == ("__debug__" : Str))=false:=by decide)(hcd:(x == ("__classdict__" : Str))=false:=by decide):QE .P X E (.Name x pos) (dPk i):=⟨QxD (pv i hN hv hd hcd)⟩
theorem Jt{i:Int}{j pos}:QE .D X E (.Constant (.int i) j pos) (dC (.int i)):=⟨Qu0⟩
theorem Qkm{b:Bool}{j pos}:QE .D X E (.Constant (.bool b) j pos) (dC (.bool b)):=⟨QxH⟩
theorem Z7{a b:Q5}{wa wb:DE}{pos:Pos}{r:R2}{rD:Qb->Qb->(Qb->Prop)->Prop}{op:Qcn}(ho:OpR X (binaryOp op) r)(hd:OpD r rD)(ha:QE .P X E a wa)(hb:QE .P X E b wb):QE .F X E (.BinOp a op b pos) (dOp rD wa wb):=⟨Qu3 ho hd ha.h hb.h⟩
theorem Qfy{a b:Q5}{wa wb:DE}{pos:Pos}{r:R2}{rD:Qb->Qb->(Qb->Prop)->Prop}{op:Qp5}(ho:OpR X (compareOp op) r)(hd:OpD r rD)(ha:QE .P X E a wa)(hb:QE .P X E b wb)(hm:behindInMarks op b=false):QE .F X E (.Compare a [op] [b] pos) (dOp rD wa wb):=⟨Qu2 ho hd ha.h hb.h hm⟩
theorem QaW{a b:Q5}{wa wb:DE}{pos:Pos}{r:R2}{rD:Qb->Qb->(Qb->Prop)->Prop}{op:Qp5}(ho:OpR X (compareOp op) r)(hd:OpD r rD)(ha:QE .P X E a wa)(hb:QE .P X E b wb)(hm:behindInMarks op b=false):QT X E (.Compare a [op] [b] pos) (dTst (dOp rD wa wb)):=⟨Qr7 ho hd ha.h hb.h hm⟩
theorem Y4{a b:Q5}{wa wb:DE}{pos:Pos}{r:R2}{rD:Qb->Qb->(Qb->Prop)->Prop}(ho:IxR X r)(hd:QoZ r rD)(ha:QE .P X E a wa)(hb:QE .P X E b wb)(hs:Qin b):QE .D X E (.Subscript a b pos) (dOp rD wa wb):=⟨QxF ho hd ha.h hb.h hs⟩
theorem QuC{a:Q5}{wa:DE}{pos:Pos}(ha:QE .P X E a wa):QE .F X E (.UnaryOp .USub a pos) (dUn QyJ wa):=⟨QuY ha.h⟩
theorem Qwv{a b c:Q5}{wa wb wc:DE}{pos:Pos}{op op':Qp5}{p q:Int->Int->Bool}(ho:OpR X (compareOp op) (rI0 λi j=>.bl (p i j)))(ho':OpR X (compareOp op') (rI0 λi j=>.bl (q i j)))(ha:QE .P X E a wa)(hb:QE .P X E b wb)(hc:QE .P X E c wc)(hm:lastMarks [op,op'] [b,c]=false:=by with_unfolding_all rfl):QE .F X E (.Compare a [op,op'] [b,c] pos) (dCh p q wa wb wc):=⟨QxG ho ho' ha.h hb.h hc.h hm⟩
theorem Qlc{e:Q5}{w:DE}(h:QE .P X E e w)(he:∀whole,isTrue e X.env whole=(do let v <- whole;standAt e.pos;holding [v] (truthy v)):=by intro _;rfl):QT X E e (dTru w):=⟨Qr5 h.h he⟩
theorem Y9{e:Q5}{w:DE}(h:QE .P X E e w)(he:∀whole,isTrue e X.env whole=(do let v <- whole;standAt e.pos;holding [v] (truthy v)):=by intro _;rfl):QT X E e (dTst w):=⟨Qr4 h.h he⟩
theorem QrJ{a:Q5}{pos:Pos}{ta:DT}(ha:QT X E a ta):QW X E (.BoolOp .And [a] pos) ta:=⟨QnS ha.h⟩
theorem Quz{a b:Q5}{rest:List Q5}{pos:Pos}{ta tb:DT}(ha:QT X E a ta)(hb:QW X E (.BoolOp .And (b::rest) pos) tb):QW X E (.BoolOp .And (a::b::rest) pos) (Qy2 ta tb):=⟨Qr3 ha.h hb.h⟩
theorem Qlk{a b:Q5}{rest:List Q5}{pos:Pos}{wa wb:DE}(ha:QE .P X E a wa)(hb:QE .D X E (.BoolOp .And (b::rest) pos) wb):QE .D X E (.BoolOp .And (a::b::rest) pos) (Qv5 wa wb):=⟨Qu4 ha.h hb.h⟩
theorem Qcu{a:Q5}{pos:Pos}{ta:DT}(ha:QT X E a ta):QW X E (.BoolOp .Or [a] pos) ta:=⟨Qr2 ha.h⟩
theorem Qdu{a b:Q5}{rest:List Q5}{pos:Pos}{ta tb:DT}(ha:QT X E a ta)(hb:QW X E (.BoolOp .Or (b::rest) pos) tb):QW X E (.BoolOp .Or (a::b::rest) pos) (dOr ta tb):=⟨QuS ha.h hb.h⟩
theorem Qzm{a b:Q5}{rest:List Q5}{pos:Pos}{wa wb:DE}(ha:QE .P X E a wa)(hb:QE .D X E (.BoolOp .Or (b::rest) pos) wb):QE .D X E (.BoolOp .Or (a::b::rest) pos) (QyT wa wb):=⟨QxE ha.h hb.h⟩
theorem Qm6{e:Q5}{t:DT}(h:QW X E e t):QT X E e t:=⟨PW.pt h.h⟩
theorem YU{a:Q5}{pos:Pos}{ta:DT}(ha:QT X E a ta):QT X E (.UnaryOp .Not a pos) (QyU ta):=⟨Qr6 ha.h⟩
theorem QjM{op}{a:Q5}{pos:Pos}{w:DE}(h:QE .D X E a w):QE .D X E (.BoolOp op [a] pos) w:=⟨QuW h.h⟩
theorem QuB{a:Q5}{pos:Pos}{wa:DE}(ha:QE .P X E a wa):QE .D X E (.UnaryOp .Not a pos) (Qv1 wa):=⟨QuX ha.h⟩
theorem Qxv{c a b:Q5}{pos:Pos}{ta:DT}{wa wb:DE}(hc:QT X E c ta)(ha:QE .D X E a wa)(hb:QE .D X E b wb):QE .D X E (.IfExp c a b pos) (QyZ ta wa wb):=⟨Qu1 hc.h ha.h hb.h⟩
theorem JG{m:Md}:QA 0 m X E [] QyV:=⟨Qsk⟩
theorem QcJ{n:Nat}{e:Q5}{es:List Q5}{we:DE}{wr:DAr}(he:QE .D X E e we)(hr:QA n .D X E es wr)(hs:notStar e=true:=by rfl):QA (n+1) .D X E (e::es) (Qmt we wr):=⟨Qlw he.h hr.h hs⟩
theorem QbS{n:Nat}{e:Q5}{es:List Q5}{we:DE}{wr:DAr}(he:QE .P X E e we)(hr:QA n .P X E es wr)(hs:notStar e=true:=by rfl):QA (n+1) .P X E (e::es) (Qmt we wr):=⟨Qlv he.h hr.h hs⟩
theorem Qdv{n:Nat}{es:List Q5}{w:DAr}{x1}{pos:Pos}(h:QA n .D X E es w)(hn:n<=1000:=by decide):QE .F X E (.Tuple es x1 pos) (QyP w):=⟨QuV h.h hn⟩
theorem Qgu{n:Nat}{es:List Q5}{w:DAr}{pos:Pos}(h:QA n .D X E es w)(hn:n<=1000:=by decide):QE .F X E (.List es pos) (QyW w):=⟨QuZ h.h hn⟩
theorem Zc{x:Str}{bid:String}{p pos:Pos}{e:Q5}{es:List Q5}{n:Nat}{wr:DAr}{r:List V->Hp->VK->Prop}{rD:List Qb->(Qb->Prop)->Prop}(hc:CallR X (.builtin bid) r)(hd:Qca r rD)(hg:Gl X x)(hm:X.mg x=none)(hv:bootBuiltins x=some (.builtin bid))(ha:QA n .P X E (e::es) wr)(hn:x ≠ "__name__" := by decide)(hdb:(x == ("__debug__" : Str))=false:=by decide)(he:starEach (e::es) X.env=(false,eval e X.env)::starEach es X.env:=by rfl)(hpl:(backTo pos (starEach es X.env)).any (·.1)=false:=by rfl):QE .F X E (.Call (.Name x p) (e::es) [] pos) (dCB rD wr):=⟨Qoa hc hd hg hm hv ha.h hn hdb he hpl⟩
theorem QdJ{x:Str}{T:String}{p pos:Pos}{e:Q5}{es:List Q5}{n:Nat}{wr:DAr}{r:List V->Hp->VK->Prop}{rD:List Qb->(Qb->Prop)->Prop}(hc:CallR X (.type T) r)(hd:Qca r rD)(hg:Gl X x)(hm:X.mg x=none)(hv:bootBuiltins x=some (.type T))(ha:QA n .P X E (e::es) wr)(hn:x ≠ "__name__" := by decide)(hdb:(x == ("__debug__" : Str))=false:=by decide)(he:starEach (e::es) X.env=(false,eval e X.env)::starEach es X.env:=by rfl)(hpl:(backTo pos (starEach es X.env)).any (·.1)=false:=by rfl):QE .F X E (.Call (.Name x p) (e::es) [] pos) (dCB rD wr):=⟨Qly hc hd hg hm hv ha.h hn hdb he hpl⟩
theorem Qcw{e:Q5}{we:DE}{p pos pos2:Pos}{x:Str}(tn:Tn)(hg:Gl X "isinstance")(hm:X.mg "isinstance" = none)(he:QE .P X E e we)(hg2:Gl X x)(hm2:X.mg x=none)(hv:bootBuiltins x=some (.type tn.s))(hn:x ≠ "__name__" := by decide)(hd:(x == ("__debug__" : Str))=false:=by decide)(h1:notStar e=true:=by rfl):QE .F X E (.Call (.Name "isinstance" p) [e,.Name x pos2] [] pos) (Qv3 tn we):=⟨Qsn tn hg hm he.h (QxI tn hg2 hm2 hv hn hd) h1 rfl⟩
theorem Qlg  : QO X E none dNo:=⟨Qn4⟩
theorem Qlf{e:Q5}{we:DE}(he:QE .P X E e we):QO X E (some e) (dSo we):=⟨Qn3 he.h⟩
theorem Qlj{e:Q5}{lo hi:Option Q5}{we:DE}{wl wh:DO}{p2 pos:Pos}(he:QE .P X E e we)(hl:QO X E lo wl)(hh:QO X E hi wh):QE .F X E (.Subscript e (.Slice lo hi none p2) pos) (dSl we wl wh):=⟨Qn8 he.h hl.h hh.h⟩
theorem JV  : QAs X E [] Qyw:=⟨Qsc⟩
theorem Yr{e:Q5}{es:List Q5}{we:DE}{wr:DSl}(he:QE .D X E e we)(hr:QAs X E es wr)(hs:notStar e=true:=by rfl):QAs X E (e::es) (sV we wr):=⟨QxC he.h hr.h hs⟩
theorem QeN(i:Nat){x:Str}{pos:Pos}{es:List Q5}{wr:DSl}(hr:QAs X E es wr)(hN:X.N[i]? = some x:=by rfl)(hv:Vis X.env.scope x:=by first | exact Jc rfl | exact Q8 (Jc rfl) | exact Q8 (Q8 rfl))(hd:(x == ("__debug__" : Str))=false:=by decide)(hcd:(x == ("__classdict__" : Str))=false:=by decide):QAs X E (.Name x pos::es) (Qxo i wr):=⟨Qsa (pv i hN hv hd hcd) hr.h rfl⟩
theorem Zx{CX:CXT}{k:Nat}{f:Addr}{fd:QR}{ps:List Str}{x:Str}{p pos:Pos}{e:Q5}{es:List Q5}{fD:DF}{wa:DSl}(G:FnOk X.prog X.w X.K X.mg X.base CX k f fd ps (Zq false fD))(hr:Room k X.A)(hg:Gl X x)(hm:X.mg x=some (.ref f))(hk:PySem.W.keepIn X.K (.ref f)=true)(hb:Binds X.K fd ps [])(hx:Qen CX X E)(ha:QAs X E (e::es) wa)(hdb:(x == ("__debug__" : Str))=false:=by decide)(he:starEach (e::es) X.env=(false,eval e X.env)::starEach es X.env:=by rfl)(hpl:(backTo pos (starEach es X.env)).any (·.1)=false:=by rfl):QE .D X E (.Call (.Name x p) (e::es) [] pos) (Qmu fD wa):=⟨Qsq G hr hg hm hk hb hx ha.h hdb he hpl⟩
theorem QaP{CX:CXT}{k:Nat}{f:Addr}{fd:QR}{ps:List Str}{x:Str}{p pos:Pos}{e:Q5}{es:List Q5}{fD:DF}{wa:DSl}(G:FnOk X.prog X.w X.K X.mg X.base CX k f fd ps (Zq true fD))(hr:Room k X.A)(hg:Gl X x)(hm:X.mg x=some (.ref f))(hk:PySem.W.keepIn X.K (.ref f)=true)(hb:Binds X.K fd ps [])(hx:Qen CX X E)(ha:QAs X E (e::es) wa)(hdb:(x == ("__debug__" : Str))=false:=by decide)(he:starEach (e::es) X.env=(false,eval e X.env)::starEach es X.env:=by rfl)(hpl:(backTo pos (starEach es X.env)).any (·.1)=false:=by rfl):QE .F X E (.Call (.Name x p) (e::es) [] pos) (Qmu fD wa):=⟨Qn9 G hr hg hm hk hb hx ha.h hdb he hpl⟩
theorem QuF{k:Nat}{f:Addr}{fd:QR}{ps:List Str}{x y:Str}{p pos pos2:Pos}{b:Q5}{wb:DE}(i:Nat)(G:FnOk X.prog X.w X.K X.mg X.base CX0 k f fd ps (Qcs X.K))(hr:Room k X.A)(hg:Gl X x)(hm:X.mg x=some (.ref f))(hk:PySem.W.keepIn X.K (.ref f)=true)(hb:Binds X.K fd ps [])(h:QE .P X E b wb)(hN:X.N[i]? = some y:=by rfl)(hv:Vis X.env.scope y:=by first | exact Jc rfl | exact Q8 (Jc rfl) | exact Q8 (Q8 rfl))(hd:(y == ("__debug__" : Str))=false:=by decide)(hcd:(y == ("__classdict__" : Str))=false:=by decide)(h2:notStar b=true:=by rfl)(hdb:(x == ("__debug__" : Str))=false:=by decide):QE .F X E (.Call (.Name x p) [.Name y pos2,b] [] pos) (Qte i wb):=⟨Qsp G hr hg hm hk hb (pv i hN hv hd hcd) h.h rfl h2 hdb⟩
theorem QuE{y:Str}{p pos pos2:Pos}(i:Nat)(hg:Gl X "len")(hm:X.mg "len" = none)(hN:X.N[i]? = some y:=by rfl)(hv:Vis X.env.scope y:=by first | exact Jc rfl | exact Q8 (Jc rfl) | exact Q8 (Q8 rfl))(hd:(y == ("__debug__" : Str))=false:=by decide)(hcd:(y == ("__classdict__" : Str))=false:=by decide):QE .F X E (.Call (.Name "len" p) [.Name y pos2] [] pos) (Qtd i):=⟨Qsm hg hm (pv i hN hv hd hcd) rfl⟩
theorem ZT(i:Nat){x:Str}{pos:Pos}(hN:X.N.Nodup)(hi:X.N[i]? = some x)(hx:Loc X.env.scope x)(hf:X.fn x=true∨X.env.scope.names.lookup x=some .local:=by first | exact .inl rfl | exact .inr rfl | assumption):QG [i] X (.Name x pos) (gN i):=⟨Qn7 (Qd2 hN hi hx hf)⟩
structure QGs (X:Cx) (es:List Q5) (is:List Nat):Prop where h:PGs X es (gNs is)
theorem Qbi  : QGs X [] []:=⟨Qlp⟩
theorem Zb(i:Nat){is:List Nat}{x:Str}{pos:Pos}{es:List Q5}(h:QGs X es is)(hN:X.N.Nodup)(hi:X.N[i]? = some x)(hx:Loc X.env.scope x)(hf:X.fn x=true∨X.env.scope.names.lookup x=some .local:=by first | exact .inl rfl | exact .inr rfl | assumption)(hs:(assignEach (.Name x pos::es) X.env).map (·.2)=assign (.Name x pos) X.env::(assignEach es X.env).map (·.2):=by rfl):QGs X (.Name x pos::es) (i::is):=⟨QfB (Qd2 hN hi hx hf) h.h hs⟩
theorem Qbh{es:List Q5}{k:Nat}{pos:Pos}{is:List Nat}(hc:X.calm=true)(h:QGs X es is)(hn:(assignEach es X.env).length=is.length:=by rfl)(hst:(assignEach es X.env).findIdx? (·.1)=none:=by rfl):QG is X (.Tuple es k pos) (gTN is):=⟨Qsj (Qpp hc h.h hn hst) rfl⟩
theorem Qfx{m:Md}{tg e:Q5}{w:DE}(h:QE m X E e w):QI m X E tg e (QyY w):=⟨Qn6 h.h⟩
theorem Qbx{m:Md}{tg e:Q5}{w:DE}(h:QE m X E e w):QI m X E tg e (QyX w):=⟨Qsi h.h⟩
theorem Qa7{m:Md}{tg e:Q5}{w:DE}{p pos:Pos}(hg:Gl X "range")(hm:X.mg "range" = none)(h:QE .P X E e w)(hs:notStar e=true:=by rfl):QI m X E tg (.Call (.Name "range" p) [e] [] pos) (QvZ w):=⟨Qn5 hg hm h.h hs⟩
theorem QiJ{m:Md}{e:Q5}{w:DE}{p pos tpos:Pos}{elts:List Q5}{x1}(hg:Gl X "enumerate")(hm:X.mg "enumerate" = none)(h:QE m X E e w)(hs:notStar e=true:=by rfl):QI m X E (.Tuple elts x1 tpos) (.Call (.Name "enumerate" p) [e] [] pos) (Qy0 w):=⟨Qlu hg hm h.h hs⟩
theorem YO  : QTs X E [] Qwz:=⟨QnU⟩
theorem Qd1{c:Q5}{t:DT}(h:QT X E c t):QTs X E [c] t:=⟨QnT h.h⟩
theorem YQ(M:List Str)(cap:List (Option Nat)){elt tg iter:Q5}{ifs:List Q5}{scope:QaM}{pos:Pos}{ix:List Nat}{wi:DI}{wg:DG}{wt:DT}{we:DE}(hi:QI .P X E tg iter wi)(hb:∀cl ex s3 H3 C,QG ix (blk X M scope cl ex s3 H3 C) tg wg/\QTs (blk X M scope cl ex s3 H3 C) E0 ifs wt/\QE .D (blk X M scope cl ex s3 H3 C) E0 elt we)(hc:X.calm=true:=by rfl)(ok:Qj9 X.N X.env.scope M scope cap=true:=by rfl)(hf:QoB cap ix=true:=by rfl)(hs:∀x,foldedSetIterable iter X.env x=pure x:=by intro _;rfl):QE .F X E (.ListComp elt [⟨tg,iter,ifs,0⟩] scope pos) (dComp cap wi wg wt we):=⟨Qso hc ok hf hi.h (λcl ex s3 H3 C=>⟨(hb cl ex s3 H3 C).1.h,(hb cl ex s3 H3 C).2.1.h,(hb cl ex s3 H3 C).2.2.h⟩) hs⟩
theorem YY  : QSs X E [] QvW:=⟨QnV⟩
theorem Jo{st:Yn}{w:DS}(h:QS X E st w):QSs X E [st] w:=⟨Qsb h.h⟩
theorem Q2{st:Yn}{rest:List Yn}{w w':DS}(h:QS X E st w)(h':QSs X E rest w'):QSs X E (st::rest) (QyR w w'):=⟨Qn1 h.h h'.h⟩
theorem Qgt{sts:List Yn}:QSs X E sts (λ_ _=>False):=⟨Qlt⟩
theorem ZR(i:Nat){x:Str}{e:Q5}{pos pos':Pos}{we:DE}(he:QE .D X E e we)(hN:X.N.Nodup)(hi:X.N[i]? = some x:=by rfl)(hx:Loc X.env.scope x:=by first | exact Jc rfl | exact Q8 rfl)(hs:swapsWith e (some (.Name x pos')) pos.line X.env=pure false:=by rfl)(hf:X.fn x=true∨X.env.scope.names.lookup x=some .local:=by first | exact .inl rfl | exact .inr rfl | assumption):QS X E (.Assign [.Name x pos'] e pos) (QyQ i we):=⟨Qr8 (Qdh hN hi hx he.h hs hf)⟩
theorem Qfw(i:Nat){x:Str}{e:Q5}{pos pos':Pos}{we:DE}(he:QE .F X E e we)(hN:X.N.Nodup)(hi:X.N[i]? = some x:=by rfl)(hx:Loc X.env.scope x:=by first | exact Jc rfl | exact Q8 rfl)(hs:swapsWith e (some (.Name x pos')) pos.line X.env=pure false:=by rfl)(hf:X.fn x=true∨X.env.scope.names.lookup x=some .local:=by first | exact .inl rfl | exact .inr rfl | assumption):QS X E (.Assign [.Name x pos'] e pos) (QvY i we):=⟨QnX (Qdh hN hi hx he.h hs hf)⟩
theorem QrK(i:Nat){x:Str}{e:Q5}{pos pos':Pos}{we:DE}(he:QE .F X E e we)(hN:X.N.Nodup)(hi:X.N[i]? = some x:=by rfl)(hx:Loc X.env.scope x:=by first | exact Jc rfl | exact Q8 rfl)(hs:swapsWith e (some (.Name x pos')) pos.line X.env=pure false:=by rfl)(hf:X.fn x=true∨X.env.scope.names.lookup x=some .local:=by first | exact .inl rfl | exact .inr rfl | assumption):QS X E (.Assign [.Name x pos'] e pos) (QvX i we):=⟨QnW (Qdh hN hi hx he.h hs hf)⟩
theorem Qle{tg e:Q5}{pos:Pos}{ix:List Nat}{we:DE}{wg:DG}(he:QE .D X E e we)(hg:QG ix X tg wg)(hs:swapsWithSole [tg] e pos.line X.env=pure false:=by rfl)(hw:swappedStores [tg] e X.env=pure none:=by rfl)(h1:(assignEach [tg] X.env).map (·.2)=[assign tg X.env]:=by rfl):QS X E (.Assign [tg] e pos) (Qy1 we wg):=⟨Qsg (Qpl he.h hg.h hs hw h1)⟩
theorem YF{e:Q5}{pos:Pos}{we:DE}(h:QE .D X E e we):QS X E (.Return (some e) pos) (QyS we):=⟨Qr9 h.h⟩
theorem Qae{e:Q5}{pos:Pos}{we:DE}(h:QE .F X E e we):QS X E (.Return (some e) pos) (Qv0 we):=⟨QnZ h.h⟩
theorem Qld(i:Nat){x:Str}{pos pos2:Pos}(hN:X.N[i]? = some x:=by rfl)(hv:Vis X.env.scope x:=by first | exact Jc rfl | exact Q8 (Jc rfl) | exact Q8 (Q8 rfl))(hd:(x == ("__debug__" : Str))=false:=by decide)(hcd:(x == ("__classdict__" : Str))=false:=by decide):QS X E (.Return (some (.Name x pos)) pos2) (Qtc i):=⟨QnY (pv i hN hv hd hcd)⟩
theorem QcZ{c:Q5}{a b:List Yn}{pos:Pos}{t:DT}{w w':DS}(hc:QT X E c t)(ha:QSs X E a w)(hb:QSs X E b w'):QS X E (.If c a b pos) (dIf t w w'):=⟨QuT hc.h ha.h hb.h⟩
theorem Qpi(i:Nat){x:Str}{e:Q5}{we:DE}{op:Qcn}{ti:TIp}{rD:Qb->Qb->(Qb->Prop)->Prop}{pos pos':Pos}(ho:PIp X op ti)(hd:QoZ ti rD)(he:QE .P X E e we)(hN:X.N.Nodup)(hi:X.N[i]? = some x:=by rfl)(hx:Loc X.env.scope x:=by first | exact Jc rfl | exact Q8 rfl)(hf:X.fn x=true∨X.env.scope.names.lookup x=some .local:=by first | exact .inl rfl | exact .inr rfl | assumption):QS X E (.AugAssign (.Name x pos') op e pos) (Qyg i rD we):=⟨Qsf hd (QuK hN hi hx he.h (PIp.len ho) hf)⟩
theorem Qpj{y:Str}{e:Q5}{we:DE}{apos cpos pos npos:Pos}(i:Nat)(he:QE .D X E e we)(hN:X.N[i]? = some y:=by rfl)(hv:Vis X.env.scope y:=by first | exact Jc rfl | exact Q8 (Jc rfl) | exact Q8 (Q8 rfl))(hd:(y == ("__debug__" : Str))=false:=by decide)(hcd:(y == ("__classdict__" : Str))=false:=by decide)(hst:notStar e=true:=by rfl)(hbase:attributeBase (.Name y npos) "append" X.env (eval (.Name y npos) X.env)=eval (.Name y npos) X.env:=by rfl)(hfew:((backTo cpos (starEach [e] X.env)).all (λx => !x.1)&&(backToKw cpos (keywordEach [] X.env)).all (λx=>x.1.isSome)&&decide ([e].length+([]:List Qjw).length+(if([]:List Qjw).isEmpty then 0 else 1)<30))=true:=by rfl)(hline:(apos.endLine == cpos.line)=true:=by rfl)(hsw:swapsWith (.Call (.Attribute (.Name y npos) "append" apos) [e] [] cpos) none pos.line X.env=pure false:=by rfl):QS X E (.Expr (.Call (.Attribute (.Name y npos) "append" apos) [e] [] cpos) pos) (Qyh i we):=⟨Qsh (QhI (QuQ PySem.F.plainAttrs_list PySem.F.slot_list_append PySem.F.type_list_append QgI (pv i hN hv hd hcd) (Qd3 he.h Z5 hst) hbase hfew hline (YB hst) rfl) hsw)⟩
theorem QrM{y:Str}{e k:Q5}{we wk:DE}{op:Qcn}{ti:TIp}{rD:Qb->Qb->(Qb->Prop)->Prop}{pos tpos npos:Pos}(i:Nat)(ho:PIp X op ti)(hd:QoZ ti rD)(hk:QE .P X E k wk)(he:QE .P X E e we)(hN:X.N[i]? = some y:=by rfl)(hv:Vis X.env.scope y:=by first | exact Jc rfl | exact Q8 (Jc rfl) | exact Q8 (Q8 rfl))(hdd:(y == ("__debug__" : Str))=false:=by decide)(hcd:(y == ("__classdict__" : Str))=false:=by decide)(ha:∀ov iv new,augStore k ov iv new=(do holding [new,ov,iv] (setItem ov iv new);release [new,ov,iv] [];pure .next):=by intros;rfl):QS X E (.AugAssign (.Subscript (.Name y npos) k tpos) op e pos) (Qtf i rD wk we):=⟨Qn2 hd (QrR (pv i hN hv hdd hcd) hk.h Qoz he.h (PIp.len ho) QiC ha)⟩
theorem Qcv{tg iter:Q5}{body:List Yn}{pos:Pos}{ix:List Nat}{wi:DI}{wg:DG}{wb:DS}(hp:Qfd (model X.prog X.w) X.A X.env X.xe)(hc:X.calm=true)(hi:QI .D X E tg iter wi)(hg:QG ix X tg wg)(hb:QSs X E body wb)(hs:∀x,foldedSetIterable iter X.env x=pure x:=by intro _;rfl):QS X E (.For tg iter body [] pos) (dFor wi wg wb):=⟨Qse hp hc hi.h hg.h hb.h hs⟩
theorem QrL{e:Q5}{we:DE}{pos:Pos}(he:QE .P X E e we)(hs:swapsWith e none pos.line X.env=pure false:=by rfl):QS X E (.Expr e pos) (Qv4 we):=⟨Qn0 (QhI he.h hs)⟩
end
section
variable{P:QB}{w:Ji}{K:PySem.W.Frag}{mg:Str->Option Value}{base:Heap}
theorem okQ{x qual:Str}{st:Yn}{f:Addr}{fd:QR}{N ps:List Str}{k:Nat}{fD:DF}(fr:Bool)(F:Fun K x qual st f fd)(S:JH N ps (Qx st))(len:∀args R EX,fD args R EX->args.length=ps.length)
  (hbody:∀(cdv:Value)(A:Q3)(outer:List Env)(s:Shared)(H:Hp)(E:XK),Room k (A.deeper (envOfC qual (Qx st) s.heap.objs.size f cdv)) ->
   ∃wd,QSs (Qm7 CX0 P w K mg base N qual (Qx st) f cdv A outer s H E).nox E0 (Jz st) wd/\∀args R EX,fD args R EX->wd (Qs9 fr R XF) (stD N args)):FnOk P w K mg base CX0 (k+1) f fd ps (Zq fr fD):=
 okD fr F S len λcdv A outer s H E hr=>let ⟨wd,h,q⟩:=hbody cdv A outer s H E hr;⟨wd,h.h,q⟩
theorem Qzn{x qual:Str}{st:Yn}{f:Addr}{fd:QR}{N:List Str}{p:Str}{k:Nat}(F:Fun K x qual st f fd)(S:JH N [p] (Qx st))
  (hbody:∀(cdv:Value)(A:Q3)(outer:List Env)(s:Shared)(H:Hp)(E:XK),Room k (A.deeper (envOfC qual (Qx st) s.heap.objs.size f cdv)) ->
   ∃wd,QSs (Qm7 CX0 P w K mg base N qual (Qx st) f cdv A outer s H E).nox E0 (Jz st) wd/\wd QvN (stD N [.scr])):FnOk P w K mg base CX0 (k+1) f fd [p] (QeH K):=
 QxO F S λcdv A outer s H E hr=>let ⟨wd,h,q⟩:=hbody cdv A outer s H E hr;⟨wd,h.h,q⟩
end
section
variable{K:PySem.W.Frag}{σ σ4:L2.St}{δ δ4:Sts}{cap:List (Option Nat)}{ix:List Nat}{A1:Addr->Prop}{H3 H5 H6:Hp}
end
section
variable{X:Cx}{E:XK}
end
section
variable{X:Cx}{E:XK}
end
section
open Rs PySem.W PySem.Calls
variable{X:Cx}
end
theorem QdN{A:Addr->Prop}{H:Hp}:∀ms:List Int,DAs A H (ms.map V.int) (ms.map .int)
 |[]=>.nil
 |m::ms=>.cons (.int m) (QdN ms)
end Dl
namespace Rt
def QbA:Bool->Keyed->Array Keyed->Nat->Nat->Nat->StateT JO Sem (Option Nat):=sortPriv% PySem.Builtin.gallop
theorem Qj5(lf:Bool)(kk:Keyed)(xs:Array Keyed)(b n h:Nat):QbA lf kk xs b n h=(do
 let bey (z:Nat):StateT JO Sem (Option Bool):=do
  let x <- elem' xs (b+z)
  if lf then lt' x kk else return (<- lt' kk x).map (!·)
 let mut l0:=0
 let mut o0:=1
 let mut u:=0
 let mut v:=0
 let some r0 <- bey h | return none
 if r0 then
  let mo:=n - h
  for _ in [0:n] do
   if o0≥mo then break
   let some r1 <- bey (h+o0) | return none
   if !r1 then break
   l0:=o0
   o0:=2*o0+1
  u:=h+l0+1
  v:=h+min o0 mo
 else
  let mo:=h+1
  for _ in [0:n] do
   if o0≥mo then break
   let some r1 <- bey (h - o0) | return none
   if r1 then break
   l0:=o0
   o0:=2*o0+1
  u:=h+1 - min o0 mo
  v:=h - l0
 for _ in [0:n] do
  if u≥v then break
  let m:=u+(v - u) / 2
  let some r1 <- bey m | return none
  if r1 then u:=m+1 else v:=m
 return some v):=rfl
structure Ord (c:Keyed->Keyed->Bool):Prop where
 asym:∀x y,c x y=true->c y x=false
 trans:∀x y z,c y x=false->c z y=false->c z x=false
abbrev le (c:Keyed->Keyed->Bool) (x y:Keyed):Prop:=c y x=false
section
variable{c:Keyed->Keyed->Bool}
theorem Ord.irr(o:Ord c)(x:Keyed):c x x=false:=by
 cases h:c x x with
 |false=>rfl
 |true=>rw[o.asym x x h] at h;cases h
theorem Ord.tr(o:Ord c){x y z:Keyed}(a:le c x y)(b:le c y z):le c x z:=o.trans x y z a b
theorem Ord.lt_le(o:Ord c){x y:Keyed}(a:c x y=true):le c x y:=o.asym x y a
theorem Ord.tr_lt(o:Ord c){x y z:Keyed}(a:le c x y)(b:c y z=true):c x z=true:=by
 cases h:c x z with
 |true=>rfl
 |false=>rw[show c y z=false from o.trans z x y h a] at b;cases b
end
def kx(xs:Array Keyed)(i:Nat):Keyed:=(xs[i]?).getD (ZI,ZI)
theorem QsU{xs:Array Keyed}{i:Nat}(h:i<xs.size):xs[i]? = some (kx xs i):=by
 unfold kx;rw[getElem?_pos xs i h];rfl
theorem Qh1{xs ys:Array Keyed}{i j:Nat}(h:xs[i]? = ys[j]?):kx xs i=kx ys j:=by unfold kx;rw[h]
def Sg(c:Keyed->Keyed->Bool)(xs:Array Keyed)(lo hi:Nat):Prop:=∀i j,lo<=i->i<=j->j<hi->le c (kx xs i) (kx xs j)
structure Asks (prog:QB) (w:Ji) (A:Q3) (s:Shared) (κ:Yg) (a₀:Array Keyed) (c:Keyed->Keyed->Bool):Prop where
 ord:Ord c
 lt:∀x y,x∈a₀.toList->y∈a₀.toList->∀(C:Bool->Shared->Prop)(E':Value->Shared->Prop),C (c x y) s->wpAny (model prog w) A (keyLt' κ x.1 y.1) C E' s
structure SB (κ:Yg) (a₀:Array Keyed) (st:JO):Prop where
 perm:(arrOf st).Perm a₀
 kind:kindOf st=κ
 failed:failedOf st=none
theorem SB.size{κ:Yg}{a₀:Array Keyed}{st:JO}(h:SB κ a₀ st):(arrOf st).size=a₀.size:=h.perm.size_eq
theorem SB.mem{κ:Yg}{a₀:Array Keyed}{st:JO}(h:SB κ a₀ st){p:Keyed}(e:p∈(arrOf st).toList):p∈a₀.toList:=(Yy.mp h.perm).mem_iff.mp e
theorem Qeb{xs:Array Keyed}{i:Nat}(h:i<xs.size):kx xs i∈xs.toList:=Qcq.mpr (Qjz (QsU h))
section
variable{prog:QB}{w:Ji}{A:Q3}{E:Value->Shared->Prop}{s:Shared}{a₀:Array Keyed}{κ:Yg}{c:Keyed->Keyed->Bool}
theorem Qgg{st:JO}{x y:Keyed}{Q:Option Bool->JO->Prop}(hA:Asks prog w A s κ a₀ c)(hk:kindOf st=κ)(hx:x∈a₀.toList)(hy:y∈a₀.toList)(h:Q (some (c x y)) st):wpS (model prog w) A E s (lt' x y) Q st:=by
 rw[lt'_eq];refine Qh (QbN ?_);rw[hk];refine Qh (Qdw (Qna (hA.lt x y hx hy _ _ ⟨rfl,?_⟩)));exact Qi h
theorem Q1{st:JO}{arr:Array Keyed}{i:Nat}{Q:Keyed->JO->Prop}(hi:i<arr.size)(h:Q (kx arr i) st):wpS (model prog w) A E s (elem' arr i) Q st:=by
 rw[elem'_eq,QsU hi];exact Qi h
theorem QdS{st:JO}{i j:Nat}{Q:Option Bool->JO->Prop}(hA:Asks prog w A s κ a₀ c)(hB:SB κ a₀ st)(hi:i<a₀.size)(hj:j<a₀.size)(h:Q (some (c (kx (arrOf st) i) (kx (arrOf st) j))) st):wpS (model prog w) A E s (ltAt' i j) Q st:=by
 have h1:i<(arrOf st).size:=by rw[hB.size];exact hi
 have h2:j<(arrOf st).size:=by rw[hB.size];exact hj
 rw[ltAt'_eq];refine Qh (QbN ?_);refine Qh (Q1 h1 ?_);refine Qh (Q1 h2 ?_);exact Qgg hA hB.kind (hB.mem (Qeb h1)) (hB.mem (Qeb h2)) h
def Qb8(c:Keyed->Keyed->Bool)(lf:Bool)(kk:Keyed)(xs:Array Keyed)(i:Nat):Bool:=if lf then c (kx xs i) kk else !c kk (kx xs i)
theorem QoV(o:Ord c){lf:Bool}{kk:Keyed}{xs:Array Keyed}{b n:Nat}(sg:Sg c xs b (b+n)){i j:Nat}(hij:i<=j)(hj:j<n)(h:Qb8 c lf kk xs (b+j)=true):Qb8 c lf kk xs (b+i)=true:=by
 have l:=sg (b+i) (b+j) (by omega) (by omega) (by omega);unfold Qb8 at h ⊢;cases lf with
 |true=>exact o.tr_lt l h
 |false=>
  simp only[JT,if_false,Bool.not_eq_true'] at h ⊢;exact o.tr l h
theorem Zm{st:JO}{lf:Bool}{kk:Keyed}{xs:Array Keyed}{b n hint:Nat}{Q:Option Nat->JO->Prop}(hA:Asks prog w A s κ a₀ c)(hk:kindOf st=κ)(hkey:kk∈a₀.toList)(harr:∀p∈xs.toList,p∈a₀.toList)(hb:b+n<=xs.size)(hh:hint<n)(sg:Sg c xs b (b+n))
  (h:∀k,k<=n->(∀i,i<k->Qb8 c lf kk xs (b+i)=true)->(∀i,k<=i->i<n->Qb8 c lf kk xs (b+i)=false)->Q (some k) st):wpS (model prog w) A E s (QbA lf kk xs b n hint) Q st:=by
 have bey:∀(i:Nat)(Q':Option Bool->JO->Prop),i<n->Q' (some (Qb8 c lf kk xs (b+i))) st->wpS (model prog w) A E s (do
   let x <- elem' xs (b+i)
   if lf then lt' x kk else return (<- lt' kk x).map (!·)) Q' st:=λi Q' hi hq=>by
  have hs:b+i<xs.size:=by omega
  refine Qh (Q1 hs ?_);have pm:=harr _ (Qeb hs);unfold Qb8 at hq;cases lf with
  |true=>exact Qgg hA hk pm hkey hq
  |false=>exact Qh (Qgg hA hk hkey pm (Qi hq))
 have mono:∀{i j:Nat},i<=j->j<n->Qb8 c lf kk xs (b+j)=true->Qb8 c lf kk xs (b+i)=true:=λhij hj h=>QoV hA.ord sg hij hj h
 have monoF:∀{i j:Nat},i<=j->j<n->Qb8 c lf kk xs (b+i)=false->Qb8 c lf kk xs (b+j)=false:=λ{i j} hij hj h=>by
  cases e:Qb8 c lf kk xs (b+j) with
  |false=>rfl
  |true=>rw[mono hij hj e] at h;cases h
 rw[Qj5]
 dsimp only
 refine Qh (bey hint _ hh ?_);cases hr:Qb8 c lf kk xs (b+hint) with
 |true=>
  dsimp only
  rw[if_pos rfl];refine Qh (Ye (JN (I:=λx z st'=>st'=st/\∃l o,z=(none,l,o)/\l<o/\x+1<=o/\hint+l<n/\Qb8 c lf kk xs (b+(hint+l))=true)
   (Q:=λz st'=>st'=st/\∃l o,z=(none,l,o)/\l<o/\hint+l<n/\Qb8 c lf kk xs (b+(hint+l))=true/\(hint+o<n->Qb8 c lf kk xs (b+(hint+o))=false)) ?step ?fin ⟨rfl,0,1,rfl,by omega,by omega,by omega,hr⟩) ?post)
  case fin=>
   rintro z st' ⟨rfl,l,o,rfl,h1,h2,h3,h4⟩;exact⟨rfl,l,o,rfl,h1,h3,h4,λh5=>by omega⟩
  case step=>
   rintro x z st' _ hx ⟨rfl,l,o,rfl,h1,h2,h3,h4⟩
   dsimp only
   by_cases g:o≥n - hint
   ·rw[if_pos g];exact Qi ⟨rfl,l,o,rfl,h1,h3,h4,λh5=>by omega⟩
   ·rw[if_neg g];refine Qh (bey (hint+o) _ (by omega) ?_);cases e:Qb8 c lf kk xs (b+(hint+o)) with
    |true=>exact Qi ⟨rfl,o,2*o+1,rfl,by omega,by omega,by omega,e⟩
    |false=>exact Qi ⟨rfl,l,o,rfl,h1,h3,h4,λ_=>e⟩
  case post=>
   rintro z st' ⟨rfl,l,o,rfl,h1,h3,h4,h5⟩
   dsimp only
   refine Qh (Ye (JN (I:=λx z st''=>st''=st'/\∃u v,z=(none,u,v)/\v<=n/\u<=v/\v - u<=n - x/\(∀i,i<u->Qb8 c lf kk xs (b+i)=true)/\(∀i,v<=i->i<n->Qb8 c lf kk xs (b+i)=false))
    (Q:=λz st''=>st''=st'/\∃v,z=(none,v,v)/\v<=n/\(∀i,i<v->Qb8 c lf kk xs (b+i)=true)/\(∀i,v<=i->i<n->Qb8 c lf kk xs (b+i)=false)) ?step2 ?fin2 ?init2) ?post2)
   case init2=>
    refine⟨rfl,_,_,rfl,by omega,by omega,by omega,λi hi=>mono (by omega) h3 h4,λi hi hn=>?_⟩;exact monoF (i:=hint+o) (by omega) hn (h5 (by omega))
   case fin2=>
    rintro z st'' ⟨rfl,u,v,rfl,g1,g2,g3,g4,g5⟩;have:u=v:=by omega
    subst this;exact⟨rfl,u,rfl,g1,g4,g5⟩
   case step2=>
    rintro x z st'' _ hx ⟨rfl,u,v,rfl,g1,g2,g3,g4,g5⟩
    dsimp only
    by_cases g:u≥v
    ·rw[if_pos g];have:u=v:=by omega
     subst this;exact Qi ⟨rfl,u,rfl,g1,g4,g5⟩
    ·rw[if_neg g];refine Qh (bey (u+(v - u) / 2) _ (by omega) ?_);cases e:Qb8 c lf kk xs (b+(u+(v - u) / 2)) with
     |true=>exact Qi ⟨rfl,_,_,rfl,g1,by omega,by omega,λi hi=>mono (by omega) (by omega) e,g5⟩
     |false=>exact Qi ⟨rfl,_,_,rfl,by omega,by omega,by omega,g4,λi hi hn=>monoF hi hn e⟩
   case post2=>
    rintro z st'' ⟨rfl,v,rfl,g1,g4,g5⟩;exact Qi (h v g1 g4 g5)
 |false=>
  dsimp only
  rw[if_neg (by decide)];refine Qh (Ye (JN (I:=λx z st'=>st'=st/\∃l o,z=(none,l,o)/\l<o/\x+1<=o/\l<=hint/\Qb8 c lf kk xs (b+(hint - l))=false)
   (Q:=λz st'=>st'=st/\∃l o,z=(none,l,o)/\l<o/\l<=hint/\Qb8 c lf kk xs (b+(hint - l))=false/\(o<=hint->Qb8 c lf kk xs (b+(hint - o))=true)) ?step ?fin ⟨rfl,0,1,rfl,by omega,by omega,by omega,hr⟩) ?post)
  case fin=>
   rintro z st' ⟨rfl,l,o,rfl,h1,h2,h3,h4⟩;exact⟨rfl,l,o,rfl,h1,h3,h4,λh5=>by omega⟩
  case step=>
   rintro x z st' _ hx ⟨rfl,l,o,rfl,h1,h2,h3,h4⟩
   dsimp only
   by_cases g:o≥hint+1
   ·rw[if_pos g];exact Qi ⟨rfl,l,o,rfl,h1,h3,h4,λh5=>by omega⟩
   ·rw[if_neg g];refine Qh (bey (hint - o) _ (by omega) ?_);cases e:Qb8 c lf kk xs (b+(hint - o)) with
    |false=>exact Qi ⟨rfl,o,2*o+1,rfl,by omega,by omega,by omega,e⟩
    |true=>exact Qi ⟨rfl,l,o,rfl,h1,h3,h4,λ_=>e⟩
  case post=>
   rintro z st' ⟨rfl,l,o,rfl,h1,h3,h4,h5⟩
   dsimp only
   refine Qh (Ye (JN (I:=λx z st''=>st''=st'/\∃u v,z=(none,u,v)/\v<=n/\u<=v/\v - u<=n - x/\(∀i,i<u->Qb8 c lf kk xs (b+i)=true)/\(∀i,v<=i->i<n->Qb8 c lf kk xs (b+i)=false))
    (Q:=λz st''=>st''=st'/\∃v,z=(none,v,v)/\v<=n/\(∀i,i<v->Qb8 c lf kk xs (b+i)=true)/\(∀i,v<=i->i<n->Qb8 c lf kk xs (b+i)=false)) ?step2 ?fin2 ?init2) ?post2)
   case init2=>
    refine⟨rfl,_,_,rfl,by omega,by omega,by omega,λi hi=>?_,λi hi hn=>monoF hi hn h4⟩;exact mono (j:=hint - o) (by omega) (by omega) (h5 (by omega))
   case fin2=>
    rintro z st'' ⟨rfl,u,v,rfl,g1,g2,g3,g4,g5⟩;have:u=v:=by omega
    subst this;exact⟨rfl,u,rfl,g1,g4,g5⟩
   case step2=>
    rintro x z st'' _ hx ⟨rfl,u,v,rfl,g1,g2,g3,g4,g5⟩
    dsimp only
    by_cases g:u≥v
    ·rw[if_pos g];have:u=v:=by omega
     subst this;exact Qi ⟨rfl,u,rfl,g1,g4,g5⟩
    ·rw[if_neg g];refine Qh (bey (u+(v - u) / 2) _ (by omega) ?_);cases e:Qb8 c lf kk xs (b+(u+(v - u) / 2)) with
     |true=>exact Qi ⟨rfl,_,_,rfl,g1,by omega,by omega,λi hi=>mono (by omega) (by omega) e,g5⟩
     |false=>exact Qi ⟨rfl,_,_,rfl,by omega,by omega,by omega,g4,λi hi hn=>monoF hi hn e⟩
   case post2=>
    rintro z st'' ⟨rfl,v,rfl,g1,g4,g5⟩;exact Qi (h v g1 g4 g5)
structure Fb (κ:Yg) (a₀:Array Keyed) (lo:Nat) (st st':JO):Prop where
 sb:SB κ a₀ st'
 pend:pendingOf st'=pendingOf st
 low:∀k,k<lo->kx (arrOf st') k=kx (arrOf st) k
theorem Fb.refl{st:JO}{lo:Nat}(h:SB κ a₀ st):Fb κ a₀ lo st st:=⟨h,rfl,λ_ _=>rfl⟩
theorem Ql1{xs:Array Keyed}{i j:Nat}(hj:j<=xs.size)(k:Nat):kx (mirror xs i j ((j - i) / 2)) k=if i<=k/\k<j then kx xs (i+j - 1 - k) else kx xs k:=by
 have e:=getElem?_mirror_all (i:=i) hj k
 by_cases h1:i<=k/\k<j
 ·rw[if_pos h1] at e ⊢;exact Qh1 e
 ·rw[if_neg h1] at e ⊢;exact Qh1 e
theorem Qbt{st:JO}{i j lo:Nat}{st0:JO}{Q:Unit->JO->Prop}(fb:Fb κ a₀ lo st0 st)(hi:lo<=i)(hj:j<=a₀.size)
  (h:∀st',Fb κ a₀ lo st0 st'->(∀k,kx (arrOf st') k=if i<=k/\k<j then kx (arrOf st) (i+j - 1 - k) else kx (arrOf st) k)->Q () st'):wpS (model prog w) A E s (reverseSlice' i j) Q st:=by
 rw[reverseSlice'_eq];have km:∀k,kx (mirror (arrOf st) i j ((j - i) / 2)) k=if i<=k/\k<j then kx (arrOf st) (i+j - 1 - k) else kx (arrOf st) k:=λk=>Ql1 (by rw[fb.sb.size];exact hj) k
 refine Qab (h _ ⟨⟨(mirror_perm _ _ _ _).trans fb.sb.perm,fb.sb.kind,fb.sb.failed⟩,fb.pend,λk hk=>?_⟩ km);show kx (mirror (arrOf st) i j ((j - i) / 2)) k=_;rw[km,if_neg (by omega)];exact fb.low k hk
def Qy4(lo a nr:Nat):StateT JO Sem (Option (Option Nat)×Nat):=
 forIn [a:nr] ((none,a):Option (Option Nat)×Nat) λ_ z=>do
  let r <- ltAt' (lo+z.2) (lo+z.2 - 1)
  match r with
  |some b=>if b=true then pure (QaN (none,z.2)) else pure (JL (none,z.2+1))
  |_=>pure (QaN (some none,z.2))
theorem QdU{st:JO}{lo a nr:Nat}{Q:Option (Option Nat)×Nat->JO->Prop}(hA:Asks prog w A s κ a₀ c)(hn:lo+nr<=a₀.size)(h1:1<=a)(han:a<=nr)(hB:SB κ a₀ st)(sg:Sg c (arrOf st) lo (lo+a))
  (h:∀n,a<=n->n<=nr->Sg c (arrOf st) lo (lo+n)->(n=nr∨c (kx (arrOf st) (lo+n)) (kx (arrOf st) (lo+n - 1))=true)->Q (none,n) st):wpS (model prog w) A E s (Qy4 lo a nr) Q st:=by
 unfold Qy4;refine JN (I:=λx z st'=>st'=st/\z=(none,x)/\Sg c (arrOf st) lo (lo+x)) ?step ?fin ⟨rfl,rfl,sg⟩
 case fin=>
  rintro z st' ⟨rfl,rfl,hs⟩;rw[show max a nr=nr by omega] at hs ⊢;exact h nr han (Qj _) hs (.inl rfl)
 case step=>
  rintro x z st' hax hxn ⟨rfl,rfl,hs⟩
  dsimp only
  refine Qh (QdS hA hB (by omega) (by omega) ?_);cases e:c (kx (arrOf st') (lo+x)) (kx (arrOf st') (lo+x - 1)) with
  |true=>exact Qi (h x hax (by omega) hs (.inr e))
  |false=>
   refine Qi ⟨rfl,rfl,λi j hi hij hj=>?_⟩;by_cases z:j<lo+x
   ·exact hs i j hi hij z
   ·have zj:j=lo+x:=by omega
    subst zj;by_cases zi:i=lo+x
    ·subst zi;exact hA.ord.irr _
    ·exact hA.ord.tr (hs i (lo+x - 1) hi (by omega) (by omega)) e
def Ng(c:Keyed->Keyed->Bool)(xs:Array Keyed)(lo hi:Nat):Prop:=∀i j,lo<=i->i<=j->j<hi->le c (kx xs j) (kx xs i)
def Eqv(c:Keyed->Keyed->Bool)(x y:Keyed):Prop:=le c x y/\le c y x
theorem Eqv.ng(o:Ord c){xs ys:Array Keyed}{lo hi:Nat}(h:∀k,lo<=k->k<hi->Eqv c (kx ys k) (kx xs k))(n:Ng c xs lo hi):Ng c ys lo hi:=λi j hi' hij hj=>
 o.tr (h j (by omega) hj).1 (o.tr (n i j hi' hij hj) (h i hi' (by omega)).2)
theorem Qfv(o:Ord c){xs ys:Array Keyed}{u v:Nat}(h:∀k,kx ys k=if u<=k/\k<v then kx xs (u+v - 1 - k) else kx xs k)(q:∀k,u<=k->k<v->Eqv c (kx xs k) (kx xs (v - 1)))(k:Nat):Eqv c (kx ys k) (kx xs k):=by
 rw[h k];split
 ·rename_i z
  have a:=q (u+v - 1 - k) (by omega) (by omega);have b:=q k z.1 z.2;exact⟨o.tr a.1 b.2,o.tr b.1 a.2⟩
 ·exact⟨o.irr _,o.irr _⟩
def QvP(lo n nr:Nat):StateT JO Sem (Option (Option Nat)×Nat×Nat):=
 forIn [n:nr] ((none,n,0):Option (Option Nat)×Nat×Nat) λ_ z=>do
  let r <- ltAt' (lo+z.2.1) (lo+z.2.1 - 1)
  match r with
  |some b=>
   if b=true then
    if z.2.2 > 0 then do
     reverseSlice' (lo+z.2.1 - (z.2.2+1)) (lo+z.2.1)
     pure (JL (none,z.2.1+1,0))
    else pure (JL (none,z.2.1+1,0))
   else do
    let r <- ltAt' (lo+z.2.1 - 1) (lo+z.2.1)
    match r with
    |some b=>
     if b=true then pure (QaN (none,z.2.1,z.2.2))
     else pure (JL (none,z.2.1+1,z.2.2+1))
    |_=>pure (QaN (some none,z.2.1,z.2.2))
  |_=>pure (QaN (some none,z.2.1,z.2.2))
theorem Qd6(o:Ord c){xs:Array Keyed}{lo n:Nat}(h:Ng c xs lo (lo+n))(h1:1<=n)(l:le c (kx xs (lo+n)) (kx xs (lo+n - 1))):Ng c xs lo (lo+(n+1)):=λi j hi hij hj=>by
 by_cases z:j<lo+n
 ·exact h i j hi hij z
 ·have zj:j=lo+n:=by omega
  subst zj;by_cases zi:i=lo+n
  ·subst zi;exact o.irr _
  ·exact o.tr l (h i (lo+n - 1) hi (by omega) (by omega))
theorem Qiq{st st0:JO}{lo n nr:Nat}{Q:Option (Option Nat)×Nat×Nat->JO->Prop}(hA:Asks prog w A s κ a₀ c)(hn:lo+nr<=a₀.size)(h1:1<=n)(han:n<=nr)(fb:Fb κ a₀ lo st0 st)(ng:Ng c (arrOf st) lo (lo+n))
  (h:∀m q st',n<=m->m<=nr->Fb κ a₀ lo st0 st'->Ng c (arrOf st') lo (lo+m)->q+1<=m->(∀k,lo+m - (q+1)<=k->k<lo+m->Eqv c (kx (arrOf st') k) (kx (arrOf st') (lo+m - 1)))->Q (none,m,q) st'):wpS (model prog w) A E s (QvP lo n nr) Q st:=by
 unfold QvP;have ir:∀x,Eqv c x x:=λx=>⟨hA.ord.irr x,hA.ord.irr x⟩
 refine JN (I:=λx z st'=>∃q,z=(none,x,q)/\Fb κ a₀ lo st0 st'/\Ng c (arrOf st') lo (lo+x)/\q+1<=x/\(∀k,lo+x - (q+1)<=k->k<lo+x->Eqv c (kx (arrOf st') k) (kx (arrOf st') (lo+x - 1)))) ?step ?fin
  ⟨0,rfl,fb,ng,h1,λk k1 k2=>by rw[show k=lo+n - 1 by omega];exact ir _⟩
 case fin=>
  rintro z st' ⟨q,rfl,f,g,g1,g2⟩;rw[show max n nr=nr by omega] at g g1 g2 ⊢;exact h nr q st' han (Qj _) f g g1 g2
 case step=>
  rintro x z st' hax hxn ⟨q,rfl,f,g,g1,g2⟩
  dsimp only
  refine Qh (QdS hA f.sb (by omega) (by omega) ?_);cases e:c (kx (arrOf st') (lo+x)) (kx (arrOf st') (lo+x - 1)) with
  |true=>
   dsimp only
   rw[if_pos rfl];by_cases zq:q > 0
   ·rw[if_pos zq];refine Qh (Qbt f (by omega) (by omega) λst2 f2 km=>Qi ⟨0,rfl,f2,?_,by omega,λk k1 k2=>by rw[show k=lo+(x+1) - 1 by omega];exact ir _⟩);refine Eqv.ng hA.ord (xs:=arrOf st') (λk _ _=>Qfv hA.ord km g2 k) (Qd6 hA.ord g (by omega) (hA.ord.lt_le e))
   ·rw[if_neg zq];exact Qi ⟨0,rfl,f,Qd6 hA.ord g (by omega) (hA.ord.lt_le e),by omega,λk k1 k2=>by rw[show k=lo+(x+1) - 1 by omega];exact ir _⟩
  |false=>
   dsimp only
   rw[if_neg (by decide)];refine Qh (QdS hA f.sb (by omega) (by omega) ?_);cases e2:c (kx (arrOf st') (lo+x - 1)) (kx (arrOf st') (lo+x)) with
   |true=>exact Qi (h x q st' hax (by omega) f g g1 g2)
   |false=>
    refine Qi ⟨q+1,rfl,f,Qd6 hA.ord g (by omega) e2,by omega,λk k1 k2=>?_⟩;rw[show lo+(x+1) - 1=lo+x by omega];by_cases zk:k=lo+x
    ·subst zk;exact ir _
    ·have a:=g2 k (by omega) (by omega);exact⟨hA.ord.tr a.1 e,hA.ord.tr e2 a.2⟩
theorem Qoi{xs ys:Array Keyed}{lo hi:Nat}(h:∀k,kx ys k=if lo<=k/\k<hi then kx xs (lo+hi - 1 - k) else kx xs k)(n:Ng c xs lo hi):Sg c ys lo hi:=λi j hi' hij hj=>by
 rw[h i,h j,if_pos (by omega),if_pos (by omega)];exact n _ _ (by omega) (by omega) (by omega)
theorem Qfi{st:JO}{lo nr:Nat}{Q:Option Nat->JO->Prop}(hA:Asks prog w A s κ a₀ c)(hn:lo+nr<=a₀.size)(h1:1<=nr)(hB:SB κ a₀ st)
  (h:∀m st',Fb κ a₀ lo st st'->1<=m->m<=nr->Sg c (arrOf st') lo (lo+m)->Q (some m) st'):wpS (model prog w) A E s (countRun' lo nr) Q st:=by
 rw[countRun'_eq]
 dsimp only
 refine Qh (QdU (lo:=lo) (a:=1) (nr:=nr) hA hn (Qj _) h1 hB (λi j hi hij hj=>by rw[show i=j by omega];exact hA.ord.irr _) λn n1 n2 sg hor=>?_)
 dsimp only
 by_cases zn:n=nr
 ·rw[if_pos (by simpa using zn)];exact Qi (h n st (Fb.refl hB) n1 n2 sg)
 ·rw[if_neg (by simpa using zn)];have hlt:=hor.resolve_left zn;by_cases zg:n > 1
  ·rw[if_pos zg];refine Qh (QdS hA hB (by omega) (by omega) ?_);cases e:c (kx (arrOf st) lo) (kx (arrOf st) (lo+n - 1)) with
   |true=>exact Qi (h n st (Fb.refl hB) n1 n2 sg)
   |false=>
    have all:∀k,lo<=k->k<lo+n->Eqv c (kx (arrOf st) k) (kx (arrOf st) (lo+n - 1)):=λk k1 k2=>
     ⟨sg k (lo+n - 1) k1 (by omega) (by omega),hA.ord.tr e (sg lo k (Qj _) k1 k2)⟩
    dsimp only
    rw[if_neg (by decide)];refine Qh (Qbt (Fb.refl hB) (Qj _) (by omega) λst2 f2 km=>?_);have ng2:Ng c (arrOf st2) lo (lo+(n+1)):=by
     refine Eqv.ng hA.ord (xs:=arrOf st) (λk k1 k2=>Qfv hA.ord km all k) (Qd6 hA.ord (λi j i1 ij j1=>?_) n1 (hA.ord.lt_le hlt));have a:=all i i1 (by omega);have b:=all j (by omega) j1;exact hA.ord.tr b.1 a.2
    refine Qh (Qdw (ZP ⟨rfl,?_⟩));refine Qh (Qiq (lo:=lo) (n:=n+1) (nr:=nr) hA hn (by omega) (by omega) f2 (ng2) λm q st' m1 m2 f5 g g1 g2=>?_)
    dsimp only
    by_cases zq:q > 0
    ·rw[if_pos zq];refine Qh (Qbt f5 (by omega) (by omega) λst3 f3 km3=>?_);refine Qh (Qbt f3 (Qj _) (by omega) λst4 f4 km4=>?_);refine Qh (QdU (lo:=lo) (a:=m) (nr:=nr) hA hn (by omega) m2 f4.sb (Qoi km4 (Eqv.ng hA.ord (xs:=arrOf st') (λk _ _=>Qfv hA.ord km3 g2 k) g)) λk k1 k2 sg4 _=>Qi (h k st4 f4 (by omega) k2 sg4))
    ·rw[if_neg zq];refine Qh (Qbt f5 (Qj _) (by omega) λst4 f4 km4=>?_);refine Qh (QdU (lo:=lo) (a:=m) (nr:=nr) hA hn (by omega) m2 f4.sb (Qoi km4 (g)) λk k1 k2 sg4 _=>Qi (h k st4 f4 (by omega) k2 sg4))
  ·rw[if_neg zg];have z1:n=1:=by omega
   subst z1;refine Qh (Qdw (ZP ⟨rfl,?_⟩));refine Qh (Qiq (lo:=lo) (n:=1+1) (nr:=nr) hA hn (by omega) (by omega) (Fb.refl hB) (Qd6 hA.ord (λi j i1 ij j1=>by rw[show i=j by omega];exact hA.ord.irr _) n1 (hA.ord.lt_le hlt)) λm q st' m1 m2 f5 g g1 g2=>?_)
   dsimp only
   by_cases zq:q > 0
   ·rw[if_pos zq];refine Qh (Qbt f5 (by omega) (by omega) λst3 f3 km3=>?_);refine Qh (Qbt f3 (Qj _) (by omega) λst4 f4 km4=>?_);refine Qh (QdU (lo:=lo) (a:=m) (nr:=nr) hA hn (by omega) m2 f4.sb (Qoi km4 (Eqv.ng hA.ord (xs:=arrOf st') (λk _ _=>Qfv hA.ord km3 g2 k) g)) λk k1 k2 sg4 _=>Qi (h k st4 f4 (by omega) k2 sg4))
   ·rw[if_neg zq];refine Qh (Qbt f5 (Qj _) (by omega) λst4 f4 km4=>?_);refine Qh (QdU (lo:=lo) (a:=m) (nr:=nr) hA hn (by omega) m2 f4.sb (Qoi km4 (g)) λk k1 k2 sg4 _=>Qi (h k st4 f4 (by omega) k2 sg4))
theorem Ql2{xs:Array Keyed}{src d:Nat}(hs:src<xs.size)(hd:d<=src)(k:Nat):kx (bubble xs src d) k=if k=src - d then kx xs src else if src - d<k/\k<=src then kx xs (k - 1) else kx xs k:=by
 have e:=getElem?_bubble hs d hd k
 by_cases h1:k=src - d
 ·rw[if_pos h1] at e ⊢;exact Qh1 e
 ·rw[if_neg h1] at e ⊢;by_cases h2:src - d<k/\k<=src
  ·rw[if_pos h2] at e ⊢;exact Qh1 e
  ·rw[if_neg h2] at e ⊢;exact Qh1 e
theorem QdT{st:JO}{lo n ok:Nat}{Q:Bool->JO->Prop}(hA:Asks prog w A s κ a₀ c)(hn:lo+n<=a₀.size)(h1:1<=ok)(hok:ok<=n)(hB:SB κ a₀ st)(sg:Sg c (arrOf st) lo (lo+ok))
  (h:∀st',Fb κ a₀ lo st st'->Sg c (arrOf st') lo (lo+n)->Q true st'):wpS (model prog w) A E s (binarySort' lo n ok) Q st:=by
 rw[binarySort'_eq];refine Qh (Ye (JN (I:=λk z st'=>z=(none,())/\Fb κ a₀ lo st st'/\Sg c (arrOf st') lo (lo+min k n)) (Q:=λz st'=>z=(none,())/\Fb κ a₀ lo st st'/\Sg c (arrOf st') lo (lo+n)) ?step ?fin ⟨rfl,Fb.refl hB,by rw[show min (max ok 1) n=ok by omega];exact sg⟩) ?post)
 case post=>
  rintro z st' ⟨rfl,f,g⟩;exact Qi (h st' f g)
 case fin=>
  rintro z st' ⟨rfl,f,g⟩;rw[show min (max (max ok 1) n) n=n by omega] at g;exact⟨rfl,f,g⟩
 case step=>
  rintro k z st' hak hkn ⟨rfl,f,g⟩;rw[show min k n=k by omega] at g;refine Qh (Ye (JN (I:=λx z st''=>st''=st'/\∃l r,z=(none,l,r)/\l<=r/\r<=k/\r - l<=k - x/\(∀i,i<l->le c (kx (arrOf st') (lo+i)) (kx (arrOf st') (lo+k)))/\(∀i,r<=i->i<k->le c (kx (arrOf st') (lo+k)) (kx (arrOf st') (lo+i))))
   (Q:=λz st''=>st''=st'/\∃l r,z=(none,l,r)/\l<=k/\(∀i,i<l->le c (kx (arrOf st') (lo+i)) (kx (arrOf st') (lo+k)))/\(∀i,l<=i->i<k->le c (kx (arrOf st') (lo+k)) (kx (arrOf st') (lo+i)))) ?istep ?ifin ⟨rfl,0,k,rfl,by omega,by omega,by omega,λi hi=>by omega,λi a b=>by omega⟩) ?ipost)
  case ifin=>
   rintro z st'' ⟨rfl,l,r,rfl,h1,h2,h3,h4,h5⟩;have:l=r:=by omega
   subst this;exact⟨rfl,l,l,rfl,h2,h4,h5⟩
  case istep=>
   rintro x z st'' _ hx ⟨rfl,l,r,rfl,h1,h2,h3,h4,h5⟩
   dsimp only
   by_cases zz:l≥r
   ·rw[if_pos zz];have:l=r:=by omega
    subst this;exact Qi ⟨rfl,l,l,rfl,h2,h4,h5⟩
   ·rw[if_neg zz];refine Qh (QdS hA f.sb (by omega) (by omega) ?_);cases e:c (kx (arrOf st'') (lo+k)) (kx (arrOf st'') (lo+(l+r) / 2)) with
    |true=>exact Qi ⟨rfl,_,_,rfl,by omega,by omega,by omega,h4,λi a b=>hA.ord.tr (hA.ord.lt_le e) (g _ _ (by omega) (by omega) (by omega))⟩
    |false=>exact Qi ⟨rfl,_,_,rfl,by omega,by omega,by omega,λi a=>hA.ord.tr (g (lo+i) (lo+(l+r) / 2) (by omega) (by omega) (by omega)) e,h5⟩
  case ipost=>
   rintro z st'' ⟨rfl,l,r,rfl,h2,h4,h5⟩
   dsimp only
   rw[moveDown'_eq];have hs:lo+k<(arrOf st'').size:=by rw[f.sb.size];omega
   have kb:∀j,kx (bubble (arrOf st'') (lo+k) (lo+k - (lo+l))) j=if j=lo+l then kx (arrOf st'') (lo+k) else if lo+l<j/\j<=lo+k then kx (arrOf st'') (j - 1) else kx (arrOf st'') j:=λj=>by
    rw[Ql2 hs (by omega),show lo+k - (lo+k - (lo+l))=lo+l by omega]
   refine Qh (Qab (Qi ⟨rfl,⟨⟨(bubble_perm _ _ _).trans f.sb.perm,f.sb.kind,f.sb.failed⟩,f.pend,λj hj=>?_⟩,λi j hi hij hj=>?_⟩))
   ·show kx (bubble (arrOf st'') (lo+k) (lo+k - (lo+l))) j=_;rw[kb,if_neg (by omega),if_neg (by omega)];exact f.low j hj
   ·show le c (kx (bubble (arrOf st'') (lo+k) (lo+k - (lo+l))) i) (kx (bubble (arrOf st'') (lo+k) (lo+k - (lo+l))) j);rw[kb,kb];have low:∀i,lo<=i->i<lo+l->le c (kx (arrOf st'') i) (kx (arrOf st'') (lo+k)):=λi a b=>by have:=h4 (i - lo) (by omega);rwa [show lo+(i - lo)=i by omega] at this
    have high:∀i,lo+l<=i->i<lo+k->le c (kx (arrOf st'') (lo+k)) (kx (arrOf st'') i):=λi a b=>by have:=h5 (i - lo) (by omega) (by omega);rwa [show lo+(i - lo)=i by omega] at this
    repeat' split
    all_goals first
     |(exfalso;omega)
     |exact hA.ord.irr _
     |exact low _ (by omega) (by omega)
     |exact high _ (by omega) (by omega)
     |exact g _ _ (by omega) (by omega) (by omega)
end
def Yi:Nat->StateT JO Sem Unit:=sortPriv% PySem.Builtin.setMinGallop
theorem Qds(g:Nat):Yi g=modify λz=>QwN (kindOf z) (arrOf z) (pendingOf z) g (failedOf z):=rfl
def QfE:Array Keyed->Array Keyed->StateT JO Sem (Array Keyed):=sortPriv% PySem.Builtin.mergeLo
def QfF:Array Keyed->Array Keyed->StateT JO Sem (Array Keyed):=sortPriv% PySem.Builtin.mergeHi
theorem QhR(a b:Array Keyed):QfE a b=(do
 rule "list.sort.merge-lo"
 let tot:=a.size+b.size
 let dn (r:Array Keyed) (i j:Nat):=r++a.extract i a.size++b.extract j b.size
 let la (r:Array Keyed) (i j:Nat):=r++b.extract j b.size++a.extract i a.size
 let mut r:Array Keyed:=#[<- elem' b 0]
 let mut i:=0
 let mut j:=1
 if j == b.size then return dn r i j
 if i+1 == a.size then return la r i j
 let mut mg:=gallopOf (<- get)
 for _ in [0:tot] do
  let mut p:=0
  let mut q:=0
  for _ in [0:tot] do
   let some t <- lt' (<- elem' b j) (<- elem' a i) | return dn r i j
   if t then
    r:=r.push (<- elem' b j);j:=j+1;q:=q+1;p:=0
    if j == b.size then return dn r i j
    if q≥mg then break
   else
    r:=r.push (<- elem' a i);i:=i+1;p:=p+1;q:=0
    if i+1 == a.size then return la r i j
    if p≥mg then break
  rule "list.sort.gallop"
  mg:=mg+1
  for _ in [0:tot] do
   if mg > 1 then mg:=mg - 1
   Yi mg
   let some k <- QbA false (<- elem' b j) a i (a.size - i) 0 | return dn r i j
   p:=k
   if k > 0 then
    r:=r++a.extract i (i+k);i:=i+k
    if i+1 == a.size then return la r i j
    if i == a.size then return dn r i j
   r:=r.push (<- elem' b j);j:=j+1
   if j == b.size then return dn r i j
   let some k <- QbA true (<- elem' a i) b j (b.size - j) 0 | return dn r i j
   q:=k
   if k > 0 then
    r:=r++b.extract j (j+k);j:=j+k
    if j == b.size then return dn r i j
   r:=r.push (<- elem' a i);i:=i+1
   if i+1 == a.size then return la r i j
   if p<7&&q<7 then break
  mg:=mg+1
  Yi mg
 unsupported "internal:list.sort.merge-bound"):=rfl
section
variable{c:Keyed->Keyed->Bool}
abbrev Pw (c:Keyed->Keyed->Bool) (l:List Keyed):Prop:=l.Pairwise (le c)
theorem QpN{r ch x y:List Keyed}(h1:Pw c (r++(ch++x)))(h2:Pw c (r++y))(h:∀u∈ch,∀v∈y,le c u v):Pw c ((r++ch)++x)/\Pw c ((r++ch)++y):=by
 have h1':Pw c ((r++ch)++x):=by rw[QJ];exact h1
 refine⟨h1',?_⟩;have g:=Q9.mp h1';have g2:=Q9.mp h2;refine Q9.mpr ⟨g.1,g2.2.1,λu hu v hv=>?_⟩;rcases QX.mp hu with z | z
 ·exact g2.2.2 u z v hv
 ·exact h u z v hv
theorem Qax{xs:Array Keyed}{i:Nat}(h:i<xs.size):xs.toList[i]? = some (kx xs i):=by rw[JQ];exact QsU h
theorem Qmj{xs:Array Keyed}{i:Nat}(h:i<xs.size):xs.toList.drop i=kx xs i::xs.toList.drop (i+1):=by
 have hl:i<xs.toList.length:=by rw[Qg];exact h
 rw[ZN hl];have:=Qax h;rw[Qk hl] at this;rw[Qs this]
theorem Qba{xs:Array Keyed}{i:Nat}{p:Keyed}(h:p∈xs.toList.drop i):∃k,i<=k/\k<xs.size/\p=kx xs k:=by
 obtain⟨n,hn⟩:=Jn.mp h;rw[Qa4] at hn;have hl:=(QQ.mp hn).1;rw[Qg] at hl;rw[Qax hl] at hn;exact⟨i+n,by omega,hl,(Qs hn).symm⟩
theorem QdO(xs:Array Keyed)(i k:Nat):(xs.extract i (i+k)).toList=(xs.toList.drop i).take k:=by
 rw[QaE,YK,Nat.add_sub_cancel_left]
theorem Qc8(xs:Array Keyed)(i:Nat):(xs.extract i xs.size).toList=xs.toList.drop i:=by
 rw[QaE,YK,Yc (by rw[QaD,Qg];exact Qj _)]
theorem Qd8{xs:Array Keyed}{i k:Nat}{p:Keyed}(h:p∈(xs.toList.drop i).take k):∃t,t<k/\i+t<xs.size/\p=kx xs (i+t):=by
 obtain⟨n,hn⟩:=Jn.mp h;rw[Qdz] at hn;split at hn
 ·rename_i z
  rw[Qa4] at hn;have hl:=(QQ.mp hn).1;rw[Qg] at hl;rw[Qax hl] at hn;exact⟨n,z,hl,(Qs hn).symm⟩
 ·cases hn
structure MI (c:Keyed->Keyed->Bool) (a b r:Array Keyed) (i j:Nat):Prop where
 ha:Pw c (r.toList++a.toList.drop i)
 hb:Pw c (r.toList++b.toList.drop j)
 pm:(r.toList++(a.toList.drop i++b.toList.drop j)).Perm (a.toList++b.toList)
def Out(c:Keyed->Keyed->Bool)(a b z:Array Keyed):Prop:=Pw c z.toList/\z.toList.Perm (a.toList++b.toList)
variable{a b r:Array Keyed}{i j k:Nat}
theorem MI.chA(m:MI c a b r i j)(h:∀t,t<k->i+t<a.size->∀n,j<=n->n<b.size->le c (kx a (i+t)) (kx b n)):MI c a b (r++a.extract i (i+k)) (i+k) j:=by
 have e:a.toList.drop i=(a.toList.drop i).take k++a.toList.drop (i+k):=by rw[<- Qhh,JD]
 have e2:(r++a.extract i (i+k)).toList=r.toList++(a.toList.drop i).take k:=by rw[Jq,QdO]
 have h1:=m.ha;have pm:=m.pm;rw[e] at h1 pm;obtain⟨g1,g2⟩:=QpN h1 m.hb λu hu v hv=>by
  obtain⟨t,t1,t2,rfl⟩:=Qd8 hu;obtain⟨n,n1,n2,rfl⟩:=Qba hv;exact h t t1 t2 n n1 n2
 refine⟨by rw[e2];exact g1,by rw[e2];exact g2,?_⟩;rw[e2,QJ,<- QJ ((a.toList.drop i).take k)];exact pm
theorem MI.chB(m:MI c a b r i j)(h:∀t,t<k->j+t<b.size->∀n,i<=n->n<a.size->le c (kx b (j+t)) (kx a n)):MI c a b (r++b.extract j (j+k)) i (j+k):=by
 have e:b.toList.drop j=(b.toList.drop j).take k++b.toList.drop (j+k):=by rw[<- Qhh,JD]
 have e2:(r++b.extract j (j+k)).toList=r.toList++(b.toList.drop j).take k:=by rw[Jq,QdO]
 have h1:=m.hb;have pm:=m.pm;rw[e] at h1 pm;obtain⟨g1,g2⟩:=QpN h1 m.ha λu hu v hv=>by
  obtain⟨t,t1,t2,rfl⟩:=Qd8 hu;obtain⟨n,n1,n2,rfl⟩:=Qba hv;exact h t t1 t2 n n1 n2
 refine⟨by rw[e2];exact g2,by rw[e2];exact g1,?_⟩;rw[e2,QJ];refine Qas (Ya _ ?_) pm;rw[<- QJ,<- QJ];exact YT _ Qao
theorem QiM{xs:Array Keyed}{i:Nat}(h:i<xs.size):r.push (kx xs i)=r++xs.extract i (i+1):=by
 apply Qau.mp
 rw[Qbn,Jq,QdO,Qmj h];rfl
theorem MI.puA(m:MI c a b r i j)(hi:i<a.size)(h:∀n,j<=n->n<b.size->le c (kx a i) (kx b n)):MI c a b (r.push (kx a i)) (i+1) j:=by
 rw[QiM hi];refine m.chA λt t1 t2=>?_
 have:t=0:=by omega
 subst this;exact h
theorem MI.puB(m:MI c a b r i j)(hj:j<b.size)(h:∀n,i<=n->n<a.size->le c (kx b j) (kx a n)):MI c a b (r.push (kx b j)) i (j+1):=by
 rw[QiM hj];refine m.chB λt t1 t2=>?_
 have:t=0:=by omega
 subst this;exact h
theorem MI.dnB(m:MI c a b r i j)(hj:j=b.size):Out c a b (r++a.extract i a.size++b.extract j b.size):=by
 have e:b.toList.drop j=[]:=Yd (by rw[Qg];omega);have e2:(r++a.extract i a.size++b.extract j b.size).toList=r.toList++a.toList.drop i:=by rw[Jq,Jq,Qc8,Qc8,e,Jr]
 have pm:=m.pm;rw[e,Jr] at pm;exact⟨by rw[e2];exact m.ha,by rw[e2];exact pm⟩
theorem MI.dnA(m:MI c a b r i j)(hi:i=a.size):Out c a b (r++a.extract i a.size++b.extract j b.size):=by
 have e:a.toList.drop i=[]:=Yd (by rw[Qg];omega);have e2:(r++a.extract i a.size++b.extract j b.size).toList=r.toList++b.toList.drop j:=by rw[Jq,Jq,Qc8,Qc8,e,Jr]
 have pm:=m.pm;rw[e,QaT] at pm;exact⟨by rw[e2];exact m.hb,by rw[e2];exact pm⟩
theorem MI.last(m:MI c a b r i j)(hi:i+1=a.size)(p2:∀k,k<b.size->le c (kx b k) (kx a (a.size - 1))):Out c a b (r++b.extract j b.size++a.extract i a.size):=by
 have e2:(r++b.extract j b.size++a.extract i a.size).toList=(r.toList++b.toList.drop j)++a.toList.drop i:=by rw[Jq,Jq,Qc8,Qc8]
 have g:=Q9.mp m.ha;refine⟨by
  rw[e2];refine Q9.mpr ⟨m.hb,g.2.1,λu hu v hv=>?_⟩;rcases QX.mp hu with z | z
  ·exact g.2.2 u z v hv
  ·obtain⟨n,n1,n2,rfl⟩:=Qba hv;obtain⟨n',n3,n4,rfl⟩:=Qba z;rw[show n=a.size - 1 by omega];exact p2 n' n4,?_⟩
 rw[e2,QJ];exact Qas (Ya _ Qao) m.pm
end
structure Sm (st st':JO):Prop where
 kind:kindOf st'=kindOf st
 arr:arrOf st'=arrOf st
 pend:pendingOf st'=pendingOf st
 failed:failedOf st'=failedOf st
theorem Sm.refl(st:JO):Sm st st:=⟨rfl,rfl,rfl,rfl⟩
section
variable{prog:QB}{w:Ji}{A:Q3}{E:Value->Shared->Prop}{s:Shared}{a₀:Array Keyed}{κ:Yg}{c:Keyed->Keyed->Bool}
theorem QeF{st st0:JO}{g:Nat}{Q:Unit->JO->Prop}(m:Sm st0 st)(h:∀st',Sm st0 st'->Q () st'):wpS (model prog w) A E s (Yi g) Q st:=by
 rw[Qds];exact Qab (h _ ⟨m.kind,m.arr,m.pend,m.failed⟩)
theorem JC{x y:Nat}(h:x≠y):¬((x == y)=true):=λz=>h (beq_iff_eq.mp z)
theorem Qhu{st:JO}{a b:Array Keyed}{Q:Array Keyed->JO->Prop}(hA:Asks prog w A s κ a₀ c)(hk:kindOf st=κ)(ma:∀p∈a.toList,p∈a₀.toList)(mb:∀p∈b.toList,p∈a₀.toList)(na:1<=a.size)(nb:1<=b.size)
  (sa:Sg c a 0 a.size)(sb:Sg c b 0 b.size)(p1:∀k,k<a.size->le c (kx b 0) (kx a k))(p2:∀k,k<b.size->le c (kx b k) (kx a (a.size - 1)))(h:∀z st',Sm st st'->Out c a b z->Q z st'):wpS (model prog w) A E s (QfE a b) Q st:=by
 have pwl:∀{xs:Array Keyed},Sg c xs 0 xs.size->Pw c xs.toList:=λ{xs} sg=>ZM.mpr λx y hx hy hxy=>by
  rw[Qg] at hx hy;have e1:=Qax hx;have e2:=Qax hy;rw[Qk (by rw[Qg];exact hx)] at e1;rw[Qk (by rw[Qg];exact hy)] at e2;rw[Qs e1,Qs e2];exact sg x y (Qr _) (by omega) hy
 rw[QhR]
 dsimp only
 refine Qh (Qdw (ZP ⟨rfl,?_⟩));refine Qh (Q1 (by omega) ?_);have m0:MI c a b #[] 0 0:=⟨by rw[Zj];exact pwl sa,by rw[Zj];exact pwl sb,by rw[Zj,Zj];exact QbW _⟩;have m1:MI c a b #[kx b 0] 0 1:=MI.puB m0 (by omega) λn _ hn=>p1 n hn
 by_cases z1:1=b.size
 ·rw[if_pos (beq_iff_eq.mpr z1)];exact Qi (h _ _ (Sm.refl st) (m1.dnB z1))
 ·rw[if_neg (JC z1)];by_cases z2:0+1=a.size
  ·rw[if_pos (beq_iff_eq.mpr z2)];exact Qi (h _ _ (Sm.refl st) (m1.last z2 p2))
  ·rw[if_neg (JC z2)];refine Qh (QbN ?_);refine Qh (Ye (JN (I:=λx z st'=>∃r i j mg,z=(none,r,i,j,mg)/\MI c a b r i j/\i+1<a.size/\j<b.size/\x+1<=i+j/\Sm st st')
    (Q:=λz st'=>∃o y,z=(some o,y)/\Out c a b o/\Sm st st') ?step ?fin ⟨_,0,1,_,rfl,m1,by omega,by omega,by omega,Sm.refl st⟩) ?post)
   case post=>
    rintro z st' ⟨o,y,rfl,ho,sm⟩;exact Qi (h o st' sm ho)
   case fin=>
    rintro z st' ⟨r,i,j,mg,rfl,m,i1,j1,x1,sm⟩;exfalso
    omega
   case step=>
    rintro x z st' _ hx ⟨r,i,j,mg,rfl,m,i1,j1,x1,sm⟩
    dsimp only
    refine Qh (Ye (JN (I:=λy z st2=>∃r i j p q,z=(none,r,i,j,p,q)/\MI c a b r i j/\i+1<a.size/\j<b.size/\x+1+y<=i+j/\Sm st st2)
     (Q:=λz st2=>(∃o y,z=(some o,y)/\Out c a b o/\Sm st st2)∨∃r i j p q,z=(none,r,i,j,p,q)/\MI c a b r i j/\i+1<a.size/\j<b.size/\x+2<=i+j/\Sm st st2) ?step1 ?fin1 ⟨r,i,j,0,0,rfl,m,i1,j1,by omega,sm⟩) ?post1)
    case fin1=>
     rintro z st2 ⟨r,i,j,p,q,rfl,m,i1,j1,x1,sm⟩;exact .inr ⟨r,i,j,p,q,rfl,m,i1,j1,by omega,sm⟩
    case step1=>
     rintro y z st2 _ hy ⟨r,i,j,p,q,rfl,m,i1,j1,x1,sm⟩
     dsimp only
     refine Qh (Q1 j1 ?_);refine Qh (Q1 (by omega) ?_);refine Qh (Qgg hA (sm.kind.trans hk) (mb _ (Qeb j1)) (ma _ (Qeb (by omega))) ?_);cases e:c (kx b j) (kx a i) with
     |true=>
      dsimp only
      rw[if_pos rfl];refine Qh (Q1 j1 ?_);have m2:=MI.puB m j1 λn n1 n2=>hA.ord.tr (hA.ord.lt_le e) (sa i n (Qr _) n1 n2)
      by_cases z3:j+1=b.size
      ·rw[if_pos (beq_iff_eq.mpr z3)];exact Qi (.inl ⟨_,_,rfl,m2.dnB z3,sm⟩)
      ·rw[if_neg (JC z3)];split
       ·exact Qi (.inr ⟨_,_,_,_,_,rfl,m2,by omega,by omega,by omega,sm⟩)
       ·exact Qi ⟨_,_,_,_,_,rfl,m2,by omega,by omega,by omega,sm⟩
     |false=>
      dsimp only
      rw[if_neg (by decide)];refine Qh (Q1 (by omega) ?_);have m2:=MI.puA m (by omega) λn n1 n2=>hA.ord.tr e (sb j n (Qr _) n1 n2)
      by_cases z3:i+1+1=a.size
      ·rw[if_pos (beq_iff_eq.mpr z3)];exact Qi (.inl ⟨_,_,rfl,m2.last z3 p2,sm⟩)
      ·rw[if_neg (JC z3)];split
       ·exact Qi (.inr ⟨_,_,_,_,_,rfl,m2,by omega,by omega,by omega,sm⟩)
       ·exact Qi ⟨_,_,_,_,_,rfl,m2,by omega,by omega,by omega,sm⟩
    case post1=>
     rintro z st2 (⟨o,y,rfl,ho,sm⟩ | ⟨r,i,j,p,q,rfl,m,i1,j1,x1,sm⟩)
     ·exact Qi ⟨o,_,rfl,ho,sm⟩
     ·dsimp only
      refine Qh (Qdw (ZP ⟨rfl,?_⟩));refine Qh (Ye (JN (I:=λy z st3=>∃r i j mg p q,z=(none,r,i,j,mg,p,q)/\MI c a b r i j/\i+1<a.size/\j<b.size/\x+2<=i+j/\Sm st st3)
       (Q:=λz st3=>(∃o y,z=(some o,y)/\Out c a b o/\Sm st st3)∨∃r i j mg p q,z=(none,r,i,j,mg,p,q)/\MI c a b r i j/\i+1<a.size/\j<b.size/\x+2<=i+j/\Sm st st3) ?step2 ?fin2 ⟨r,i,j,_,p,q,rfl,m,i1,j1,by omega,sm⟩) ?post2)
      case fin2=>
       rintro z st3 ⟨r,i,j,mg,p,q,rfl,m,i1,j1,x1,sm⟩;exact .inr ⟨r,i,j,mg,p,q,rfl,m,i1,j1,by omega,sm⟩
      case post2=>
       rintro z st3 (⟨o,y,rfl,ho,sm⟩ | ⟨r,i,j,mg,p,q,rfl,m,i1,j1,x1,sm⟩)
       ·exact Qi ⟨o,_,rfl,ho,sm⟩
       ·dsimp only
        exact Qh (QeF sm λst4 sm4=>Qi ⟨_,_,_,_,rfl,m,i1,j1,by omega,sm4⟩)
      case step2=>
       rintro y z st3 _ hy ⟨r,i,j,mg,p,q,rfl,m,i1,j1,x1,sm⟩
       dsimp only
       by_cases z0:mg > 1
       ·rw[if_pos z0];refine Qh (QeF sm λst4 sm4=>?_);refine Qh (Q1 (by omega) ?_);refine Qh (Zm hA (sm4.kind.trans hk) (mb _ (Qeb (by omega))) ma (by omega) (by omega) (λx y x1 xy y1=>sa x y (Qr _) xy (by omega)) λk kn b1 b2=>?_);have b1:∀t,t<k->(!c (kx b j) (kx a (i+t)))=true:=λt ht=>b1 t ht
        have b2:∀t,k<=t->t<a.size - i->(!c (kx b j) (kx a (i+t)))=false:=λt h1 h2=>b2 t h1 h2
        dsimp only
        have hB1:∀n,i+k<=n->n<a.size->le c (kx b j) (kx a n):=λn n1 n2=>by
         have:=b2 (n - i) (by omega) (by omega);rw[show i+(n - i)=n by omega] at this;exact hA.ord.lt_le (by simpa using this)
        by_cases zk:k > 0
        ·rw[if_pos zk];have m2:=MI.chA (k:=k) m λt t1 t2 n n1 n2=>by
          have:=b1 t t1;exact hA.ord.tr (show le c (kx a (i+t)) (kx b j) by simpa using this) (sb j n (Qr _) n1 n2)
         by_cases z2:i+k+1=a.size
         ·rw[if_pos (beq_iff_eq.mpr z2)];exact Qi (.inl ⟨_,_,rfl,m2.last z2 p2,sm4⟩)
         ·rw[if_neg (JC z2)];by_cases z3:i+k=a.size
          ·rw[if_pos (beq_iff_eq.mpr z3)];exact Qi (.inl ⟨_,_,rfl,m2.dnA z3,sm4⟩)
          ·rw[if_neg (JC z3)];refine Qh (Q1 (by omega) ?_);have m5:=MI.puB m2 (by omega) hB1;by_cases z5:j+1=b.size
           ·rw[if_pos (beq_iff_eq.mpr z5)];exact Qi (.inl ⟨_,_,rfl,m5.dnB z5,sm4⟩)
           ·rw[if_neg (JC z5)];refine Qh (Q1 (by omega) ?_);refine Qh (Zm hA (sm4.kind.trans hk) (ma _ (Qeb (by omega))) mb (by omega) (by omega) (λx y x1 xy y1=>sb x y (Qr _) xy (by omega)) λk2 k2n b1 b2=>?_);have b1:∀t,t<k2->c (kx b (j+1+t)) (kx a (i+k))=true:=λt ht=>b1 t ht
            have b2:∀t,k2<=t->t<b.size - (j+1)->c (kx b (j+1+t)) (kx a (i+k))=false:=λt h1 h2=>b2 t h1 h2
            dsimp only
            have gA:∀n,j+1+k2<=n->n<b.size->le c (kx a (i+k)) (kx b n):=λn n1 n2=>by have:=b2 (n - (j+1)) (by omega) (by omega);rwa [show j+1+(n - (j+1))=n by omega] at this
            by_cases zk2:k2 > 0
            ·rw[if_pos zk2];have m6:=MI.chB (k:=k2) m5 λt t1 t2 n n1 n2=>hA.ord.tr (hA.ord.lt_le (b1 t t1)) (sa (i+k) n (Qr _) n1 n2)
             by_cases z6:j+1+k2=b.size
             ·rw[if_pos (beq_iff_eq.mpr z6)];exact Qi (.inl ⟨_,_,rfl,m6.dnB z6,sm4⟩)
             ·rw[if_neg (JC z6)];refine Qh (Q1 (by omega) ?_);have m9:=MI.puA m6 (by omega) gA;by_cases z9:i+k+1+1=a.size
              ·rw[if_pos (beq_iff_eq.mpr z9)];exact Qi (.inl ⟨_,_,rfl,m9.last z9 p2,sm4⟩)
              ·rw[if_neg (JC z9)];split
               ·exact Qi (.inr ⟨_,_,_,_,_,_,rfl,m9,by omega,by omega,by omega,sm4⟩)
               ·exact Qi ⟨_,_,_,_,_,_,rfl,m9,by omega,by omega,by omega,sm4⟩
            ·rw[if_neg zk2];have zk2:k2=0:=by omega
             subst zk2;refine Qh (Q1 (by omega) ?_);have m9:=MI.puA m5 (by omega) gA;by_cases z9:i+k+1+1=a.size
             ·rw[if_pos (beq_iff_eq.mpr z9)];exact Qi (.inl ⟨_,_,rfl,m9.last z9 p2,sm4⟩)
             ·rw[if_neg (JC z9)];split
              ·exact Qi (.inr ⟨_,_,_,_,_,_,rfl,m9,by omega,by omega,by omega,sm4⟩)
              ·exact Qi ⟨_,_,_,_,_,_,rfl,m9,by omega,by omega,by omega,sm4⟩
        ·rw[if_neg zk];have zk:k=0:=by omega
         subst zk;refine Qh (Q1 (by omega) ?_);have m5:=MI.puB m (by omega) hB1;by_cases z5:j+1=b.size
         ·rw[if_pos (beq_iff_eq.mpr z5)];exact Qi (.inl ⟨_,_,rfl,m5.dnB z5,sm4⟩)
         ·rw[if_neg (JC z5)];refine Qh (Q1 (by omega) ?_);refine Qh (Zm hA (sm4.kind.trans hk) (ma _ (Qeb (by omega))) mb (by omega) (by omega) (λx y x1 xy y1=>sb x y (Qr _) xy (by omega)) λk2 k2n b1 b2=>?_);have b1:∀t,t<k2->c (kx b (j+1+t)) (kx a (i))=true:=λt ht=>b1 t ht
          have b2:∀t,k2<=t->t<b.size - (j+1)->c (kx b (j+1+t)) (kx a (i))=false:=λt h1 h2=>b2 t h1 h2
          dsimp only
          have gA:∀n,j+1+k2<=n->n<b.size->le c (kx a (i)) (kx b n):=λn n1 n2=>by have:=b2 (n - (j+1)) (by omega) (by omega);rwa [show j+1+(n - (j+1))=n by omega] at this
          by_cases zk2:k2 > 0
          ·rw[if_pos zk2];have m6:=MI.chB (k:=k2) m5 λt t1 t2 n n1 n2=>hA.ord.tr (hA.ord.lt_le (b1 t t1)) (sa (i) n (Qr _) n1 n2)
           by_cases z6:j+1+k2=b.size
           ·rw[if_pos (beq_iff_eq.mpr z6)];exact Qi (.inl ⟨_,_,rfl,m6.dnB z6,sm4⟩)
           ·rw[if_neg (JC z6)];refine Qh (Q1 (by omega) ?_);have m9:=MI.puA m6 (by omega) gA;by_cases z9:i+1+1=a.size
            ·rw[if_pos (beq_iff_eq.mpr z9)];exact Qi (.inl ⟨_,_,rfl,m9.last z9 p2,sm4⟩)
            ·rw[if_neg (JC z9)];split
             ·exact Qi (.inr ⟨_,_,_,_,_,_,rfl,m9,by omega,by omega,by omega,sm4⟩)
             ·exact Qi ⟨_,_,_,_,_,_,rfl,m9,by omega,by omega,by omega,sm4⟩
          ·rw[if_neg zk2];have zk2:k2=0:=by omega
           subst zk2;refine Qh (Q1 (by omega) ?_);have m9:=MI.puA m5 (by omega) gA;by_cases z9:i+1+1=a.size
           ·rw[if_pos (beq_iff_eq.mpr z9)];exact Qi (.inl ⟨_,_,rfl,m9.last z9 p2,sm4⟩)
           ·rw[if_neg (JC z9)];split
            ·exact Qi (.inr ⟨_,_,_,_,_,_,rfl,m9,by omega,by omega,by omega,sm4⟩)
            ·exact Qi ⟨_,_,_,_,_,_,rfl,m9,by omega,by omega,by omega,sm4⟩
       ·rw[if_neg z0];refine Qh (QeF sm λst4 sm4=>?_);refine Qh (Q1 (by omega) ?_);refine Qh (Zm hA (sm4.kind.trans hk) (mb _ (Qeb (by omega))) ma (by omega) (by omega) (λx y x1 xy y1=>sa x y (Qr _) xy (by omega)) λk kn b1 b2=>?_);have b1:∀t,t<k->(!c (kx b j) (kx a (i+t)))=true:=λt ht=>b1 t ht
        have b2:∀t,k<=t->t<a.size - i->(!c (kx b j) (kx a (i+t)))=false:=λt h1 h2=>b2 t h1 h2
        dsimp only
        have hB1:∀n,i+k<=n->n<a.size->le c (kx b j) (kx a n):=λn n1 n2=>by
         have:=b2 (n - i) (by omega) (by omega);rw[show i+(n - i)=n by omega] at this;exact hA.ord.lt_le (by simpa using this)
        by_cases zk:k > 0
        ·rw[if_pos zk];have m2:=MI.chA (k:=k) m λt t1 t2 n n1 n2=>by
          have:=b1 t t1;exact hA.ord.tr (show le c (kx a (i+t)) (kx b j) by simpa using this) (sb j n (Qr _) n1 n2)
         by_cases z2:i+k+1=a.size
         ·rw[if_pos (beq_iff_eq.mpr z2)];exact Qi (.inl ⟨_,_,rfl,m2.last z2 p2,sm4⟩)
         ·rw[if_neg (JC z2)];by_cases z3:i+k=a.size
          ·rw[if_pos (beq_iff_eq.mpr z3)];exact Qi (.inl ⟨_,_,rfl,m2.dnA z3,sm4⟩)
          ·rw[if_neg (JC z3)];refine Qh (Q1 (by omega) ?_);have m5:=MI.puB m2 (by omega) hB1;by_cases z5:j+1=b.size
           ·rw[if_pos (beq_iff_eq.mpr z5)];exact Qi (.inl ⟨_,_,rfl,m5.dnB z5,sm4⟩)
           ·rw[if_neg (JC z5)];refine Qh (Q1 (by omega) ?_);refine Qh (Zm hA (sm4.kind.trans hk) (ma _ (Qeb (by omega))) mb (by omega) (by omega) (λx y x1 xy y1=>sb x y (Qr _) xy (by omega)) λk2 k2n b1 b2=>?_);have b1:∀t,t<k2->c (kx b (j+1+t)) (kx a (i+k))=true:=λt ht=>b1 t ht
            have b2:∀t,k2<=t->t<b.size - (j+1)->c (kx b (j+1+t)) (kx a (i+k))=false:=λt h1 h2=>b2 t h1 h2
            dsimp only
            have gA:∀n,j+1+k2<=n->n<b.size->le c (kx a (i+k)) (kx b n):=λn n1 n2=>by have:=b2 (n - (j+1)) (by omega) (by omega);rwa [show j+1+(n - (j+1))=n by omega] at this
            by_cases zk2:k2 > 0
            ·rw[if_pos zk2];have m6:=MI.chB (k:=k2) m5 λt t1 t2 n n1 n2=>hA.ord.tr (hA.ord.lt_le (b1 t t1)) (sa (i+k) n (Qr _) n1 n2)
             by_cases z6:j+1+k2=b.size
             ·rw[if_pos (beq_iff_eq.mpr z6)];exact Qi (.inl ⟨_,_,rfl,m6.dnB z6,sm4⟩)
             ·rw[if_neg (JC z6)];refine Qh (Q1 (by omega) ?_);have m9:=MI.puA m6 (by omega) gA;by_cases z9:i+k+1+1=a.size
              ·rw[if_pos (beq_iff_eq.mpr z9)];exact Qi (.inl ⟨_,_,rfl,m9.last z9 p2,sm4⟩)
              ·rw[if_neg (JC z9)];split
               ·exact Qi (.inr ⟨_,_,_,_,_,_,rfl,m9,by omega,by omega,by omega,sm4⟩)
               ·exact Qi ⟨_,_,_,_,_,_,rfl,m9,by omega,by omega,by omega,sm4⟩
            ·rw[if_neg zk2];have zk2:k2=0:=by omega
             subst zk2;refine Qh (Q1 (by omega) ?_);have m9:=MI.puA m5 (by omega) gA;by_cases z9:i+k+1+1=a.size
             ·rw[if_pos (beq_iff_eq.mpr z9)];exact Qi (.inl ⟨_,_,rfl,m9.last z9 p2,sm4⟩)
             ·rw[if_neg (JC z9)];split
              ·exact Qi (.inr ⟨_,_,_,_,_,_,rfl,m9,by omega,by omega,by omega,sm4⟩)
              ·exact Qi ⟨_,_,_,_,_,_,rfl,m9,by omega,by omega,by omega,sm4⟩
        ·rw[if_neg zk];have zk:k=0:=by omega
         subst zk;refine Qh (Q1 (by omega) ?_);have m5:=MI.puB m (by omega) hB1;by_cases z5:j+1=b.size
         ·rw[if_pos (beq_iff_eq.mpr z5)];exact Qi (.inl ⟨_,_,rfl,m5.dnB z5,sm4⟩)
         ·rw[if_neg (JC z5)];refine Qh (Q1 (by omega) ?_);refine Qh (Zm hA (sm4.kind.trans hk) (ma _ (Qeb (by omega))) mb (by omega) (by omega) (λx y x1 xy y1=>sb x y (Qr _) xy (by omega)) λk2 k2n b1 b2=>?_);have b1:∀t,t<k2->c (kx b (j+1+t)) (kx a (i))=true:=λt ht=>b1 t ht
          have b2:∀t,k2<=t->t<b.size - (j+1)->c (kx b (j+1+t)) (kx a (i))=false:=λt h1 h2=>b2 t h1 h2
          dsimp only
          have gA:∀n,j+1+k2<=n->n<b.size->le c (kx a (i)) (kx b n):=λn n1 n2=>by have:=b2 (n - (j+1)) (by omega) (by omega);rwa [show j+1+(n - (j+1))=n by omega] at this
          by_cases zk2:k2 > 0
          ·rw[if_pos zk2];have m6:=MI.chB (k:=k2) m5 λt t1 t2 n n1 n2=>hA.ord.tr (hA.ord.lt_le (b1 t t1)) (sa (i) n (Qr _) n1 n2)
           by_cases z6:j+1+k2=b.size
           ·rw[if_pos (beq_iff_eq.mpr z6)];exact Qi (.inl ⟨_,_,rfl,m6.dnB z6,sm4⟩)
           ·rw[if_neg (JC z6)];refine Qh (Q1 (by omega) ?_);have m9:=MI.puA m6 (by omega) gA;by_cases z9:i+1+1=a.size
            ·rw[if_pos (beq_iff_eq.mpr z9)];exact Qi (.inl ⟨_,_,rfl,m9.last z9 p2,sm4⟩)
            ·rw[if_neg (JC z9)];split
             ·exact Qi (.inr ⟨_,_,_,_,_,_,rfl,m9,by omega,by omega,by omega,sm4⟩)
             ·exact Qi ⟨_,_,_,_,_,_,rfl,m9,by omega,by omega,by omega,sm4⟩
          ·rw[if_neg zk2];have zk2:k2=0:=by omega
           subst zk2;refine Qh (Q1 (by omega) ?_);have m9:=MI.puA m5 (by omega) gA;by_cases z9:i+1+1=a.size
           ·rw[if_pos (beq_iff_eq.mpr z9)];exact Qi (.inl ⟨_,_,rfl,m9.last z9 p2,sm4⟩)
           ·rw[if_neg (JC z9)];split
            ·exact Qi (.inr ⟨_,_,_,_,_,_,rfl,m9,by omega,by omega,by omega,sm4⟩)
            ·exact Qi ⟨_,_,_,_,_,_,rfl,m9,by omega,by omega,by omega,sm4⟩
end
theorem QhS(a b:Array Keyed):QfF a b=(do
 rule "list.sort.merge-hi"
 let tot:=a.size+b.size
 let dn (r:Array Keyed) (i j:Nat):=a.extract 0 i++b.extract 0 j++r.reverse
 let fb (r:Array Keyed) (i j:Nat):=b.extract 0 j++a.extract 0 i++r.reverse
 let mut i:=a.size - 1
 let mut j:=b.size
 let mut r:Array Keyed:=#[<- elem' a i]
 if i == 0 then return dn r i j
 if j == 1 then return fb r i j
 let mut mg:=gallopOf (<- get)
 for _ in [0:tot] do
  let mut p:=0
  let mut q:=0
  for _ in [0:tot] do
   let some t <- lt' (<- elem' b (j - 1)) (<- elem' a (i - 1)) | return dn r i j
   if t then
    i:=i - 1;r:=r.push (<- elem' a i);p:=p+1;q:=0
    if i == 0 then return dn r i j
    if p≥mg then break
   else
    j:=j - 1;r:=r.push (<- elem' b j);q:=q+1;p:=0
    if j == 1 then return fb r i j
    if q≥mg then break
  rule "list.sort.gallop"
  mg:=mg+1
  for _ in [0:tot] do
   if mg > 1 then mg:=mg - 1
   Yi mg
   let some t <- QbA false (<- elem' b (j - 1)) a 0 i (i - 1) | return dn r i j
   let k:=i - t
   p:=k
   if k > 0 then
    r:=r++(a.extract t i).reverse;i:=t
    if i == 0 then return dn r i j
   j:=j - 1;r:=r.push (<- elem' b j)
   if j == 1 then return fb r i j
   let some t <- QbA true (<- elem' a (i - 1)) b 0 j (j - 1) | return dn r i j
   let k:=j - t
   q:=k
   if k > 0 then
    r:=r++(b.extract t j).reverse;j:=t
    if j == 1 then return fb r i j
    if j == 0 then return dn r i j
   i:=i - 1;r:=r.push (<- elem' a i)
   if i == 0 then return dn r i j
   if p<7&&q<7 then break
  mg:=mg+1
  Yi mg
 unsupported "internal:list.sort.merge-bound"):=rfl
section
variable{c:Keyed->Keyed->Bool}
theorem QpM{r ch x y:List Keyed}(h1:Pw c ((x++ch)++r))(h2:Pw c (y++r))(h:∀u∈y,∀v∈ch,le c u v):Pw c (x++(ch++r))/\Pw c (y++(ch++r)):=by
 have h1':Pw c (x++(ch++r)):=by rw[<- QJ];exact h1
 refine⟨h1',?_⟩;have g:=Q9.mp h1';have g2:=Q9.mp h2;refine Q9.mpr ⟨g2.1,g.2.1,λu hu v hv=>?_⟩;rcases QX.mp hv with z | z
 ·exact h u hu v z
 ·exact g2.2.2 u hu v z
theorem Qi6(xs:Array Keyed)(i:Nat):(xs.extract 0 i).toList=xs.toList.take i:=by
 rw[QaE,YK,Qku,Zj]
theorem Qay(xs:Array Keyed)(t i:Nat):(xs.extract t i).toList=(xs.toList.take i).drop t:=by
 rw[QaE,YK,List.take_drop];by_cases z:t<=i
 ·rw[show t+(i - t)=i by omega]
 ·rw[show i - t=0 by omega,QeC,Yd (by rw[Zu];omega),Yd (by rw[Zu];omega)]
theorem YG{xs:Array Keyed}{t i:Nat}{p:Keyed}(h:p∈(xs.toList.take i).drop t):∃n,t<=n/\n<i/\n<xs.size/\p=kx xs n:=by
 obtain⟨n,hn⟩:=Jn.mp h;rw[Qa4,Qdz] at hn;split at hn
 ·rename_i z
  have hl:=(QQ.mp hn).1;rw[Qg] at hl;rw[Qax hl] at hn;exact⟨t+n,by omega,z,hl,(Qs hn).symm⟩
 ·cases hn
structure MH (c:Keyed->Keyed->Bool) (a b r:Array Keyed) (i j:Nat):Prop where
 ha:Pw c (a.toList.take i++r.toList.reverse)
 hb:Pw c (b.toList.take j++r.toList.reverse)
 pm:((a.toList.take i++b.toList.take j)++r.toList.reverse).Perm (a.toList++b.toList)
variable{a b r:Array Keyed}{i j t:Nat}
theorem QcX(r x:Array Keyed):(r++x.reverse).toList.reverse=x.toList++r.toList.reverse:=by
 rw[Jq,Qcp,List.reverse_append,List.reverse_reverse]
theorem MH.chA(m:MH c a b r i j)(ht:t<=i)(h:∀n,t<=n->n<i->n<a.size->∀k,k<j->k<b.size->le c (kx b k) (kx a n)):MH c a b (r++(a.extract t i).reverse) t j:=by
 have e:a.toList.take i=a.toList.take t++(a.toList.take i).drop t:=by
  have:=(JD t (a.toList.take i)).symm
  rwa [QcM,Y8 ht] at this
 have h1:=m.ha;have pm:=m.pm;rw[e] at h1 pm;obtain⟨g1,g2⟩:=QpM h1 m.hb λu hu v hv=>by
  obtain⟨n,n1,n2,n3,rfl⟩:=YG hv;obtain⟨k,_,k2,k3,rfl⟩:=YG (t:=0) (by rw[Zj];exact hu);exact h n n1 n2 n3 k k2 k3
 refine⟨by rw[QcX,Qay];exact g1,by rw[QcX,Qay];exact g2,?_⟩;rw[QcX,Qay];refine Qas ?_ pm
 rw[<- QJ];refine YT _ ?_
 rw[QJ,QJ];exact Ya _ Qao
theorem MH.chB(m:MH c a b r i j)(ht:t<=j)(h:∀n,t<=n->n<j->n<b.size->∀k,k<i->k<a.size->le c (kx a k) (kx b n)):MH c a b (r++(b.extract t j).reverse) i t:=by
 have e:b.toList.take j=b.toList.take t++(b.toList.take j).drop t:=by
  have:=(JD t (b.toList.take j)).symm
  rwa [QcM,Y8 ht] at this
 have h1:=m.hb;have pm:=m.pm;rw[e] at h1 pm;obtain⟨g1,g2⟩:=QpM h1 m.ha λu hu v hv=>by
  obtain⟨n,n1,n2,n3,rfl⟩:=YG hv;obtain⟨k,_,k2,k3,rfl⟩:=YG (t:=0) (by rw[Zj];exact hu);exact h n n1 n2 n3 k k2 k3
 refine⟨by rw[QcX,Qay];exact g2,by rw[QcX,Qay];exact g1,?_⟩;rw[QcX,Qay];refine Qas ?_ pm
 rw[<- QJ,QJ (a.toList.take i)]
theorem QiL{xs:Array Keyed}{i:Nat}(h1:1<=i)(h:i<=xs.size):r.push (kx xs (i - 1))=r++(xs.extract (i - 1) i).reverse:=by
 apply Qau.mp
 have e:=QdO xs (i - 1) 1;rw[show i - 1+1=i by omega] at e;rw[Qbn,Jq,Qcp,e,Qmj (by omega)];rfl
theorem MH.puA(m:MH c a b r i j)(h1:1<=i)(hi:i<=a.size)(h:∀k,k<j->k<b.size->le c (kx b k) (kx a (i - 1))):MH c a b (r.push (kx a (i - 1))) (i - 1) j:=by
 rw[QiL h1 hi];refine m.chA (by omega) λn n1 n2 _=>?_
 rw[show n=i - 1 by omega];exact h
theorem MH.puB(m:MH c a b r i j)(h1:1<=j)(hj:j<=b.size)(h:∀k,k<i->k<a.size->le c (kx a k) (kx b (j - 1))):MH c a b (r.push (kx b (j - 1))) i (j - 1):=by
 rw[QiL h1 hj];refine m.chB (by omega) λn n1 n2 _=>?_
 rw[show n=j - 1 by omega];exact h
theorem QbJ(x y r:Array Keyed)(i j:Nat):(x.extract 0 i++y.extract 0 j++r.reverse).toList=(x.toList.take i++y.toList.take j)++r.toList.reverse:=by
 rw[Jq,Jq,Qi6,Qi6,Qcp]
theorem MH.dnA(m:MH c a b r i j)(hi:i=0):Out c a b (a.extract 0 i++b.extract 0 j++r.reverse):=by
 have pm:=m.pm;subst hi;refine⟨?_,by rw[QbJ];exact pm⟩;rw[QbJ,QtQ,QaT];exact m.hb
theorem MH.dnB(m:MH c a b r i j)(hj:j=0):Out c a b (a.extract 0 i++b.extract 0 j++r.reverse):=by
 have pm:=m.pm;subst hj;refine⟨?_,by rw[QbJ];exact pm⟩;rw[QbJ,QtQ,Jr];exact m.ha
theorem MH.fb(m:MH c a b r i j)(hj:j=1)(p1:∀k,k<a.size->le c (kx b 0) (kx a k)):Out c a b (b.extract 0 j++a.extract 0 i++r.reverse):=by
 refine⟨?_,?_⟩
 ·rw[QbJ];have g:=Q9.mp m.hb;rw[QJ];refine Q9.mpr ⟨g.1,m.ha,λu hu v hv=>?_⟩;rcases QX.mp hv with z | z
  ·obtain⟨k,_,k2,k3,rfl⟩:=YG (t:=0) (by rw[Zj];exact hu);obtain⟨n,_,n2,n3,rfl⟩:=YG (t:=0) (by rw[Zj];exact z);rw[show k=0 by omega];exact p1 n n3
  ·exact g.2.2 u hu v z
 ·rw[QbJ];exact Qas (YT _ Qao) m.pm
end
section
variable{prog:QB}{w:Ji}{A:Q3}{E:Value->Shared->Prop}{s:Shared}{a₀:Array Keyed}{κ:Yg}{c:Keyed->Keyed->Bool}
theorem QiK{xs:Array Keyed}(sg:Sg c xs 0 xs.size):Pw c xs.toList:=ZM.mpr λx y hx hy hxy=>by
 rw[Qg] at hx hy;have e1:=Qax hx;have e2:=Qax hy;rw[Qk (by rw[Qg];exact hx)] at e1;rw[Qk (by rw[Qg];exact hy)] at e2;rw[Qs e1,Qs e2];exact sg x y (Qr _) (by omega) hy
theorem Qhv{st:JO}{a b:Array Keyed}{Q:Array Keyed->JO->Prop}(hA:Asks prog w A s κ a₀ c)(hk:kindOf st=κ)(ma:∀p∈a.toList,p∈a₀.toList)(mb:∀p∈b.toList,p∈a₀.toList)(na:1<=a.size)(nb:1<=b.size)
  (sa:Sg c a 0 a.size)(sb:Sg c b 0 b.size)(p1:∀k,k<a.size->le c (kx b 0) (kx a k))(p2:∀k,k<b.size->le c (kx b k) (kx a (a.size - 1)))(h:∀z st',Sm st st'->Out c a b z->Q z st'):wpS (model prog w) A E s (QfF a b) Q st:=by
 rw[QhS]
 dsimp only
 refine Qh (Qdw (ZP ⟨rfl,?_⟩));refine Qh (Q1 (by omega) ?_);have tk:∀xs:Array Keyed,xs.toList.take xs.size=xs.toList:=λxs=>Yc (by rw[Qg];exact Qj _)
 have m0:MH c a b #[] a.size b.size:=⟨by rw[tk];show Pw c (a.toList++[]);rw[Jr];exact QiK sa,by rw[tk];show Pw c (b.toList++[]);rw[Jr];exact QiK sb,by rw[tk,tk];show((a.toList++b.toList)++[]).Perm _;rw[Jr]⟩;have m1:MH c a b #[kx a (a.size - 1)] (a.size - 1) b.size:=MH.puA m0 na (Qj _) λk _ hk=>p2 k hk
 by_cases z1:a.size - 1=0
 ·rw[if_pos (beq_iff_eq.mpr z1)];exact Qi (h _ _ (Sm.refl st) (m1.dnA z1))
 ·rw[if_neg (JC z1)];by_cases z2:b.size=1
  ·rw[if_pos (beq_iff_eq.mpr z2)];exact Qi (h _ _ (Sm.refl st) (m1.fb z2 p1))
  ·rw[if_neg (JC z2)];refine Qh (QbN ?_);refine Qh (Ye (JN (I:=λx z st'=>∃r i j mg,z=(none,i,j,r,mg)/\MH c a b r i j/\1<=i/\i<=a.size/\2<=j/\j<=b.size/\x+1+i+j<=a.size+b.size/\Sm st st')
    (Q:=λz st'=>∃o y,z=(some o,y)/\Out c a b o/\Sm st st') ?step ?fin ⟨_,_,_,_,rfl,m1,by omega,by omega,by omega,by omega,by omega,Sm.refl st⟩) ?post)
   case post=>
    rintro z st' ⟨o,y,rfl,ho,sm⟩;exact Qi (h o st' sm ho)
   case fin=>
    rintro z st' ⟨r,i,j,mg,rfl,m,i1,i2,j1,j2,x1,sm⟩;exfalso
    omega
   case step=>
    rintro x z st' _ hx ⟨r,i,j,mg,rfl,m,i1,i2,j1,j2,x1,sm⟩
    dsimp only
    refine Qh (Ye (JN (I:=λy z st2=>∃r i j p q,z=(none,i,j,r,p,q)/\MH c a b r i j/\1<=i/\i<=a.size/\2<=j/\j<=b.size/\x+1+y+i+j<=a.size+b.size/\Sm st st2)
     (Q:=λz st2=>(∃o y,z=(some o,y)/\Out c a b o/\Sm st st2)∨∃r i j p q,z=(none,i,j,r,p,q)/\MH c a b r i j/\1<=i/\i<=a.size/\2<=j/\j<=b.size/\x+2+i+j<=a.size+b.size/\Sm st st2) ?step1 ?fin1 ⟨r,i,j,0,0,rfl,m,i1,i2,j1,j2,by omega,sm⟩) ?post1)
    case fin1=>
     rintro z st2 ⟨r,i,j,p,q,rfl,m,i1,i2,j1,j2,x1,sm⟩;exact .inr ⟨r,i,j,p,q,rfl,m,i1,i2,j1,j2,by omega,sm⟩
    case step1=>
     rintro y z st2 _ hy ⟨r,i,j,p,q,rfl,m,i1,i2,j1,j2,x1,sm⟩
     dsimp only
     refine Qh (Q1 (by omega) ?_);refine Qh (Q1 (by omega) ?_);refine Qh (Qgg hA (sm.kind.trans hk) (mb _ (Qeb (by omega))) (ma _ (Qeb (by omega))) ?_);cases e:c (kx b (j - 1)) (kx a (i - 1)) with
     |true=>
      dsimp only
      rw[if_pos rfl];refine Qh (Q1 (by omega) ?_);have m2:=MH.puA m i1 i2 λk k1 k2=>hA.ord.tr (sb k (j - 1) (Qr _) (by omega) (by omega)) (hA.ord.lt_le e)
      by_cases z3:i - 1=0
      ·rw[if_pos (beq_iff_eq.mpr z3)];exact Qi (.inl ⟨_,_,rfl,m2.dnA z3,sm⟩)
      ·rw[if_neg (JC z3)];split
       ·exact Qi (.inr ⟨_,_,_,_,_,rfl,m2,by omega,by omega,by omega,by omega,by omega,sm⟩)
       ·exact Qi ⟨_,_,_,_,_,rfl,m2,by omega,by omega,by omega,by omega,by omega,sm⟩
     |false=>
      dsimp only
      rw[if_neg (by decide)];refine Qh (Q1 (by omega) ?_);have m2:=MH.puB m (by omega) j2 λk k1 k2=>hA.ord.tr (sa k (i - 1) (Qr _) (by omega) (by omega)) e
      by_cases z3:j - 1=1
      ·rw[if_pos (beq_iff_eq.mpr z3)];exact Qi (.inl ⟨_,_,rfl,m2.fb z3 p1,sm⟩)
      ·rw[if_neg (JC z3)];split
       ·exact Qi (.inr ⟨_,_,_,_,_,rfl,m2,by omega,by omega,by omega,by omega,by omega,sm⟩)
       ·exact Qi ⟨_,_,_,_,_,rfl,m2,by omega,by omega,by omega,by omega,by omega,sm⟩
    case post1=>
     rintro z st2 (⟨o,y,rfl,ho,sm⟩ | ⟨r,i,j,p,q,rfl,m,i1,i2,j1,j2,x1,sm⟩)
     ·exact Qi ⟨o,_,rfl,ho,sm⟩
     ·dsimp only
      refine Qh (Qdw (ZP ⟨rfl,?_⟩));refine Qh (Ye (JN (I:=λy z st3=>∃r i j mg p q,z=(none,i,j,r,mg,p,q)/\MH c a b r i j/\1<=i/\i<=a.size/\2<=j/\j<=b.size/\x+2+i+j<=a.size+b.size/\Sm st st3)
       (Q:=λz st3=>(∃o y,z=(some o,y)/\Out c a b o/\Sm st st3)∨∃r i j mg p q,z=(none,i,j,r,mg,p,q)/\MH c a b r i j/\1<=i/\i<=a.size/\2<=j/\j<=b.size/\x+2+i+j<=a.size+b.size/\Sm st st3) ?step2 ?fin2 ⟨r,i,j,_,p,q,rfl,m,i1,i2,j1,j2,by omega,sm⟩) ?post2)
      case fin2=>
       rintro z st3 ⟨r,i,j,mg,p,q,rfl,m,i1,i2,j1,j2,x1,sm⟩;exact .inr ⟨r,i,j,mg,p,q,rfl,m,i1,i2,j1,j2,by omega,sm⟩
      case post2=>
       rintro z st3 (⟨o,y,rfl,ho,sm⟩ | ⟨r,i,j,mg,p,q,rfl,m,i1,i2,j1,j2,x1,sm⟩)
       ·exact Qi ⟨o,_,rfl,ho,sm⟩
       ·dsimp only
        exact Qh (QeF sm λst4 sm4=>Qi ⟨_,_,_,_,rfl,m,i1,i2,j1,j2,by omega,sm4⟩)
      case step2=>
       rintro y z st3 _ hy ⟨r,i,j,mg,p,q,rfl,m,i1,i2,j1,j2,x1,sm⟩
       dsimp only
       by_cases z0:mg > 1
       ·rw[if_pos z0];refine Qh (QeF sm λst4 sm4=>?_);refine Qh (Q1 (by omega) ?_);refine Qh (Zm hA (sm4.kind.trans hk) (mb _ (Qeb (by omega))) ma (by omega) (by omega) (λx y x1 xy y1=>sa x y (Qr _) xy (by omega)) λt tn b1 b2=>?_);have lowA:∀n,n<t->le c (kx a n) (kx b (j - 1)):=λn hn=>by
         have:(!c (kx b (j - 1)) (kx a (0+n)))=true:=b1 n hn;rw[Zo] at this
         simpa using this
        have b2:∀n,t<=n->n<i->c (kx b (j - 1)) (kx a n)=true:=λn h1 h2=>by
         have:(!c (kx b (j - 1)) (kx a (0+n)))=false:=b2 n h1 h2;rw[Zo] at this
         simpa using this
        dsimp only
        by_cases zk:i - t > 0
        ·rw[if_pos zk];have m2:=MH.chA (t:=t) m tn λn n1 n2 _ k k1 k2=>hA.ord.tr (sb k (j - 1) (Qr _) (by omega) (by omega)) (hA.ord.lt_le (b2 n n1 n2))
         by_cases z2:t=0
         ·rw[if_pos (beq_iff_eq.mpr z2)];exact Qi (.inl ⟨_,_,rfl,m2.dnA z2,sm4⟩)
         ·rw[if_neg (JC z2)];refine Qh (Q1 (by omega) ?_);have m5:=MH.puB m2 (by omega) (by omega) λk k1 k2=>lowA k k1
          by_cases z5:j - 1=1
          ·rw[if_pos (beq_iff_eq.mpr z5)];exact Qi (.inl ⟨_,_,rfl,m5.fb z5 p1,sm4⟩)
          ·rw[if_neg (JC z5)];refine Qh (Q1 (by omega) ?_);refine Qh (Zm hA (sm4.kind.trans hk) (ma _ (Qeb (by omega))) mb (by omega) (by omega) (λx y x1 xy y1=>sb x y (Qr _) xy (by omega)) λt2 t2n b1 b2=>?_);have b1:∀n,n<t2->c (kx b n) (kx a (t - 1))=true:=λn hn=>by have:=b1 n hn;rwa [Zo] at this
           have b2:∀n,t2<=n->n<j - 1->c (kx b n) (kx a (t - 1))=false:=λn h1 h2=>by have:=b2 n h1 h2;rwa [Zo] at this
           dsimp only
           by_cases zk2:j - 1 - t2 > 0
           ·rw[if_pos zk2];have m6:=MH.chB (t:=t2) m5 t2n λn n1 n2 _ k k1 k2=>hA.ord.tr (sa k (t - 1) (Qr _) (by omega) (by omega)) (b2 n n1 n2)
            by_cases z6:t2=1
            ·rw[if_pos (beq_iff_eq.mpr z6)];exact Qi (.inl ⟨_,_,rfl,m6.fb z6 p1,sm4⟩)
            ·rw[if_neg (JC z6)];by_cases z7:t2=0
             ·rw[if_pos (beq_iff_eq.mpr z7)];exact Qi (.inl ⟨_,_,rfl,m6.dnB z7,sm4⟩)
             ·rw[if_neg (JC z7)];refine Qh (Q1 (by omega) ?_);have m9:=MH.puA m6 (by omega) (by omega) λk k1 k2=>hA.ord.lt_le (b1 k k1)
              by_cases z9:t - 1=0
              ·rw[if_pos (beq_iff_eq.mpr z9)];exact Qi (.inl ⟨_,_,rfl,m9.dnA z9,sm4⟩)
              ·rw[if_neg (JC z9)];split
               ·exact Qi (.inr ⟨_,_,_,_,_,_,rfl,m9,by omega,by omega,by omega,by omega,by omega,sm4⟩)
               ·exact Qi ⟨_,_,_,_,_,_,rfl,m9,by omega,by omega,by omega,by omega,by omega,sm4⟩
           ·rw[if_neg zk2];have zt:t2=j - 1:=by omega
            refine Qh (Q1 (by omega) ?_);have m9:=MH.puA m5 (by omega) (by omega) λk k1 k2=>hA.ord.lt_le (b1 k (by omega))
            by_cases z9:t - 1=0
            ·rw[if_pos (beq_iff_eq.mpr z9)];exact Qi (.inl ⟨_,_,rfl,m9.dnA z9,sm4⟩)
            ·rw[if_neg (JC z9)];split
             ·exact Qi (.inr ⟨_,_,_,_,_,_,rfl,m9,by omega,by omega,by omega,by omega,by omega,sm4⟩)
             ·exact Qi ⟨_,_,_,_,_,_,rfl,m9,by omega,by omega,by omega,by omega,by omega,sm4⟩
        ·rw[if_neg zk];have zt:t=i:=by omega
         subst zt;refine Qh (Q1 (by omega) ?_);have m5:=MH.puB m (by omega) (by omega) λk k1 k2=>lowA k k1
         by_cases z5:j - 1=1
         ·rw[if_pos (beq_iff_eq.mpr z5)];exact Qi (.inl ⟨_,_,rfl,m5.fb z5 p1,sm4⟩)
         ·rw[if_neg (JC z5)];refine Qh (Q1 (by omega) ?_);refine Qh (Zm hA (sm4.kind.trans hk) (ma _ (Qeb (by omega))) mb (by omega) (by omega) (λx y x1 xy y1=>sb x y (Qr _) xy (by omega)) λt2 t2n b1 b2=>?_);have b1:∀n,n<t2->c (kx b n) (kx a (t - 1))=true:=λn hn=>by have:=b1 n hn;rwa [Zo] at this
          have b2:∀n,t2<=n->n<j - 1->c (kx b n) (kx a (t - 1))=false:=λn h1 h2=>by have:=b2 n h1 h2;rwa [Zo] at this
          dsimp only
          by_cases zk2:j - 1 - t2 > 0
          ·rw[if_pos zk2];have m6:=MH.chB (t:=t2) m5 t2n λn n1 n2 _ k k1 k2=>hA.ord.tr (sa k (t - 1) (Qr _) (by omega) (by omega)) (b2 n n1 n2)
           by_cases z6:t2=1
           ·rw[if_pos (beq_iff_eq.mpr z6)];exact Qi (.inl ⟨_,_,rfl,m6.fb z6 p1,sm4⟩)
           ·rw[if_neg (JC z6)];by_cases z7:t2=0
            ·rw[if_pos (beq_iff_eq.mpr z7)];exact Qi (.inl ⟨_,_,rfl,m6.dnB z7,sm4⟩)
            ·rw[if_neg (JC z7)];refine Qh (Q1 (by omega) ?_);have m9:=MH.puA m6 (by omega) (by omega) λk k1 k2=>hA.ord.lt_le (b1 k k1)
             by_cases z9:t - 1=0
             ·rw[if_pos (beq_iff_eq.mpr z9)];exact Qi (.inl ⟨_,_,rfl,m9.dnA z9,sm4⟩)
             ·rw[if_neg (JC z9)];split
              ·exact Qi (.inr ⟨_,_,_,_,_,_,rfl,m9,by omega,by omega,by omega,by omega,by omega,sm4⟩)
              ·exact Qi ⟨_,_,_,_,_,_,rfl,m9,by omega,by omega,by omega,by omega,by omega,sm4⟩
          ·rw[if_neg zk2];have zt:t2=j - 1:=by omega
           refine Qh (Q1 (by omega) ?_);have m9:=MH.puA m5 (by omega) (by omega) λk k1 k2=>hA.ord.lt_le (b1 k (by omega))
           by_cases z9:t - 1=0
           ·rw[if_pos (beq_iff_eq.mpr z9)];exact Qi (.inl ⟨_,_,rfl,m9.dnA z9,sm4⟩)
           ·rw[if_neg (JC z9)];split
            ·exact Qi (.inr ⟨_,_,_,_,_,_,rfl,m9,by omega,by omega,by omega,by omega,by omega,sm4⟩)
            ·exact Qi ⟨_,_,_,_,_,_,rfl,m9,by omega,by omega,by omega,by omega,by omega,sm4⟩
       ·rw[if_neg z0];refine Qh (QeF sm λst4 sm4=>?_);refine Qh (Q1 (by omega) ?_);refine Qh (Zm hA (sm4.kind.trans hk) (mb _ (Qeb (by omega))) ma (by omega) (by omega) (λx y x1 xy y1=>sa x y (Qr _) xy (by omega)) λt tn b1 b2=>?_);have lowA:∀n,n<t->le c (kx a n) (kx b (j - 1)):=λn hn=>by
         have:(!c (kx b (j - 1)) (kx a (0+n)))=true:=b1 n hn;rw[Zo] at this
         simpa using this
        have b2:∀n,t<=n->n<i->c (kx b (j - 1)) (kx a n)=true:=λn h1 h2=>by
         have:(!c (kx b (j - 1)) (kx a (0+n)))=false:=b2 n h1 h2;rw[Zo] at this
         simpa using this
        dsimp only
        by_cases zk:i - t > 0
        ·rw[if_pos zk];have m2:=MH.chA (t:=t) m tn λn n1 n2 _ k k1 k2=>hA.ord.tr (sb k (j - 1) (Qr _) (by omega) (by omega)) (hA.ord.lt_le (b2 n n1 n2))
         by_cases z2:t=0
         ·rw[if_pos (beq_iff_eq.mpr z2)];exact Qi (.inl ⟨_,_,rfl,m2.dnA z2,sm4⟩)
         ·rw[if_neg (JC z2)];refine Qh (Q1 (by omega) ?_);have m5:=MH.puB m2 (by omega) (by omega) λk k1 k2=>lowA k k1
          by_cases z5:j - 1=1
          ·rw[if_pos (beq_iff_eq.mpr z5)];exact Qi (.inl ⟨_,_,rfl,m5.fb z5 p1,sm4⟩)
          ·rw[if_neg (JC z5)];refine Qh (Q1 (by omega) ?_);refine Qh (Zm hA (sm4.kind.trans hk) (ma _ (Qeb (by omega))) mb (by omega) (by omega) (λx y x1 xy y1=>sb x y (Qr _) xy (by omega)) λt2 t2n b1 b2=>?_);have b1:∀n,n<t2->c (kx b n) (kx a (t - 1))=true:=λn hn=>by have:=b1 n hn;rwa [Zo] at this
           have b2:∀n,t2<=n->n<j - 1->c (kx b n) (kx a (t - 1))=false:=λn h1 h2=>by have:=b2 n h1 h2;rwa [Zo] at this
           dsimp only
           by_cases zk2:j - 1 - t2 > 0
           ·rw[if_pos zk2];have m6:=MH.chB (t:=t2) m5 t2n λn n1 n2 _ k k1 k2=>hA.ord.tr (sa k (t - 1) (Qr _) (by omega) (by omega)) (b2 n n1 n2)
            by_cases z6:t2=1
            ·rw[if_pos (beq_iff_eq.mpr z6)];exact Qi (.inl ⟨_,_,rfl,m6.fb z6 p1,sm4⟩)
            ·rw[if_neg (JC z6)];by_cases z7:t2=0
             ·rw[if_pos (beq_iff_eq.mpr z7)];exact Qi (.inl ⟨_,_,rfl,m6.dnB z7,sm4⟩)
             ·rw[if_neg (JC z7)];refine Qh (Q1 (by omega) ?_);have m9:=MH.puA m6 (by omega) (by omega) λk k1 k2=>hA.ord.lt_le (b1 k k1)
              by_cases z9:t - 1=0
              ·rw[if_pos (beq_iff_eq.mpr z9)];exact Qi (.inl ⟨_,_,rfl,m9.dnA z9,sm4⟩)
              ·rw[if_neg (JC z9)];split
               ·exact Qi (.inr ⟨_,_,_,_,_,_,rfl,m9,by omega,by omega,by omega,by omega,by omega,sm4⟩)
               ·exact Qi ⟨_,_,_,_,_,_,rfl,m9,by omega,by omega,by omega,by omega,by omega,sm4⟩
           ·rw[if_neg zk2];have zt:t2=j - 1:=by omega
            refine Qh (Q1 (by omega) ?_);have m9:=MH.puA m5 (by omega) (by omega) λk k1 k2=>hA.ord.lt_le (b1 k (by omega))
            by_cases z9:t - 1=0
            ·rw[if_pos (beq_iff_eq.mpr z9)];exact Qi (.inl ⟨_,_,rfl,m9.dnA z9,sm4⟩)
            ·rw[if_neg (JC z9)];split
             ·exact Qi (.inr ⟨_,_,_,_,_,_,rfl,m9,by omega,by omega,by omega,by omega,by omega,sm4⟩)
             ·exact Qi ⟨_,_,_,_,_,_,rfl,m9,by omega,by omega,by omega,by omega,by omega,sm4⟩
        ·rw[if_neg zk];have zt:t=i:=by omega
         subst zt;refine Qh (Q1 (by omega) ?_);have m5:=MH.puB m (by omega) (by omega) λk k1 k2=>lowA k k1
         by_cases z5:j - 1=1
         ·rw[if_pos (beq_iff_eq.mpr z5)];exact Qi (.inl ⟨_,_,rfl,m5.fb z5 p1,sm4⟩)
         ·rw[if_neg (JC z5)];refine Qh (Q1 (by omega) ?_);refine Qh (Zm hA (sm4.kind.trans hk) (ma _ (Qeb (by omega))) mb (by omega) (by omega) (λx y x1 xy y1=>sb x y (Qr _) xy (by omega)) λt2 t2n b1 b2=>?_);have b1:∀n,n<t2->c (kx b n) (kx a (t - 1))=true:=λn hn=>by have:=b1 n hn;rwa [Zo] at this
          have b2:∀n,t2<=n->n<j - 1->c (kx b n) (kx a (t - 1))=false:=λn h1 h2=>by have:=b2 n h1 h2;rwa [Zo] at this
          dsimp only
          by_cases zk2:j - 1 - t2 > 0
          ·rw[if_pos zk2];have m6:=MH.chB (t:=t2) m5 t2n λn n1 n2 _ k k1 k2=>hA.ord.tr (sa k (t - 1) (Qr _) (by omega) (by omega)) (b2 n n1 n2)
           by_cases z6:t2=1
           ·rw[if_pos (beq_iff_eq.mpr z6)];exact Qi (.inl ⟨_,_,rfl,m6.fb z6 p1,sm4⟩)
           ·rw[if_neg (JC z6)];by_cases z7:t2=0
            ·rw[if_pos (beq_iff_eq.mpr z7)];exact Qi (.inl ⟨_,_,rfl,m6.dnB z7,sm4⟩)
            ·rw[if_neg (JC z7)];refine Qh (Q1 (by omega) ?_);have m9:=MH.puA m6 (by omega) (by omega) λk k1 k2=>hA.ord.lt_le (b1 k k1)
             by_cases z9:t - 1=0
             ·rw[if_pos (beq_iff_eq.mpr z9)];exact Qi (.inl ⟨_,_,rfl,m9.dnA z9,sm4⟩)
             ·rw[if_neg (JC z9)];split
              ·exact Qi (.inr ⟨_,_,_,_,_,_,rfl,m9,by omega,by omega,by omega,by omega,by omega,sm4⟩)
              ·exact Qi ⟨_,_,_,_,_,_,rfl,m9,by omega,by omega,by omega,by omega,by omega,sm4⟩
          ·rw[if_neg zk2];have zt:t2=j - 1:=by omega
           refine Qh (Q1 (by omega) ?_);have m9:=MH.puA m5 (by omega) (by omega) λk k1 k2=>hA.ord.lt_le (b1 k (by omega))
           by_cases z9:t - 1=0
           ·rw[if_pos (beq_iff_eq.mpr z9)];exact Qi (.inl ⟨_,_,rfl,m9.dnA z9,sm4⟩)
           ·rw[if_neg (JC z9)];split
            ·exact Qi (.inr ⟨_,_,_,_,_,_,rfl,m9,by omega,by omega,by omega,by omega,by omega,sm4⟩)
            ·exact Qi ⟨_,_,_,_,_,_,rfl,m9,by omega,by omega,by omega,by omega,by omega,sm4⟩
end
theorem QhT(i:Nat):mergeAt' i=(do
 let z <- get
 let (some (u,n,pw),some (v,m,_)):=((pendingOf z)[i]?,(pendingOf z)[i+1]?) | unsupported "internal:list.sort.pending"
 set (setPending z (((pendingOf z).setIfInBounds i (u,n+m,pw)).eraseIdxIfInBounds (i+1)))
 let some k <- QbA false (<- elem' (arrOf z) v) (arrOf z) u n 0 | return false
 let (u,n):=(u+k,n - k)
 if n == 0 then return true
 let some m <- QbA true (<- elem' (arrOf z) (u+n - 1)) (arrOf z) v m (m - 1) | return false
 if m == 0 then return true
 let x:=(arrOf z).extract u v
 let y:=(arrOf z).extract v (v+m)
 let mm <- if n<=m then QfE x y else QfF x y
 modify λz=>setArr z (mm.toList.zipIdx.foldl (λa (p,j)=>a.setIfInBounds (u+j) p) (arrOf z))
 return (failedOf (<- get)).isNone):=rfl
theorem Qrc{σ:Type}{M:QwW}{A:Q3}{E:Value->Shared->Prop}{s:Shared}{Q:PUnit->σ->Prop}{st st':σ}(h:Q ⟨⟩ st'):wpS M A E s (set st':StateT σ Sem PUnit) Q st:=by
 unfold wpS;rw[StateT.run_set];exact wpAny_pure ⟨rfl,h⟩
theorem QiX(u:Nat):∀(z:List Keyed)(m:Nat)(xs:Array Keyed),u+m+z.length<=xs.size->((z.zipIdx m).foldl (λa (p:Keyed×Nat)=>a.setIfInBounds (u+p.2) p.1) xs).toList=xs.toList.take (u+m)++z++xs.toList.drop (u+m+z.length)
 |[],m,xs,_=>by
  show xs.toList=_;rw[Jr,Qcd,QeC,JD]
 |p::z,m,xs,h=>by
  rw[QL] at h;rw[List.zipIdx_cons,Qce];have ih:=QiX u z (m+1) (xs.setIfInBounds (u+m) p) (by rw[Array.size_setIfInBounds];omega);rw[ih,Qf5,List.set_eq_take_append_cons_drop,if_pos (by rw[Qg];omega)];have lt:(xs.toList.take (u+m)).length=u+m:=by rw[Zu,Qg];omega
  have e1:(xs.toList.take (u+m)++p::xs.toList.drop (u+m+1)).take (u+(m+1))=xs.toList.take (u+m)++[p]:=by
   rw[List.take_append,lt,Yc (by omega),show u+(m+1) - (u+m)=1 by omega];rfl
  have e2:(xs.toList.take (u+m)++p::xs.toList.drop (u+m+1)).drop (u+(m+1)+z.length)=xs.toList.drop (u+m+(p::z).length):=by
   rw[List.drop_append,lt,Yd (by omega),QaT,show u+(m+1)+z.length - (u+m)=z.length+1 by omega,List.drop_succ_cons,Qhh,QL]
   congr 1
   omega
  rw[e1,e2,QJ,QJ,QJ];rfl
theorem QgO{xs ys:Array Keyed}{i j:Nat}(h:xs.toList[i]? = ys.toList[j]?):kx xs i=kx ys j:=by
 rw[JQ,JQ] at h;exact Qh1 h
theorem QpA{xs:Array Keyed}{u v t:Nat}(h:u+t<v)(hv:v<=xs.size):kx (xs.extract u v) t=kx xs (u+t):=by
 refine Qh1 ?_
 rw[Array.getElem?_extract,if_pos (by omega)]
section
variable{c:Keyed->Keyed->Bool}
structure Laid (c:Keyed->Keyed->Bool) (xs ws z:Array Keyed) (lo hi:Nat):Prop where
 size:ws.size=xs.size
 perm:ws.Perm xs
 out:∀n,n<lo∨hi<=n->kx ws n=kx xs n
 mid:∀n,lo<=n->n<hi->kx ws n=kx z (n - lo)
 zs:z.size=hi - lo
 of_:∀n,lo<=n->n<hi->∃m,lo<=m/\m<hi/\kx ws n=kx xs m
theorem QsT{xs z:Array Keyed}{lo v hi:Nat}(h1:lo<=v)(h2:v<=hi)(h3:hi<=xs.size)(o:Out c (xs.extract lo v) (xs.extract v hi) z):Laid c xs (z.toList.zipIdx.foldl (λa (p:Keyed×Nat)=>a.setIfInBounds (lo+p.2) p.1) xs) z lo hi:=by
 have ln:z.toList.length=hi - lo:=by
  rw[o.2.length_eq,Qo,Qg,Qg,Qa0,Qa0];omega
 have zs:z.size=hi - lo:=by rw[<- ln,Qg]
 have lb:=QiX lo z.toList 0 xs (by omega);rw[QeC,ln,show lo+(hi - lo)=hi by omega] at lb;generalize hw:z.toList.zipIdx.foldl (λa (p:Keyed×Nat)=>a.setIfInBounds (lo+p.2) p.1) xs=ws;rw[show z.toList.zipIdx 0=z.toList.zipIdx from rfl,hw] at lb;have lt:(xs.toList.take lo).length=lo:=by rw[Zu,Qg];omega
 have mid0:xs.toList=xs.toList.take lo++((xs.extract lo v).toList++(xs.extract v hi).toList)++xs.toList.drop hi:=by
  rw[Qay,Qay];have e1:xs.toList.take hi=xs.toList.take v++(xs.toList.take hi).drop v:=by
   have:=(JD v (xs.toList.take hi)).symm
   rwa [QcM,Y8 h2] at this
  have e2:xs.toList.take v=xs.toList.take lo++(xs.toList.take v).drop lo:=by
   have:=(JD lo (xs.toList.take v)).symm
   rwa [QcM,Y8 h1] at this
  rw[<- QJ,<- e2,<- e1,JD]
 have szl:ws.toList.length=xs.toList.length:=by
  rw[lb,Qo,Qo,lt,ln,QaD,Qg];omega
 have md:∀n,lo<=n->n<hi->kx ws n=kx z (n - lo):=λn n1 n2=>by
  refine QgO ?_
  rw[lb,Zi (by rw[Qo,lt,ln];omega),JF (by rw[lt];exact n1),lt]
 refine⟨by rw[<- Qg,szl,Qg],?_,λn hn=>?_,md,zs,λn n1 n2=>?_⟩
 ·refine Yy.mpr ?_
  rw[lb]
  conv=>rhs;rw[mid0]
  exact YT _ (Ya _ o.2)
 ·refine QgO ?_
  rw[lb];rcases hn with hn | hn
  ·rw[QJ,Zi (by rw[lt];exact hn),Qdz,if_pos hn]
  ·rw[JF (by rw[Qo,lt,ln];omega),Qo,lt,ln,Qa4]
   congr 1
   omega
 ·have hz:n - lo<z.size:=by omega
  have hm:=o.2.mem_iff.mp (Qeb hz);rw[md n n1 n2];rcases QX.mp hm with q | q
  ·rw[Qay] at q;obtain⟨m,m1,m2,_,e⟩:=YG q;exact⟨m,m1,by omega,e⟩
  ·rw[Qay] at q;obtain⟨m,m1,m2,_,e⟩:=YG q;exact⟨m,by omega,m2,e⟩
end
section
variable{prog:QB}{w:Ji}{A:Q3}{E:Value->Shared->Prop}{s:Shared}{a₀:Array Keyed}{κ:Yg}{c:Keyed->Keyed->Bool}
structure Mg (κ:Yg) (a₀:Array Keyed) (c:Keyed->Keyed->Bool) (st st':JO) (i u v hi pn pw:Nat):Prop where
 sb:SB κ a₀ st'
 pend:pendingOf st'=((pendingOf st).setIfInBounds i (u,pn,pw)).eraseIdxIfInBounds (i+1)
 out:∀n,n<u∨hi<=n->kx (arrOf st') n=kx (arrOf st) n
 sg:Sg c (arrOf st') u hi
theorem Qhw{st:JO}{i u n pw m pw2:Nat}{Q:Bool->JO->Prop}(hA:Asks prog w A s κ a₀ c)(hB:SB κ a₀ st)(e1:(pendingOf st)[i]? = some (u,n,pw))(e2:(pendingOf st)[i+1]? = some (u+n,m,pw2))(n1:1<=n)(m1:1<=m)(hz:u+n+m<=a₀.size)
  (s1:Sg c (arrOf st) u (u+n))(s2:Sg c (arrOf st) (u+n) (u+n+m))(h:∀st',Mg κ a₀ c st st' i u (u+n) (u+n+m) (n+m) pw->Q true st'):wpS (model prog w) A E s (mergeAt' i) Q st:=by
 have sz:=hB.size;have mem:∀p∈(arrOf st).toList,p∈a₀.toList:=λp hp=>hB.mem hp
 have memE:∀{x y:Nat}{p:Keyed},p∈((arrOf st).extract x y).toList->p∈a₀.toList:=λ{x y p} hp=>mem p (by rw[Qay] at hp;exact List.mem_of_mem_take (List.mem_of_mem_drop hp))
 rw[QhT];refine Qh (QbN ?_);rw[e1,e2]
 dsimp only
 refine Qh (Qrc ?_);refine Qh (Q1 (by omega) ?_);refine Qh (Zm hA hB.kind (mem _ (Qeb (by omega))) mem (by omega) (by omega) s1 λk kn b1 b2=>?_);have b1:∀t,t<k->le c (kx (arrOf st) (u+t)) (kx (arrOf st) (u+n)):=λt ht=>by
  have:(!c (kx (arrOf st) (u+n)) (kx (arrOf st) (u+t)))=true:=b1 t ht
  simpa using this
 have b2:∀t,k<=t->t<n->c (kx (arrOf st) (u+n)) (kx (arrOf st) (u+t))=true:=λt h1 h2=>by
  have:(!c (kx (arrOf st) (u+n)) (kx (arrOf st) (u+t)))=false:=b2 t h1 h2
  simpa using this
 dsimp only
 by_cases z1:n - k=0
 ·rw[if_pos (beq_iff_eq.mpr z1)];refine Qi (h _ ⟨⟨hB.perm,hB.kind,hB.failed⟩,rfl,λ_ _=>rfl,λx y x1 xy y1=>?_⟩);show le c (kx (arrOf st) x) (kx (arrOf st) y);by_cases zx:x<u+n
  ·by_cases zy:y<u+n
   ·exact s1 x y x1 xy zy
   ·have:=b1 (x - u) (by omega);rw[show u+(x - u)=x by omega] at this;exact hA.ord.tr this (s2 (u+n) y (Qj _) (by omega) y1)
  ·exact s2 x y (by omega) xy y1
 ·rw[if_neg (JC z1)];have hl:u+k+(n - k) - 1=u+n - 1:=by omega
  rw[hl];refine Qh (Q1 (by omega) ?_);refine Qh (Zm hA hB.kind (mem _ (Qeb (by omega))) mem (by omega) (by omega) s2 λm2 mn d1 d2=>?_);have d1:∀t,t<m2->c (kx (arrOf st) (u+n+t)) (kx (arrOf st) (u+n - 1))=true:=λt ht=>d1 t ht
  have d2:∀t,m2<=t->t<m->le c (kx (arrOf st) (u+n - 1)) (kx (arrOf st) (u+n+t)):=λt h1 h2=>d2 t h1 h2
  dsimp only
  by_cases z2:m2=0
  ·rw[if_pos (beq_iff_eq.mpr z2)];refine Qi (h _ ⟨⟨hB.perm,hB.kind,hB.failed⟩,rfl,λ_ _=>rfl,λx y x1 xy y1=>?_⟩);show le c (kx (arrOf st) x) (kx (arrOf st) y);by_cases zx:x<u+n
   ·by_cases zy:y<u+n
    ·exact s1 x y x1 xy zy
    ·have:=d2 (y - (u+n)) (by omega) (by omega);rw[show u+n+(y - (u+n))=y by omega] at this;exact hA.ord.tr (s1 x (u+n - 1) x1 (by omega) (by omega)) this
   ·exact s2 x y (by omega) xy y1
  ·rw[if_neg (JC z2)];have ex:∀t,t<n - k->kx ((arrOf st).extract (u+k) (u+n)) t=kx (arrOf st) (u+k+t):=λt ht=>QpA (by omega) (by omega)
   have ey:∀t,t<m2->kx ((arrOf st).extract (u+n) (u+n+m2)) t=kx (arrOf st) (u+n+t):=λt ht=>QpA (by omega) (by omega)
   have sx:((arrOf st).extract (u+k) (u+n)).size=n - k:=by rw[Qa0];omega
   have sy:((arrOf st).extract (u+n) (u+n+m2)).size=m2:=by rw[Qa0];omega
   have fin:∀(z:Array Keyed)(st':JO),Sm (setPending st (((pendingOf st).setIfInBounds i (u,n+m,pw)).eraseIdxIfInBounds (i+1))) st'->Out c ((arrOf st).extract (u+k) (u+n)) ((arrOf st).extract (u+n) (u+n+m2)) z ->
     wpS (model prog w) A E s (do
      modify λx=>setArr x (z.toList.zipIdx.foldl (λa (p,j)=>a.setIfInBounds (u+k+j) p) (arrOf x))
      return (failedOf (<- get)).isNone) Q st':=λz st' sm o=>by
    refine Qh (Qab (Qh (QbN ?_)));have fe:failedOf st'=none:=sm.failed.trans hB.failed;have ae:arrOf st'=arrOf st:=sm.arr;have L:=QsT (c:=c) (xs:=arrOf st) (z:=z) (lo:=u+k) (v:=u+n) (hi:=u+n+m2) (by omega) (by omega) (by omega) o;refine Qi ?_
    show Q ((failedOf st').isNone) _;rw[fe,ae];refine h _ ⟨⟨L.perm.trans hB.perm,sm.kind.trans hB.kind,fe⟩,sm.pend,λx hx=>L.out x (by omega),λx y x1 xy y1=>?_⟩;generalize z.toList.zipIdx.foldl (λa (p:Keyed×Nat)=>a.setIfInBounds (u+k+p.2) p.1) (arrOf st)=ws at L;show le c (kx ws x) (kx ws y);have a0:∀x,u<=x->x<u+k->le c (kx (arrOf st) x) (kx (arrOf st) (u+n)):=λx g1 g2=>by have:=b1 (x - u) (by omega);rwa [show u+(x - u)=x by omega] at this
    have b9:∀y,u+n+m2<=y->y<u+n+m->le c (kx (arrOf st) (u+n - 1)) (kx (arrOf st) y):=λy g1 g2=>by have:=d2 (y - (u+n)) (by omega) (by omega);rwa [show u+n+(y - (u+n))=y by omega] at this
    by_cases zx:x<u+k
    ·rw[L.out x (.inl zx)];by_cases zy:y<u+k
     ·rw[L.out y (.inl zy)];exact s1 x y x1 xy (by omega)
     ·by_cases zy2:y<u+n+m2
      ·obtain⟨q,q1,q2,qe⟩:=L.of_ y (by omega) zy2;rw[qe];by_cases zq:q<u+n
       ·exact s1 x q x1 (by omega) zq
       ·exact hA.ord.tr (a0 x x1 zx) (s2 (u+n) q (Qj _) (by omega) (by omega))
      ·rw[L.out y (.inr (by omega))];exact hA.ord.tr (a0 x x1 zx) (s2 (u+n) y (Qj _) (by omega) y1)
    ·by_cases zx2:x<u+n+m2
     ·by_cases zy2:y<u+n+m2
      ·rw[L.mid x (by omega) zx2,L.mid y (by omega) zy2];by_cases xe:x=y
       ·subst xe;exact hA.ord.irr _
       ·have g:=ZM.mp o.1 (x - (u+k)) (y - (u+k)) (by rw[Qg,L.zs];omega) (by rw[Qg,L.zs];omega) (by omega);have k1:=Qax (xs:=z) (i:=x - (u+k)) (by rw[L.zs];omega);have k2:=Qax (xs:=z) (i:=y - (u+k)) (by rw[L.zs];omega);rw[Qk (by rw[Qg,L.zs];omega)] at k1 k2;rw[Qs k1,Qs k2] at g;exact g
      ·rw[L.out y (.inr (by omega))];obtain⟨q,q1,q2,qe⟩:=L.of_ x (by omega) zx2;rw[qe];by_cases zq:q<u+n
       ·exact hA.ord.tr (s1 q (u+n - 1) (by omega) (by omega) (by omega)) (b9 y (by omega) y1)
       ·exact s2 q y (by omega) (by omega) y1
     ·rw[L.out x (.inr (by omega)),L.out y (.inr (by omega))];exact s2 x y (by omega) xy y1
   have hsx:Sg c ((arrOf st).extract (u+k) (u+n)) 0 ((arrOf st).extract (u+k) (u+n)).size:=λx y _ xy y1=>by
    rw[sx] at y1;rw[ex x (by omega),ex y y1];exact s1 _ _ (by omega) (by omega) (by omega)
   have hsy:Sg c ((arrOf st).extract (u+n) (u+n+m2)) 0 ((arrOf st).extract (u+n) (u+n+m2)).size:=λx y _ xy y1=>by
    rw[sy] at y1;rw[ey x (by omega),ey y y1];exact s2 _ _ (by omega) (by omega) (by omega)
   have hp1:∀t,t<((arrOf st).extract (u+k) (u+n)).size->le c (kx ((arrOf st).extract (u+n) (u+n+m2)) 0) (kx ((arrOf st).extract (u+k) (u+n)) t):=λt ht=>by
    rw[sx] at ht;rw[ey 0 (by omega),ex t ht,QeC];have:=b2 (k+t) (by omega) (by omega);rw[show u+(k+t)=u+k+t by omega] at this;exact hA.ord.lt_le this
   have hp2:∀t,t<((arrOf st).extract (u+n) (u+n+m2)).size->le c (kx ((arrOf st).extract (u+n) (u+n+m2)) t) (kx ((arrOf st).extract (u+k) (u+n)) (((arrOf st).extract (u+k) (u+n)).size - 1)):=λt ht=>by
    rw[sy] at ht;rw[sx,ey t ht,ex (n - k - 1) (by omega),show u+k+(n - k - 1)=u+n - 1 by omega];exact hA.ord.lt_le (d1 t ht)
   split
   ·exact Qh (Qhu hA hB.kind (λp hp=>memE hp) (λp hp=>memE hp) (by rw[sx];omega) (by rw[sy];omega) hsx hsy hp1 hp2 λz st' sm o=>fin z st' sm o)
   ·exact Qh (Qhv hA hB.kind (λp hp=>memE hp) (λp hp=>memE hp) (by rw[sx];omega) (by rw[sy];omega) hsx hsy hp1 hp2 λz st' sm o=>fin z st' sm o)
end
def RunsOk:List (Nat×Nat)->Nat->Nat->Prop
 |[],s,e=>s=e
 |(s',n)::r,s,e=>s'=s/\1<=n/\RunsOk r (s+n) e
theorem RunsOk.app:∀{l1 l2:List (Nat×Nat)}{s e:Nat},RunsOk (l1++l2) s e↔∃m,RunsOk l1 s m/\RunsOk l2 m e
 |[],l2,s,e=>⟨λh=>⟨s,rfl,h⟩,λ⟨m,h1,h2⟩=>by cases(show s=m from h1);exact h2⟩
 |(s',n)::l1,l2,s,e=>by
  constructor
  ·rintro⟨h1,h2,h3⟩;obtain⟨m,a,b⟩:=RunsOk.app.mp h3;exact⟨m,⟨h1,h2,a⟩,b⟩
  ·rintro⟨m,⟨h1,h2,a⟩,b⟩;exact⟨h1,h2,RunsOk.app.mpr ⟨m,a,b⟩⟩
theorem RunsOk.le:∀{l:List (Nat×Nat)}{s e:Nat},RunsOk l s e->s+l.length<=e
 |[],s,e,h=>by cases(show s=e from h);exact Qj _
 |(s',n)::l,s,e,⟨_,h2,h3⟩=>by
  have:=RunsOk.le h3;rw[QL];omega
theorem RunsOk.mem:∀{l:List (Nat×Nat)}{s e:Nat},RunsOk l s e->∀p∈l,s<=p.1/\p.1+p.2<=e
 |(s',n)::l,s,e,⟨h1,h2,h3⟩,p,hp=>by
  have hl:=RunsOk.le h3;rcases Qy.mp hp with z | z
  ·subst z;show s<=s'/\s'+n<=e;omega
  ·have:=RunsOk.mem h3 p z;omega
def sn(p:Nat×Nat×Nat):Nat×Nat:=(p.1,p.2.1)
def YE(st:JO):List (Nat×Nat):=(pendingOf st).toList.map sn
section
variable{prog:QB}{w:Ji}{A:Q3}{E:Value->Shared->Prop}{s:Shared}{a₀:Array Keyed}{κ:Yg}{c:Keyed->Keyed->Bool}
structure RI (κ:Yg) (a₀:Array Keyed) (c:Keyed->Keyed->Bool) (lo:Nat) (st:JO):Prop where
 sb:SB κ a₀ st
 runs:RunsOk (YE st) 0 lo
 srt:∀p∈YE st,Sg c (arrOf st) p.1 (p.1+p.2)
 le:lo<=a₀.size
theorem Sg.same{xs ys:Array Keyed}{u v:Nat}(h:Sg c xs u v)(k:∀n,u<=n->n<v->kx ys n=kx xs n):Sg c ys u v:=λi j hi hij hj=>by
 rw[k i hi (by omega),k j (by omega) hj];exact h i j hi hij hj
theorem QtZ{l:List (Nat×Nat×Nat)}{i:Nat}(h:i+1<l.length):∃l1 x y l2,l=l1++x::y::l2/\l1.length=i:=by
 refine⟨l.take i,l[i],l[i+1],l.drop (i+2),?_,by rw[Zu];omega⟩;rw[<- ZN,<- ZN,JD]
theorem QcP{st:JO}{lo i hi:Nat}{Q:Bool->JO->Prop}(hA:Asks prog w A s κ a₀ c)(ri:RI κ a₀ c lo st)(hi':i+1<(pendingOf st).size)
  (h:∀st',RI κ a₀ c lo st'->(pendingOf st').size+1=(pendingOf st).size->(∀n,lo<=n->kx (arrOf st') n=kx (arrOf st) n)->Q true st'):wpS (model prog w) A E s (mergeAt' i) Q st:=by
 obtain⟨l1,⟨u,n,pw⟩,⟨v,m,pw2⟩,l2,el,ll⟩:=QtZ (l:=(pendingOf st).toList) (i:=i) (by rw[Qg];exact hi');have er:YE st=l1.map sn++(u,n)::(v,m)::l2.map sn:=by unfold YE;rw[el,Jm];rfl
 have r0:=ri.runs;rw[er] at r0;obtain⟨q,ra,rb⟩:=RunsOk.app.mp r0;obtain⟨g1,g2,g3,g4,g5⟩:=rb;subst g1;subst g3;have e1:(pendingOf st)[i]? = some (u,n,pw):=by
  rw[<- JQ,el,JF (by omega),ll,QeB];rfl
 have e2:(pendingOf st)[i+1]? = some (u+n,m,pw2):=by
  rw[<- JQ,el,JF (by omega),ll,show i+1 - i=1 by omega];rfl
 have le5:=RunsOk.le g5;have le1:=ri.le;refine Qhw hA ri.sb e1 e2 g2 g4 (by omega) (ri.srt (u,n) (by rw[er];simp)) (ri.srt (u+n,m) (by rw[er];simp)) λst' mg=>?_
 have ep:(pendingOf st').toList=l1++(u,n+m,pw)::l2:=by
  rw[mg.pend,Array.toList_eraseIdxIfInBounds,Qf5,el,List.set_append_right _ _ (by omega),ll,QeB,List.set_cons_zero,List.eraseIdx_append_of_length_le (by omega),ll,show i+1 - i=1 by omega];rfl
 have er':YE st'=l1.map sn++(u,n+m)::l2.map sn:=by unfold YE;rw[ep,Jm];rfl
 refine h st' ⟨mg.sb,?_,λp hp=>?_,ri.le⟩ ?_ λk hk=>mg.out k (.inr (by omega))
 ·rw[er'];exact RunsOk.app.mpr ⟨u,ra,rfl,by omega,by rw[show u+(n+m)=u+n+m by omega];exact g5⟩
 ·rw[er'] at hp;rcases QX.mp hp with z | z
  ·have b:=RunsOk.mem ra p z;exact(ri.srt p (by rw[er];exact J5 _ z)).same λk k1 k2=>mg.out k (.inl (by omega))
  ·rcases Qy.mp z with z | z
   ·subst z;show Sg c (arrOf st') u (u+(n+m));rw[show u+(n+m)=u+n+m by omega];exact mg.sg
   ·have b:=RunsOk.mem g5 p z;exact(ri.srt p (by rw[er];exact Qv _ (Jg _ (Jg _ z)))).same λk k1 k2=>mg.out k (.inr (by omega))
 ·rw[<- Qg,<- Qg,ep,el,Qo,Qo,QL,QL,QL];omega
theorem RI.pow{st:JO}{lo:Nat}(r:RI κ a₀ c lo st)(i pw:Nat):RI κ a₀ c lo (setPending st ((pendingOf st).modify i λx=>(x.1,x.2.1,pw))):=by
 have er:YE (setPending st ((pendingOf st).modify i λx=>(x.1,x.2.1,pw)))=YE st:=by
  show((pendingOf st).modify i λx=>(x.1,x.2.1,pw)).toList.map sn=(pendingOf st).toList.map sn;rw[Array.toList_modify];apply Qah
  intro j;rw[QF,QF,List.getElem?_modify];cases(pendingOf st).toList[j]? with
  |none=>rfl
  |some p=>
   show some (sn (if i=j then _ else p))=some (sn p);split<;>rfl
 exact⟨⟨r.sb.perm,r.sb.kind,r.sb.failed⟩,by rw[er];exact r.runs,by rw[er];exact r.srt,r.le⟩
theorem Qht{st:JO}{Q:Unit->JO->Prop}(hA:Asks prog w A s κ a₀ c)(hB:SB κ a₀ st)(hp:pendingOf st=#[])
  (h:∀st',SB κ a₀ st'->Sg c (arrOf st') 0 a₀.size->Q () st'):wpS (model prog w) A E s sortRuns' Q st:=by
 rw[sortRuns'_eq];refine Qh (QbN ?_)
 dsimp only
 rw[hB.size];have ri0:RI κ a₀ c 0 st:=⟨hB,by unfold YE;rw[hp];rfl,λp h=>by unfold YE at h;rw[hp] at h;simp at h,Qr _⟩;refine Qh (Ye (JN (I:=λx z st'=>∃lo,z=(none,lo)/\RI κ a₀ c lo st'/\(x<=lo∨lo=a₀.size)) (Q:=λz st'=>z=(none,a₀.size)/\RI κ a₀ c a₀.size st') ?step ?fin ⟨0,rfl,ri0,.inl (Qj _)⟩) ?post)
 case fin=>
  rintro z st' ⟨lo,rfl,ri,hx⟩;have:=ri.le;have e:lo=a₀.size:=by omega
  subst e;exact⟨rfl,ri⟩
 case step=>
  rintro x z st' _ hx ⟨lo,rfl,ri,hxl⟩
  dsimp only
  have hle:=ri.le;by_cases z0:lo≥a₀.size
  ·rw[if_pos z0];have e:lo=a₀.size:=by omega
   subst e;exact Qi ⟨rfl,ri⟩
  ·rw[if_neg z0];refine Qh (Qfi hA (by omega) (by omega) ri.sb λm st1 f1 m1 m2 sg1=>?_)
   dsimp only
   have ri1:RI κ a₀ c lo st1:=⟨f1.sb,by unfold YE;rw[f1.pend];exact ri.runs,λp hp=>by
    unfold YE at hp;rw[f1.pend] at hp;have b:=RunsOk.mem ri.runs p hp;exact(ri.srt p hp).same λk k1 k2=>f1.low k (by omega),hle⟩
   have push:∀(n:Nat)(st2:JO),RI κ a₀ c lo st2->1<=n->lo+n<=a₀.size->Sg c (arrOf st2) lo (lo+n)->RI κ a₀ c (lo+n) (setPending st2 ((pendingOf st2).push (lo,n,0))):=λn st2 r2 n1 n2 sg=>by
    have er:YE (setPending st2 ((pendingOf st2).push (lo,n,0)))=YE st2++[(lo,n)]:=by
     show((pendingOf st2).push (lo,n,0)).toList.map sn=_;rw[Qbn,Jm];rfl
    refine⟨⟨r2.sb.perm,r2.sb.kind,r2.sb.failed⟩,by rw[er];exact RunsOk.app.mpr ⟨lo,r2.runs,rfl,n1,rfl⟩,λp hp=>?_,n2⟩;rw[er] at hp;rcases QX.mp hp with z | z
    ·exact r2.srt p z
    ·rw[QC.mp z];exact sg
   by_cases zm:m<minRun' a₀.size a₀.size 0
   ·rw[if_pos zm];refine Qh (Qdw (ZP ⟨rfl,?_⟩));refine Qh (QdT hA (by omega) m1 (by omega) f1.sb sg1 λst2 f2 sg2=>?_);simp only[Bool.not_true,JT,if_false];have ri2:RI κ a₀ c lo st2:=⟨f2.sb,by unfold YE;rw[f2.pend];exact ri1.runs,λp hp=>by
     unfold YE at hp;rw[f2.pend] at hp;have b:=RunsOk.mem ri1.runs p hp;exact(ri1.srt p hp).same λk k1 k2=>f2.low k (by omega),hle⟩
    refine Qh (QbN ?_);cases hb:(pendingOf st2).back? with
    |none=>
     dsimp only
     exact Qh (Qab (Qi ⟨_,rfl,push _ st2 ri2 (by omega) (by omega) sg2,by omega⟩))
    |some bb=>
     obtain⟨s1,s2,s3⟩:=bb
     dsimp only
     refine Qh (Ye (JN (I:=λ_ z st3=>z=(none,())/\RI κ a₀ c lo st3/\Sg c (arrOf st3) lo (lo+min (a₀.size - lo) (minRun' a₀.size a₀.size 0))) (Q:=λz st3=>z=(none,())/\RI κ a₀ c lo st3/\Sg c (arrOf st3) lo (lo+min (a₀.size - lo) (minRun' a₀.size a₀.size 0))) ?stepA (λ_ _ q=>q) ⟨rfl,ri2,sg2⟩) ?postA)
     case stepA=>
      rintro y z st3 _ hy ⟨rfl,r3,g3⟩;refine Qh (QbN ?_);by_cases z5:(pendingOf st3).size > 1
      ·rw[if_pos z5,getElem?_pos (pendingOf st3) ((pendingOf st3).size - 2) (by omega)];generalize (pendingOf st3)[(pendingOf st3).size - 2]'(by omega)=pp;obtain⟨q1,q2,q3⟩:=pp
       dsimp only
       split
       ·exact Qi ⟨rfl,r3,g3⟩
       ·refine Qh (QcP (hi:=0) hA r3 (by omega) λst4 r4 sz k4=>?_);exact Qi ⟨rfl,r4,g3.same λk k1 _=>k4 k k1⟩
      ·rw[if_neg z5];exact Qi ⟨rfl,r3,g3⟩
     case postA=>
      rintro z st3 ⟨rfl,r3,g3⟩
      dsimp only
      refine Qh (Qab (Qh (Qab (Qi ⟨_,rfl,push _ _ (r3.pow _ _) (by omega) (by omega) g3,by omega⟩))))
   ·rw[if_neg zm];refine Qh (QbN ?_);cases hb:(pendingOf st1).back? with
    |none=>
     dsimp only
     exact Qh (Qab (Qi ⟨_,rfl,push _ st1 ri1 m1 (by omega) sg1,by omega⟩))
    |some bb=>
     obtain⟨s1,s2,s3⟩:=bb
     dsimp only
     refine Qh (Ye (JN (I:=λ_ z st3=>z=(none,())/\RI κ a₀ c lo st3/\Sg c (arrOf st3) lo (lo+m)) (Q:=λz st3=>z=(none,())/\RI κ a₀ c lo st3/\Sg c (arrOf st3) lo (lo+m)) ?stepA (λ_ _ q=>q) ⟨rfl,ri1,sg1⟩) ?postA)
     case stepA=>
      rintro y z st3 _ hy ⟨rfl,r3,g3⟩;refine Qh (QbN ?_);by_cases z5:(pendingOf st3).size > 1
      ·rw[if_pos z5,getElem?_pos (pendingOf st3) ((pendingOf st3).size - 2) (by omega)];generalize (pendingOf st3)[(pendingOf st3).size - 2]'(by omega)=pp;obtain⟨q1,q2,q3⟩:=pp
       dsimp only
       split
       ·exact Qi ⟨rfl,r3,g3⟩
       ·refine Qh (QcP (hi:=0) hA r3 (by omega) λst4 r4 sz k4=>?_);exact Qi ⟨rfl,r4,g3.same λk k1 _=>k4 k k1⟩
      ·rw[if_neg z5];exact Qi ⟨rfl,r3,g3⟩
     case postA=>
      rintro z st3 ⟨rfl,r3,g3⟩
      dsimp only
      refine Qh (Qab (Qh (Qab (Qi ⟨_,rfl,push _ _ (r3.pow _ _) m1 (by omega) g3,by omega⟩))))
 case post=>
  rintro z st' ⟨rfl,ri⟩
  dsimp only
  refine Qh (Ye (JN (I:=λx z st3=>z=(none,())/\RI κ a₀ c a₀.size st3/\((pendingOf st3).size+x<=a₀.size∨(pendingOf st3).size<=1)) (Q:=λz st3=>z=(none,())/\RI κ a₀ c a₀.size st3/\(pendingOf st3).size<=1) ?stepB ?finB ⟨rfl,ri,.inl ?initB⟩) ?postB)
  case initB=>
   have:=RunsOk.le ri.runs;unfold YE at this;rw[Qd,Qg] at this;omega
  case finB=>
   rintro z st3 ⟨rfl,r3,hx⟩;exact⟨rfl,r3,by omega⟩
  case stepB=>
   rintro x z st3 _ hx ⟨rfl,r3,hs⟩;refine Qh (QbN ?_);by_cases z5:(pendingOf st3).size<=1
   ·rw[if_pos z5];exact Qi ⟨rfl,r3,z5⟩
   ·rw[if_neg z5];have key:∀i,i+1<(pendingOf st3).size->wpS (model prog w) A E s (mergeAt' i) (λb st4=>b=true/\RI κ a₀ c a₀.size st4/\(pendingOf st4).size+1=(pendingOf st3).size) st3:=λi hi=>QcP (hi:=0) hA r3 hi λst4 r4 sz _=>⟨rfl,r4,sz⟩
    refine Qh (Ye (key _ ?_) ?_)
    ·have ii:∀{p:Prop}[Decidable p],(if p then(pendingOf st3).size - 2 - 1 else(pendingOf st3).size - 2)+1<(pendingOf st3).size:=by intro p _;split<;>omega
     exact ii
    ·rintro bb st4 ⟨rfl,r4,sz⟩;exact Qi ⟨rfl,r4,by omega⟩
  case postB=>
   rintro z st3 ⟨rfl,r3,hs⟩;refine Qi (h st3 r3.sb ?_);have rr:=r3.runs;have hl:(YE st3).length<=1:=by unfold YE;rw[Qd,Qg];exact hs
   have hsr:=r3.srt;cases er:YE st3 with
   |nil=>
    rw[er] at rr;rw[<- (show 0=a₀.size from rr)];exact λi j hi hij hj=>by omega
   |cons p l=>
    rw[er] at rr hl hsr;cases l with
    |cons p' l'=>simp at hl
    |nil=>
     obtain⟨g1,g2,g3⟩:=rr;have:=hsr p (QC.mpr rfl);rw[g1,(show 0+p.2=a₀.size from g3)] at this;exact this
end
end Rt
namespace PySem
namespace AutoSeq1
open PyProof
end AutoSeq1
end PySem
namespace L2
end L2
namespace Dl
open L2 _root_.Rd Rk
section
variable{X:Cx}{E:XK}
end
section
variable{X:Cx}{E:XK}
end
section
variable{X:Cx}{E:XK}
end
theorem QgG(L:List (Int×Int)):nds (L.map Rk.pairD)=true:=QlS.mpr λd hd=>by
 obtain⟨i,_,rfl⟩:=Ql.mp hd;rfl
def rkD:Qb->Nat
 |.int _=>0
 |.tuple _=>1
 |_=>2
def Qeq(i j:Int):Ordering:=if i<j then .lt else if i=j then .eq else .gt
def Qzw(i j:Nat):Ordering:=if i<j then .lt else if i=j then .eq else .gt
def thn(o:Ordering)(p:Ordering):Ordering:=match o with
 |.eq=>p
 |o=>o
mutual
def Qb7:Qb->Qb->Ordering
 |.int i,.int j=>Qeq i j
 |.tuple a,.tuple b=>QbC a b
 |x,y=>Qzw (rkD x) (rkD y)
def QbC:List Qb->List Qb->Ordering
 |[],[]=>.eq
 |[],_::_=>.lt
 |_::_,[]=>.gt
 |x::xs,y::ys=>thn (Qb7 x y) (QbC xs ys)
end
def isL:Ordering->Bool
 |.lt=>true
 |_=>false
def ltD(x y:Qb):Bool:=isL (Qb7 x y)
def QsP(x y:List Qb):Bool:=isL (QbC x y)
def sw:Ordering->Ordering
 |.lt=>.gt
 |.gt=>.lt
 |.eq=>.eq
def Qe3:Ordering->Bool
 |.gt=>false
 |_=>true
theorem Qt3(a b:Ordering):sw (thn a b)=thn (sw a) (sw b):=by cases a<;>rfl
theorem Qtk(i j:Int):Qeq j i=sw (Qeq i j):=by
 unfold Qeq;by_cases h:i<j
 ·rw[if_neg (by omega),if_neg (by omega),if_pos h];rfl
 ·by_cases h2:i=j
  ·rw[if_neg (by omega),if_pos h2.symm,if_neg h,if_pos h2];rfl
  ·rw[if_pos (by omega),if_neg h,if_neg h2];rfl
theorem Qtl(i j:Int):Qe3 (Qeq i j)=decide (i<=j):=by
 unfold Qeq;by_cases h:i<j
 ·rw[if_pos h];exact(decide_eq_true (by omega)).symm
 ·by_cases h2:i=j
  ·rw[if_neg h,if_pos h2];exact(decide_eq_true (by omega)).symm
  ·rw[if_neg h,if_neg h2];exact(decide_eq_false (by omega)).symm
mutual
theorem Qda:∀(x y:Qb),Qb7 y x=sw (Qb7 x y)
 |.int i,.int j=>Qtk i j
 |.tuple a,.tuple b=>Qji a b
 |.int _,.tuple _=>rfl
 |.tuple _,.int _=>rfl
 |.int _,.none=>rfl
 |.int _,.bool _=>rfl
 |.int _,.str _=>rfl
 |.int _,.list _=>rfl
 |.int _,.dict _=>rfl
 |.tuple _,.none=>rfl
 |.tuple _,.bool _=>rfl
 |.tuple _,.str _=>rfl
 |.tuple _,.list _=>rfl
 |.tuple _,.dict _=>rfl
 |.none,y=>by cases y<;>rfl
 |.bool _,y=>by cases y<;>rfl
 |.str _,y=>by cases y<;>rfl
 |.list _,y=>by cases y<;>rfl
 |.dict _,y=>by cases y<;>rfl
theorem Qji:∀(xs ys:List Qb),QbC ys xs=sw (QbC xs ys)
 |[],[]=>rfl
 |[],_::_=>rfl
 |_::_,[]=>rfl
 |x::xs,y::ys=>by
  show thn (Qb7 y x) (QbC ys xs)=sw (thn (Qb7 x y) (QbC xs ys));rw[Qda x y,Qji xs ys,Qt3]
end
theorem Qvv{a c:Ordering}(hab:Qe3 a=true)(h:Qe3 (sw c)=true->Qe3 (sw a)=true)(ha:a=.lt):c=.lt:=by
 subst ha;cases c with
 |lt=>rfl
 |eq=>cases h rfl
 |gt=>cases h rfl
mutual
theorem QfV:∀(x y z:Qb),Qe3 (Qb7 x y)=true->Qe3 (Qb7 y z)=true->Qe3 (Qb7 x z)=true
 |.int i,.int j,.int k,h1,h2=>by
  have h1:Qe3 (Qeq i j)=true:=h1;have h2:Qe3 (Qeq j k)=true:=h2;show Qe3 (Qeq i k)=true;rw[Qtl] at h1 h2 ⊢;have a:=of_decide_eq_true h1;have b:=of_decide_eq_true h2;exact decide_eq_true (by omega)
 |.tuple a,.tuple b,.tuple c,h1,h2=>Qjh a b c h1 h2
 |.int _,y,.tuple _,h1,h2=>rfl
 |.int _,.tuple _,.int _,h1,h2=>by cases h2
 |.tuple _,.int _,z,h1,h2=>by cases h1
 |.tuple _,.tuple _,.int _,h1,h2=>by cases h2
 |.int _,y,.none,_,_=>rfl
 |.int _,y,.bool _,_,_=>rfl
 |.int _,y,.str _,_,_=>rfl
 |.int _,y,.list _,_,_=>rfl
 |.int _,y,.dict _,_,_=>rfl
 |.tuple _,y,.none,_,_=>rfl
 |.tuple _,y,.bool _,_,_=>rfl
 |.tuple _,y,.str _,_,_=>rfl
 |.tuple _,y,.list _,_,_=>rfl
 |.tuple _,y,.dict _,_,_=>rfl
 |.int _,.none,.int _,h1,h2=>by cases h2
 |.int _,.bool _,.int _,h1,h2=>by cases h2
 |.int _,.str _,.int _,h1,h2=>by cases h2
 |.int _,.list _,.int _,h1,h2=>by cases h2
 |.int _,.dict _,.int _,h1,h2=>by cases h2
 |.tuple _,.none,.int _,h1,h2=>by cases h2
 |.tuple _,.bool _,.int _,h1,h2=>by cases h2
 |.tuple _,.str _,.int _,h1,h2=>by cases h2
 |.tuple _,.list _,.int _,h1,h2=>by cases h2
 |.tuple _,.dict _,.int _,h1,h2=>by cases h2
 |.tuple _,.none,.tuple _,h1,h2=>by cases h2
 |.tuple _,.bool _,.tuple _,h1,h2=>by cases h2
 |.tuple _,.str _,.tuple _,h1,h2=>by cases h2
 |.tuple _,.list _,.tuple _,h1,h2=>by cases h2
 |.tuple _,.dict _,.tuple _,h1,h2=>by cases h2
 |.none,y,z,h1,h2=>by cases y<;>cases z<;>first | rfl | (cases h1;done) | (cases h2;done)
 |.bool _,y,z,h1,h2=>by cases y<;>cases z<;>first | rfl | (cases h1;done) | (cases h2;done)
 |.str _,y,z,h1,h2=>by cases y<;>cases z<;>first | rfl | (cases h1;done) | (cases h2;done)
 |.list _,y,z,h1,h2=>by cases y<;>cases z<;>first | rfl | (cases h1;done) | (cases h2;done)
 |.dict _,y,z,h1,h2=>by cases y<;>cases z<;>first | rfl | (cases h1;done) | (cases h2;done)
 termination_by x y z=>sizeOf x+sizeOf y+sizeOf z
theorem Qjh:∀(xs ys zs:List Qb),Qe3 (QbC xs ys)=true->Qe3 (QbC ys zs)=true->Qe3 (QbC xs zs)=true
 |[],_,[],_,_=>rfl
 |[],_,_::_,_,_=>rfl
 |_::_,[],_,h1,_=>by cases h1
 |_::_,_::_,[],_,h2=>by cases h2
 |x::xs,y::ys,z::zs,h1,h2=>by
  have h1:Qe3 (thn (Qb7 x y) (QbC xs ys))=true:=h1;have h2:Qe3 (thn (Qb7 y z) (QbC ys zs))=true:=h2;show Qe3 (thn (Qb7 x z) (QbC xs zs))=true;have a1:Qe3 (Qb7 x y)=true:=by cases e:Qb7 x y<;>rw[e] at h1<;>first | rfl | cases h1
  have a2:Qe3 (Qb7 y z)=true:=by cases e:Qb7 y z<;>rw[e] at h2<;>first | rfl | cases h2
  have a3:=QfV x y z a1 a2;cases e1:Qb7 x y with
  |gt=>rw[e1] at a1;cases a1
  |lt=>
   have:Qb7 x z=.lt:=Qvv (a:=Qb7 x y) a1 (λq=>by
    rw[<- Qda x z] at q;rw[<- Qda x y];exact QfV y z x a2 q) e1
   rw[this];rfl
  |eq=>
   cases e2:Qb7 y z with
   |gt=>rw[e2] at a2;cases a2
   |lt=>
    have:Qb7 x z=.lt:=Qvv (a:=Qb7 y z) a2 (λq=>by
     rw[<- Qda x z] at q;rw[<- Qda y z];exact QfV z x y q a1) e2
    rw[this];rfl
   |eq=>
    rw[e1] at h1;rw[e2] at h2;cases e3:Qb7 x z with
    |gt=>rw[e3] at a3;cases a3
    |lt=>rfl
    |eq=>exact Qjh xs ys zs h1 h2
 termination_by x y z=>sizeOf x+sizeOf y+sizeOf z
end
theorem QvG(o:Ordering):isL (sw o) = !Qe3 o:=by cases o<;>rfl
theorem Qpy(x y:Qb):ltD y x = !Qe3 (Qb7 x y):=by unfold ltD;rw[Qda x y,QvG]
theorem Qos(x y:Qb)(h:ltD x y=true):ltD y x=false:=by
 rw[Qpy];unfold ltD at h;cases e:Qb7 x y<;>rw[e] at h<;>first | rfl | cases h
theorem Qvs(x y z:Qb)(h1:ltD y x=false)(h2:ltD z y=false):ltD z x=false:=by
 rw[Qpy] at h1 h2 ⊢;rw[QfV x y z (by simpa using h1) (by simpa using h2)];rfl
mutual
def Qhn:Qb->Qb->Bool
 |.int _,.int _=>true
 |.tuple a,.tuple b=>QbT a b
 |_,_=>false
def QbT:List Qb->List Qb->Bool
 |x::xs,y::ys=>Qhn x y&&QbT xs ys
 |_,_=>true
end
def isE:Ordering->Bool
 |.eq=>true
 |_=>false
theorem QsW(a b:Ordering):isE (thn a b)=(isE a&&isE b):=by cases a<;>rfl
mutual
theorem Qmh:∀(x y:Qb),Qhn x y=true->Jj x y=isE (Qb7 x y)
 |.int i,.int j,_=>by
  show(i == j)=isE (Qeq i j);unfold Qeq;by_cases h:i=j
  ·subst h;simp[isE]
  ·rw[beq_eq_false_iff_ne.mpr h];split
   ·rfl
   ·rfl
 |.tuple a,.tuple b,h=>Qmg a b h
 |.int _,.tuple _,h=>by cases h
 |.tuple _,.int _,h=>by cases h
 |.int _,.none,h=>by cases h
 |.int _,.bool _,h=>by cases h
 |.int _,.str _,h=>by cases h
 |.int _,.list _,h=>by cases h
 |.int _,.dict _,h=>by cases h
 |.tuple _,.none,h=>by cases h
 |.tuple _,.bool _,h=>by cases h
 |.tuple _,.str _,h=>by cases h
 |.tuple _,.list _,h=>by cases h
 |.tuple _,.dict _,h=>by cases h
 |.none,y,h=>by cases y<;>cases h
 |.bool _,y,h=>by cases y<;>cases h
 |.str _,y,h=>by cases y<;>cases h
 |.list _,y,h=>by cases y<;>cases h
 |.dict _,y,h=>by cases y<;>cases h
theorem Qmg:∀(xs ys:List Qb),QbT xs ys=true->QtD xs ys=isE (QbC xs ys)
 |[],[],_=>rfl
 |[],_::_,_=>rfl
 |_::_,[],_=>rfl
 |x::xs,y::ys,h=>by
  have h:=QK.mp (show(Qhn x y&&QbT xs ys)=true from h);show(Jj x y&&QtD xs ys)=isE (thn (Qb7 x y) (QbC xs ys));rw[Qmh x y h.1,Qmg xs ys h.2,QsW]
end
end Dl
namespace Rt
open PySem.Calls Dl
theorem Qei:∀{ds:List Qb}{d:Qb},d∈ds->d.depth<=QN ds
 |x::ds,d,h=>by
  show d.depth<=max x.depth (QN ds);rcases Qy.mp h with z | z
  ·subst z;exact Nat.le_max_left _ _
  ·exact Jd (Qei z) (Qff _ _)
theorem readsAll_len{h:Heap}:∀{vs:List Value}{ds:List Qb}{as:List Addr},Yx h vs ds as->vs.length=ds.length
 |_,_,_,.nil=>rfl
 |_,_,_,.cons _ r=>by rw[QL,QL,readsAll_len r]
section
open PySem.SeqAt
open PySem.AutoSeq1 (wpAny_loadPart')
open PySem.MeetsSeq PySem.MeetsSeq2 PySem.MeetsSeq3
theorem Qdg{l b:Addr}{items items2:Array Value}{n n2:Nat}{dd dd2:Option Addr}{sl sl2:Array (Option Value)}{ds es:List Qb}{as bs:List Addr}{N:Nat}(hk:QbT ds es=true)(hc1:Q7 ds=true)(hc2:Q7 es=true)(hd:QN ds<=N)
  (ih:∀(x y:Qb)(A:Q3)(s:Shared)(v u:Value)(p q:List Addr),QaU s.heap v x p->QaU s.heap u y q->x.canLay0=true->y.canLay0=true->Qhn x y=true->x.depth<=N->A.units+2*N+2<cLine->∀(prog:QB)(w:Ji)(E Q:Value->Shared->Prop),Q (.bool (ltD x y)) s->wpAny (model prog w) A (richCompare .Lt v u) Q E s) :
  Meets (YS.«tuple.__lt__» ⟨[.ref l,.ref b],[]⟩)
   (λA R s=>s.heap.get? l=some { cls:=.type "tuple",dict:=dd,data:=.seq items n,slots:=sl }/\s.heap.get? b=some { cls:=.type "tuple",dict:=dd2,data:=.seq items2 n2,slots:=sl2 }/\Yx s.heap items.toList ds as/\Yx s.heap items2.toList es bs/\A.units+2*N+4<cLine /\
    R (.ok (.ret (.bool (QsP ds es)))) s):=
 .of_wp λprog w A R s h=>by
  obtain⟨hp,g,d,tk,os⟩:=s;obtain⟨hl,hb,hr1,hr2,hu,h⟩:=h;have f2:=AutoSeq1.sub_tuple_tuple;have hu1:A.in1.units+2*N+2<cLine:=by show A.units+1+2*N+2<cLine;omega
  have z1:items.size=ds.length:=by rw[<- readsAll_len hr1];simp
  have z2:items2.size=es.length:=by rw[<- readsAll_len hr2];simp
  wp_walk using wpAny_loadPart' hl,wpAny_loadPart' hb,wpAny_forIn_list _ (λrest b s'=>b.1=none/\s'=⟨hp,g,d,tk,os⟩/\∃(vs ws:List Value)(xs ys:List Qb)(p q:List Addr),rest=vs.zip ws /\
   Yx hp vs xs p/\Yx hp ws ys q/\QbT xs ys=true/\Q7 xs=true/\Q7 ys=true/\QN xs<=N/\xs.length+items2.size=ys.length+items.size/\R (.ok (.ret (.bool (QsP xs ys)))) ⟨hp,g,d,tk,os⟩) _
  case turn=>
   rintro⟨y,x⟩ rest b s' ⟨hb',rfl,vs,ws,xs,ys,p,q,hz,hvi,hwi,hkk,c1,c2,hdd,hlen,hR⟩;cases hvi with
   |nil=>rw[List.zip_nil_left] at hz;cases hz
   |@cons v0 vs0 d1 ds1 as1 as2 r1 hvi'=>
    cases hwi with
    |nil=>rw[List.zip_nil_right] at hz;cases hz
    |@cons u0 us0 d2 ds2 bs1 bs2 r2 hwi'=>
     rw[Qdx] at hz;injection hz with hyx hrest
     injection hyx with hy hx
     subst hy hx;have hkk:=QK.mp (show(Qhn d1 d2&&QbT ds1 ds2)=true from hkk);simp only[Q7,Jp] at c1 c2;have dm1:d1.depth<=N:=Jd (Qei (ds:=d1::ds1) (.head _)) hdd;have dm2:QN ds1<=N:=Jd (show QN ds1<=max d1.depth (QN ds1) from Qff _ _) hdd;simp only[QL] at hlen;have he:=Qer d1 d2 A.in1 ⟨hp,g,d,tk,os⟩ y x _ _ r1 r2 c1.1 c2.1 (by omega);have hR:R (.ok (.ret (.bool (isL (thn (Qb7 d1 d2) (QbC ds1 ds2)))))) ⟨hp,g,d,tk,os⟩:=hR;rw[Qmh d1 d2 hkk.1] at he;have hri:=λE Q=>ih d1 d2 A.in1 ⟨hp,g,d,tk,os⟩ y x _ _ r1 r2 c1.1 c2.1 hkk.1 dm1 hu1 prog w E Q
     unfold ltD at hri;cases e1:Qb7 d1 d2 with
     |lt=>
      rw[e1] at he hR hri;refine Qa (he prog w _ _ ?_)
      wp_walk using hri
      exact⟨_,rfl,hR⟩
     |gt=>
      rw[e1] at he hR hri;refine Qa (he prog w _ _ ?_)
      wp_walk using hri
      exact⟨_,rfl,hR⟩
     |eq=>
      rw[e1] at he hR;refine Qa (he prog w _ _ ?_)
      wp_walk
      exact⟨rfl,rfl,_,_,_,_,_,_,hrest,hvi',hwi',hkk.2,c1.2,c2.2,dm2,by omega,hR⟩
  case fin=>
   rintro⟨b1,b2⟩ s' ⟨hb',rfl,vs,ws,xs,ys,p,q,hz,hvi,hwi,hkk,c1,c2,hdd,hlen,hR⟩;simp only at hb';subst hb';have hv:QsP xs ys=decide (items.size<items2.size):=by
    cases hvi with
    |nil=>
     cases hwi with
     |nil=>
      simp only[Qcd] at hlen;exact(decide_eq_false (by omega)).symm
     |cons r2 hw=>
      simp only[Qcd,QL] at hlen;exact(decide_eq_true (by omega)).symm
    |cons r1 hv=>
     cases hwi with
     |nil=>
      simp only[Qcd,QL] at hlen;exact(decide_eq_false (by omega)).symm
     |cons r2 hw=>
      rw[Qdx] at hz;cases hz
   rw[hv] at hR
   wp_walk
   exact⟨_,rfl,by simpa [Qw6] using hR⟩
  case h=>
   exact⟨rfl,rfl,items.toList,items2.toList,ds,es,as,bs,rfl,hr1,hr2,hk,hc1,hc2,hd,by omega,h⟩
end
end Rt
namespace Rt
open PySem.Calls PySem.W Dl
mutual
def okK:Qb->Bool
 |.int _=>true
 |.tuple ds=>Qd5 ds
 |_=>false
def Qd5:List Qb->Bool
 |[]=>true
 |d::ds=>okK d&&Qd5 ds
end
mutual
theorem QcY{h h':Heap}(k:∀b o,h.get? b=some o->h'.get? b=some o):∀(d:Qb)(v:Value)(as:List Addr),okK d=true->QaU h v d as->QaU h' v d as
 |.int _,_,_,_,.int i t=>.int i t
 |.tuple ds,_,_,hk,.tuple (vs:=vs) e c d r=>.tuple (k _ _ e) c d (Qal k ds _ _ hk r)
 |.none,_,_,hk,_=>by cases hk
 |.bool _,_,_,hk,_=>by cases hk
 |.str _,_,_,hk,_=>by cases hk
 |.list _,_,_,hk,_=>by cases hk
 |.dict _,_,_,hk,_=>by cases hk
theorem Qal{h h':Heap}(k:∀b o,h.get? b=some o->h'.get? b=some o):∀(ds:List Qb)(vs:List Value)(as:List Addr),Qd5 ds=true->Yx h vs ds as->Yx h' vs ds as
 |[],_,_,_,.nil=>.nil
 |d::ds,_,_,hk,.cons r rs=>by
  have hk:=QK.mp (show(okK d&&Qd5 ds)=true from hk);exact .cons (QcY k d _ _ hk.1 r) (Qal k ds _ _ hk.2 rs)
end
theorem QrF:∀(N:Nat)(x y:Qb)(A:Q3)(s:Shared)(v u:Value)(p q:List Addr),QaU s.heap v x p->QaU s.heap u y q->x.canLay0=true->y.canLay0=true->Qhn x y=true->x.depth<=N->A.units+2*N+2<cLine->∀(prog:QB)(w:Ji)(E Q:Value->Shared->Prop),Q (.bool (ltD x y)) s->wpAny (model prog w) A (richCompare .Lt v u) Q E s:=by
 intro N;have intz:∀(i j:Int)(A:Q3)(s:Shared)(v u:Value)(p q:List Addr),QaU s.heap v (.int i) p->QaU s.heap u (.int j) q->∀(prog:QB)(w:Ji)(E Q:Value->Shared->Prop),Q (.bool (ltD (.int i) (.int j))) s->wpAny (model prog w) A (richCompare .Lt v u) Q E s:=by
  intro i j A s v u p q r1 r2 prog w E Q h;cases r1;cases r2;refine HT.QiH A s i _ j _ prog w E Q ?_
  have e:ltD (.int i) (.int j)=decide (i<j):=by
   show isL (Qeq i j)=_;unfold Qeq;by_cases z:i<j
   ·rw[if_pos z,decide_eq_true z];rfl
   ·rw[if_neg z,decide_eq_false z];split<;>rfl
  rw[e] at h;exact h
 induction N with
 |zero=>
  intro x y A s v u p q r1 r2 c1 c2 hk hd hu prog w E Q h;cases x<;>cases y<;>first | (cases hk;done) | skip
  ·exact intz _ _ A s v u p q r1 r2 prog w E Q h
  ·unfold Yk at hd;omega
 |succ N ih=>
  intro x y A s v u p q r1 r2 c1 c2 hk hd hu prog w E Q h;cases x<;>cases y<;>first | (cases hk;done) | skip
  ·exact intz _ _ A s v u p q r1 r2 prog w E Q h
  ·rename_i ds es
   cases r1 with
   |@tuple a o vs n _ _ ho hc hd' ra=>
    cases r2 with
    |@tuple b o2 vs2 n2 _ _ ho2 hc2 hd2 rb=>
     obtain⟨cls,dd,data,sl⟩:=o;obtain⟨cls2,dd2,data2,sl2⟩:=o2;simp only at hc hd' hc2 hd2;subst hc hd' hc2 hd2;have dd3:QN ds<=N:=by unfold Yk at hd;omega
     exact richCompare_meets_room (op:=.Lt) ⟨_,ho,rfl⟩ ⟨_,ho2,rfl⟩ PySem.F.slot_tuple_lt PySem.F.entry_tuple_lt (PySem.F.args_tuple_lt_2 _ _) (Qdg (N:=N) hk c1 c2 dd3 ih)
      ⟨ho,ho2,ra,rb,by omega,show Qbk (QsP ds es)≠Value.notImplemented/\Q (.bool (QsP ds es)) s from⟨(λx=>nomatch x),h⟩⟩ (by omega)
theorem QjS{N:Nat}{ds es:List Qb}{A:Q3}{s:Shared}{v u:Value}{p q:List Addr}(r1:QaU s.heap v (.tuple ds) p)(r2:QaU s.heap u (.tuple es) q)(c1:Q7 ds=true)(c2:Q7 es=true)(hk:QbT ds es=true)(hd:QN ds<=N)(hu:A.units+2*N+4<cLine){prog:QB}{w:Ji}{E:Value->Shared->Prop}{C:Bool->Shared->Prop}(h:C (QsP ds es) s):wpAny (model prog w) A (oneLt' true v u) C E s:=by
 cases r1 with
 |@tuple a o vs n _ _ ho hc hd' ra=>
  cases r2 with
  |@tuple b o2 vs2 n2 _ _ ho2 hc2 hd2 rb=>
   obtain⟨cls,dd,data,sl⟩:=o;obtain⟨cls2,dd2,data2,sl2⟩:=o2;simp only at hc hd' hc2 hd2;subst hc hd' hc2 hd2;rw[oneLt'_eq];simp only[if_true];refine Qa (wpAny_cRoomFor (by omega) ?_);refine Qa (wpAny_callSpecialIfBound?_slot ⟨_,ho,rfl⟩ PySem.F.slot_tuple_lt (Qf8 PySem.F.slot_tuple_lt ⟨_,ho,rfl⟩ PySem.F.entry_tuple_lt (PySem.F.args_tuple_lt_2 _ _) (Qdg (N:=N) hk c1 c2 hd λx y=>QrF N x y) ⟨ho,ho2,ra,rb,hu,?_⟩));exact J3 h
section
variable{prog:QB}{w:Ji}{A:Q3}{E:Value->Shared->Prop}{s:Shared}
theorem Qpu{N:Nat}{x y:Qb}{v u:Value}{p q:List Addr}(r1:QaU s.heap v x p)(r2:QaU s.heap u y q)(c1:x.canLay0=true)(c2:y.canLay0=true)(hk:Qhn x y=true)(hd:x.depth<=N)(hu:A.units+2*N+2<cLine){C:Bool->Shared->Prop}(h:C (ltD x y) s):wpAny (model prog w) A (oneLt' false v u) C E s:=by
 refine kat_one v u ?_
 exact QrF N x y A s v u p q r1 r2 c1 c2 hk hd hu prog w E _ h
theorem QlU(i j:Int):ltD (.int i) (.int j)=decide (i<j):=by
 show isL (Qeq i j)=_;unfold Qeq;by_cases z:i<j
 ·rw[if_pos z,decide_eq_true z];rfl
 ·rw[if_neg z,decide_eq_false z];split<;>rfl
def Qs2:List Qb->Prop
 |.int _::_=>True
 |_=>False
theorem QpB{b:Bool}{n1 n2 N:Nat}{C:Bool->Shared->Prop}(hu:A.units+2*N+2<cLine):∀(vs us:List Value)(xs ys:List Qb)(p q:List Addr)(i:Nat),Yx s.heap vs xs p->Yx s.heap us ys q->Q7 xs=true->Q7 ys=true->QbT xs ys=true->QN xs<=N->(b=true->i=0->Qs2 xs)->xs.length+n2=ys.length+n1 ->
  C (QsP xs ys) s->KatLex prog w A b (decide (n1<n2)) C (vs.zip us) i s
 |[],us,xs,ys,p,q,i,r1,r2,c1,c2,hk,hd,hb,hl,h=>by
  cases r1;refine kat_nil ?_
  cases r2 with
  |nil=>rw[show decide (n1<n2)=false from decide_eq_false (by simp at hl;omega)];exact h
  |cons r rs=>rw[show decide (n1<n2)=true from decide_eq_true (by simp at hl;omega)];exact h
 |v::vs,[],xs,ys,p,q,i,r1,r2,c1,c2,hk,hd,hb,hl,h=>by
  cases r2;cases r1;refine kat_nil ?_
  rw[show decide (n1<n2)=false from decide_eq_false (by simp at hl;omega)];exact h
 |v::vs,u::us,xs,ys,p,q,i,r1,r2,c1,c2,hk,hd,hb,hl,h=>by
  cases r1 with
  |@cons _ _ d1 ds1 as1 as2 r1 rs1=>
   cases r2 with
   |@cons _ _ d2 ds2 bs1 bs2 r2 rs2=>
    have hk:=QK.mp (show(Qhn d1 d2&&QbT ds1 ds2)=true from hk);simp only[Q7,Jp] at c1 c2;have dm1:d1.depth<=N:=Jd (Qei (ds:=d1::ds1) (.head _)) hd;have dm2:QN ds1<=N:=Jd (show QN ds1<=max d1.depth (QN ds1) from Qff _ _) hd;have h:C (isL (thn (Qb7 d1 d2) (QbC ds1 ds2))) s:=h;have one:C (ltD d1 d2) s->wpAny (model prog w) A (oneLt' (b&&i == 0) v u) C (λ_ _=>False) s:=λhc=>by
     cases e:(b&&i == 0) with
     |false=>exact Qpu (N:=N) r1 r2 c1.1 c2.1 hk.1 dm1 hu hc
     |true=>
      have e:=QK.mp e;have hh:=hb e.1 (beq_iff_eq.mp e.2);cases d1<;>first | exact hh.elim | skip
      cases d2<;>first | (cases hk.1;done) | skip
      cases r1;cases r2;rw[QlU] at hc;exact oneLt_int hc
    refine kat_cons (Qer d1 d2 A s v u _ _ r1 r2 c1.1 c2.1 (by omega) prog w _ _ ?_);rw[Qmh d1 d2 hk.1];cases e1:Qb7 d1 d2 with
    |lt=>rw[e1] at h;exact kat_no (one (by unfold ltD;rw[e1];exact h))
    |gt=>rw[e1] at h;exact kat_no (one (by unfold ltD;rw[e1];exact h))
    |eq=>
     rw[e1] at h;refine kat_yes (QpB hu vs us ds1 ds2 _ _ (i+1) rs1 rs2 c1.2 c2.2 hk.2 dm2 (λ_ z=>by omega) (by simp only[QL] at hl;omega) h)
def QoY(ds:List Qb)(κ:Yg):Prop:=κ=general'∨κ=oneType'∨κ=tuples' false∨(κ=tuples' true/\∀d∈ds,∃es,d=.tuple es/\Qs2 es)
theorem Qvy{N:Nat}{ds:List Qb}{κ:Yg}{x y:Qb}{v u:Value}{p q:List Addr}(su:QoY ds κ)(hx:x∈ds)(r1:QaU s.heap v x p)(r2:QaU s.heap u y q)(c1:x.canLay0=true)(c2:y.canLay0=true)(hk:Qhn x y=true)(tb:∀b,κ=tuples' b->∃es,x=.tuple es)(hd:x.depth<=N)(hu:A.units+2*N+4<cLine){C:Bool->Shared->Prop}(h:C (ltD x y) s) :
  wpAny (model prog w) A (keyLt' κ v u) C E s:=by
 have tup:∀b,κ=tuples' b->(b=true->∃es,x=.tuple es/\Qs2 es)->wpAny (model prog w) A (keyLt' κ v u) C E s:=λb hb hh=>by
  subst hb;obtain⟨es,rfl⟩:=tb b rfl;cases y<;>first | (cases hk;done) | skip
  rename_i fs
  cases r1 with
  |@tuple a o vs n _ _ ho hc hd' ra=>
   cases r2 with
   |@tuple b2 o2 vs2 n2 _ _ ho2 hc2 hd2 rb=>
    have dd3:QN es<=N:=by unfold Yk at hd;omega
    refine kat_lt ho hd' ho2 hd2 (QpB (N:=N) (by omega) _ _ es fs _ _ 0 ra rb c1 c2 hk dd3 (λe _=>?_) ?_ h)
    ·obtain⟨es',e',hh⟩:=hh e;cases e';exact hh
    ·have e1:=readsAll_len ra;have e2:=readsAll_len rb;rw[Qg] at e1 e2;omega
 rcases su with rfl | rfl | rfl | ⟨rfl,hall⟩
 ·exact Qpu (N:=N) r1 r2 c1 c2 hk hd (by omega) h
 ·cases x<;>cases y<;>first | (cases hk;done) | skip
  ·cases r1;cases r2;rw[QlU] at h;exact oneLt_int h
  ·have dd3:∀{es:List Qb},(Zh es).depth<=N->QN es<=N:=λ{es} h=>by unfold Yk at h;omega
   exact QjS (N:=N) r1 r2 c1 c2 hk (dd3 hd) hu h
 ·exact tup false rfl λe=>by cases e
 ·exact tup true rfl λ_=>hall x hx
end
section
variable{M:QwW}{A:Q3}{E:Value->Shared->Prop}{s:Shared}
theorem QeW{α β:Type}{f:α->Sem β}{g:α->β}:∀(l:List α){Q:List β->Shared->Prop},(∀v∈l,∀(Q':β->Shared->Prop),Q' (g v) s->wpAny M A (f v) Q' E s)->Q (l.map g) s->wpAny M A (l.mapM f) Q E s
 |[],_,_,h=>by rw[List.mapM_nil];exact wpAny_pure h
 |x::l,Q,hf,h=>by
  rw[List.mapM_cons];exact Qa (hf x (.head _) _ (Qa (QeW l (Q:=λbs s'=>wpAny M A (pure (g x::bs)) Q E s') (λv hv=>hf v (.tail _ hv)) (wpAny_pure h))))
end
def Qhm(h:Heap)(v:Value):Option Value:=match v with
 |.ref a=>(match h.get? a with
  |some o=>(match o.data with
   |.seq xs _=>xs[0]?
   |_=>none)
  |none=>none)
 |_=>none
def tyV(h:Heap)(v:Value):Value:=match v with
 |.int _ _=>.type "int"
 |.ref a=>(match h.get? a with
  |some o=>o.cls
  |none=>.none)
 |_=>.none
theorem Yj:∀{ds:List Qb},Qd5 ds=true->∀d∈ds,okK d=true
 |x::ds,h,d,hd=>by
  have h:=QK.mp (show(okK x&&Qd5 ds)=true from h);rcases Qy.mp hd with z | z
  ·rw[z];exact h.1
  ·exact Yj h.2 d z
theorem Qd4:∀{ds:List Qb},(∀d∈ds,okK d=true)->Qd5 ds=true
 |[],_=>rfl
 |x::ds,h=>by
  show(okK x&&Qd5 ds)=true;rw[h x (.head _),Qd4 λd hd=>h d (.tail _ hd)];rfl
theorem ZG{h:Heap}:∀{vs:List Value}{ds:List Qb}{as:List Addr},Yx h vs ds as->∀v∈vs,∃d∈ds,∃bs,QaU h v d bs
 |_,_,_,.cons (d:=d) r rs,v,hv=>by
  rcases Qy.mp hv with z | z
  ·rw[z];exact⟨d,.head _,_,r⟩
  ·obtain⟨d',hd,bs,r'⟩:=ZG rs v z;exact⟨d',.tail _ hd,bs,r'⟩
theorem Qct{h:Heap}:∀{vs:List Value}{ds:List Qb}{as:List Addr},Yx h vs ds as->∀d∈ds,∃v∈vs,∃bs,QaU h v d bs
 |_,_,_,.cons (d:=d) (v:=v) r rs,d',hd=>by
  rcases Qy.mp hd with z | z
  ·rw[z];exact⟨v,.head _,_,r⟩
  ·obtain⟨v',hv,bs,r'⟩:=Qct rs d' z;exact⟨v',.tail _ hv,bs,r'⟩
section
variable{prog:QB}{w:Ji}{A:Q3}{E:Value->Shared->Prop}{s:Shared}
theorem Qhx{v:Value}{d:Qb}{bs:List Addr}(r:QaU s.heap v d bs)(hk:okK d=true){Q:Value->Shared->Prop}(q:Q (tyV s.heap v) s):wpAny (model prog w) A (typeOf v) Q E s:=by
 cases r<;>first | (cases hk;done) | skip
 ·exact wpAny_pure q
 ·rename_i a o vs n xs ho hc hd ra
  refine wpAny_typeOf_ref ho ?_
  have e:tyV s.heap (.ref a)=o.cls:=by unfold tyV;simp only[ho]
  rw[e] at q;exact q
theorem QiZ{vs:List Value}{ds:List Qb}{as:List Addr}{Q:Yg->Shared->Prop}(ra:Yx s.heap vs ds as)(hk:Qd5 ds=true)(ht:∀d∈ds,∃es,d=.tuple es)(h:∀κ,QoY ds κ->Q κ s):wpAny (model prog w) A (keyKind' vs.toArray) Q E s:=by
 have rd:=ZG ra;have fs:∀v∈vs,∀(Q':Option Value->Shared->Prop),Q' (Qhm s.heap v) s->wpAny (model prog w) A (firstOfTuple' v) Q' E s:=λv hv Q' q=>by
  obtain⟨d,hd,bs,r⟩:=rd v hv;obtain⟨es,rfl⟩:=ht d hd;cases r with
  |@tuple a o xs n _ _ ho hc hd' r'=>
   rw[kas_first_eq];refine Qa (wpAny_typeOf_ref ho ?_);rw[hc];rw[if_neg (by decide)];refine Qa (listItems_at ho hd' (wpAny_pure ?_));have e:Qhm s.heap (.ref a)=xs[0]? := by unfold Qhm;simp only[ho,hd']
   rw[<- e];exact q
 rw[keyKind'_eq,Qag,map_eq_pure_bind];refine Qa (Qa (QeW (g:=Qhm s.heap) vs fs (wpAny_pure ?_)));by_cases z:((vs.map (Qhm s.heap)).toArray.all λx=>x.isSome)=true
 ·rw[if_pos z];refine Qa (ZP ?_);have hfm:((vs.map (Qhm s.heap)).toArray.filterMap id)=(vs.filterMap (Qhm s.heap)).toArray:=by simp[ZK]
  have heads:∀u∈vs.filterMap (Qhm s.heap),∃d bs,QaU s.heap u d bs/\okK d=true:=λu hu=>by
   obtain⟨v,hv,e⟩:=Y2.mp hu;obtain⟨d,hd,bs,r⟩:=rd v hv;obtain⟨es,rfl⟩:=ht d hd;have ko:=Yj hk _ hd;cases r with
   |@tuple a o xs n _ _ ho hc hd' r'=>
    have e2:Qhm s.heap (.ref a)=xs[0]? := by unfold Qhm;simp only[ho,hd']
    rw[e2] at e;have hm:u∈xs.toList:=by rw[<- JQ] at e;exact Jx e
    obtain⟨d2,hd2,bs2,r2⟩:=ZG r' u hm;exact⟨d2,bs2,r2,Yj ko _ hd2⟩
  rw[hfm,Qjr,Qag,map_eq_pure_bind];refine Qa (Qa (Qa (QeW (g:=tyV s.heap) _ (λu hu Q' q=>?_) (wpAny_pure ?_))))
  ·obtain⟨d,bs,r,ko⟩:=heads u hu;exact Qhx r ko q
  ·have fin:∀o:Option Value,(o.any (· != ZS "tuple")=true->∀u∈vs.filterMap (Qhm s.heap),tyV s.heap u≠ZS "tuple")->Q (tuples' (o.any (· != ZS "tuple"))) s:=λo ho=>by
    cases e:o.any (· != ZS "tuple") with
    |false=>exact h _ (.inr (.inr (.inl rfl)))
    |true=>
     refine h _ (.inr (.inr (.inr ⟨rfl,λd hd=>?_⟩)));obtain⟨es,rfl⟩:=ht d hd;obtain⟨v,hv,bs,r⟩:=Qct ra _ hd;refine⟨es,rfl,?_⟩;have ko:=Yj hk _ hd;cases r with
     |@tuple a oo xs n _ _ ho' hc hd' r'=>
      have e2:Qhm s.heap (.ref a)=xs[0]? := by unfold Qhm;simp only[ho',hd']
      have some1:(Qhm s.heap (.ref a)).isSome=true:=by
       have z':=QdD.mp z (Qhm s.heap (Z6 a)) (by simp;exact⟨_,hv,rfl⟩);exact z'
      rw[e2] at some1;obtain⟨u,hu⟩:=Qgc.mp some1;have hl:=(Array.getElem?_eq_some_iff.mp hu).1;have nt:=ho e u (Y2.mpr ⟨_,hv,by rw[e2];exact hu⟩);have hu':xs.toList[0]? = some u:=by rw[JQ];exact hu
      cases hx:xs.toList with
      |nil=>rw[hx] at hu';cases hu'
      |cons u0 us=>
       rw[hx] at hu' r';have e0:u0=u:=by simpa using hu'
       subst e0;cases r' with
       |@cons _ _ d1 ds1 as1 as2 r1 rs1=>
        have ko1:=(QK.mp (show(okK d1&&Qd5 ds1)=true from ko)).1;cases r1<;>first | (cases ko1;done) | skip
        ·trivial
        ·rename_i a2 o2 vs2 n2 xs2 ho2 hc2 hd2 ra2
         exfalso
         apply nt
         unfold tyV;simp only[ho2];exact hc2
   cases hg:((vs.filterMap (Qhm s.heap)).map (tyV s.heap)).toArray[0]? with
   |none=>exact wpAny_pure (wpAny_pure (fin none λe=>by cases e))
   |some t=>
    dsimp only
    refine wpAny_pure (wpAny_pure (fin _ λe u hu=>?_));split at e
    ·rename_i hall
     have ne:(t != ZS "tuple")=true:=e;have te:(tyV s.heap u == t)=true:=by
      have:=QdD.mp hall (tyV s.heap u) (by simp;exact⟨u,by simpa using Y2.mp hu,rfl⟩);exact this
     rw[eq_of_beq te]
     simpa using ne
    ·cases e
 ·rw[if_neg z];split
  ·exact wpAny_pure (h _ (.inl rfl))
  ·rw[Qjr,Qag,map_eq_pure_bind];refine Qa (Qa (Qa (QeW (g:=tyV s.heap) _ (λv hv Q' q=>?_) (wpAny_pure ?_))))
   ·obtain⟨d,hd,bs,r⟩:=rd v hv;exact Qhx r (Yj hk _ hd) q
   ·have fin:∀b:Bool,wpAny (model prog w) A (pure (if b=true then oneType' else general')) Q E s:=λb=>by
     cases b
     ·exact wpAny_pure (h _ (.inl rfl))
     ·exact wpAny_pure (h _ (.inr (.inl rfl)))
    split
    ·exact wpAny_pure (fin _)
    ·exact wpAny_pure (fin _)
end
end Rt
namespace Rt
open PySem.Calls PySem.W Dl Rs
section
variable{prog:QB}{w:Ji}{A:Q3}{E:Value->Shared->Prop}{s:Shared}
def prs(vs:List Value):Array Keyed:=vs.toArray.zip vs.toArray
theorem QdK(vs:List Value):(prs vs).toList=vs.zip vs:=by unfold prs;rw[Array.toList_zip]
theorem QrS(vs:List Value):(prs vs).toList.map (·.2)=vs:=by rw[QdK];exact List.map_snd_zip (Qj _)
theorem Qcr:∀{vs:List Value}{p:Keyed},p∈vs.zip vs->p.1=p.2/\p.2∈vs
 |v::vs,p,h=>by
  rw[Qdx] at h;rcases Qy.mp h with z | z
  ·rw[z];exact⟨rfl,.head _⟩
  ·exact⟨(Qcr z).1,.tail _ (Qcr z).2⟩
theorem QfI{a:Addr}{vs:List Value}{n:Nat}{P:PySem.Fin->Shared->Prop}(ho:s.heap.get? a=some (seqObj "list" vs.toArray n))(hz:vs.length<=sizeLine){c:Keyed->Keyed->Bool}(oc:Ord c)
  (hkind:∀h':Heap,Kept a s.heap h'->∀(Q':Yg->Shared->Prop)(E':Value->Shared->Prop),(∀κ,Asks prog w A { s with heap:=h' } κ (prs vs) c->Q' κ { s with heap:=h' })->wpAny (model prog w) A (keyKind' vs.toArray) Q' E' { s with heap:=h' })
  (h:∀arr:Array Keyed,arr.Perm (prs vs)->Sg c arr 0 arr.size->∀(h':Heap)(e:Nat),Kept a s.heap h'->h'.get? a=some (seqObj "list" (arr.toList.map (·.2)).toArray e)->P (.done (.ret .none)) { s with heap:=h' }) :
  wpAny (model prog w) A (YS.«list.sort» ⟨[.ref a],[]⟩) P E s:=by
 have ha:a<s.heap.objs.size:=Qw ho;obtain⟨e1,ho1⟩:∃e1,(s.heap.update a (Zg λ_=>(#[]:Array Value))).get? a=some (seqObj "list" #[] e1):=⟨_,Qjs ho λ_=>#[]⟩
 have K3:Kept a s.heap (((s.heap.update a (Zg λ_=>(#[]:Array Value))).push (seqObj "tuple" vs.toArray 0)).push (seqObj "list" #[] 0)):=(Qfk _).trans ((Qgw _).trans (Qgw _));have ho6:(((s.heap.update a (Zg λ_=>(#[]:Array Value))).push (seqObj "tuple" vs.toArray 0)).push (seqObj "list" #[] 0)).get? a=some (seqObj "list" #[] e1):=Qm _ (Qm _ ho1);rw[list_sort_plain];refine Qa (listItems_at ho rfl ?_);refine Qa (Qnd ho rfl ?_ (by rw[Qq];exact hz) (Qr _));refine Qa (QtL ho1 rfl ?_);refine Qa (wpAny_newTuple ?_ (by show vs.length<=_;exact hz));refine Qa (Qm9 ?_ (Qr _));refine JJ ?_
 show wpAny (model prog w) A _ P E { s with heap:=((s.heap.update a (Zg λ_=>(#[]:Array Value))).push (seqObj "tuple" vs.toArray 0)).push (seqObj "list" #[] 0) }
 dsimp only
 generalize (((s.heap.update a (Zg λ_=>(#[]:Array Value))).push (seqObj "tuple" vs.toArray 0)).push (seqObj "list" #[] 0))=h3 at K3 ho6 ⊢;have out:∀arr:Array Keyed,arr.map (·.2)=(arr.toList.map (·.2)).toArray:=λarr=>by
  apply Qau.mp
  rw[Qev]
 have psz:(prs vs).size=vs.length:=by rw[<- Qg,QdK,List.length_zip,Nat.min_self]
 by_cases h2:vs.toArray.size<2
 ·rw[if_pos h2,if_pos h2];refine Qa (wpAny_pure ?_);rw[StateT.run_pure];refine Qa (wpAny_pure ?_)
  dsimp only
  have f:Sg c (prs vs) 0 (prs vs).size:=λi j _ hij hj=>by
   rw[psz] at hj;rw[Qq] at h2;rw[show i=j by omega];exact oc.irr _
  refine Qa (QtL ho6 rfl ?_);refine Qa (Qnd ho6 rfl ?_ (Qr _) (by rw[QtI];show(prs vs).size<=_;rw[(QdE (prs vs)).size_eq,psz];omega));simp only[bne_self_eq_false,JT,if_false];show wpAny _ _ (ret ZI) _ _ { s with heap:=h3.update a (Zg λ_=>Array.map (λx=>x.snd) (prs vs)) };rw[out];exact wpAny_pure (h (prs vs) (QdE (prs vs)) (f) _ _ (K3.trans (Qfk _)) (Qjs ho6 λ_=>_))
 ·rw[if_neg h2,if_neg h2];refine Qa (hkind h3 K3 _ _ λκ hA=>?_);refine Qa (JI (Qht (a₀:=prs vs) (κ:=κ) (st:=QwN κ (prs vs) #[] 7 none) (Q:=λ_ st'=>SB κ (prs vs) st'/\Sg c (arrOf st') 0 (prs vs).size) hA ⟨QdE _,rfl,rfl⟩ rfl λst' b g=>⟨b,g⟩) ?_ λ_ _ e=>e);rintro⟨⟨⟩,st'⟩ s' ⟨rfl,b,g⟩
  dsimp only
  rw[b.failed];have g2:Sg c (arrOf st') 0 (arrOf st').size:=by rw[b.size];exact g
  refine Qa (QtL ho6 rfl ?_);refine Qa (Qnd ho6 rfl ?_ (Qr _) (by rw[QtI];show(arrOf st').size<=_;rw[(b.perm).size_eq,psz];omega));simp only[bne_self_eq_false,JT,if_false];show wpAny _ _ (ret ZI) _ _ { s with heap:=h3.update a (Zg λ_=>Array.map (λx=>x.snd) (arrOf st')) };rw[out];exact wpAny_pure (h (arrOf st') (b.perm) (g2) _ _ (K3.trans (Qfk _)) (Qjs ho6 λ_=>_))
theorem Qfp{Q:Value->Shared->Prop}{l:Addr}{T:String}{o:Obj}{vs:List Value}{n:Nat}(hT:T = "list" ∨ T = "tuple")(ho:s.heap.get? l=some o)(hc:o.cls=.type T)(hd:o.data=.seq vs.toArray n)(hz:vs.length<=sizeLine)
  (h:∀h':Heap,(∀b x,s.heap.get? b=some x->h'.get? b=some x)->∀(P:PySem.Fin->Shared->Prop)(E':Value->Shared->Prop),(∀s2,Q (.ref h'.objs.size) s2->P (.done (.ret .none)) s2) ->
   wpAny (model prog w) A.in1.in1 (YS.«list.sort» ⟨[.ref h'.objs.size],[]⟩) P E' { s with heap:=h'.push (seqObj "list" vs.toArray 0) }) :
  wpAny (model prog w) A (call (.builtin "sorted") [.ref l]) Q E s:=by
 refine Qgf kind_sorted plain_sorted entry_sorted (args_sorted1 _) ?_
 unfold YS.«sorted»;refine Qa (m:=checkCount "sorted" 1 1 _) (wpAny_pure ?_);refine Qa (wpAny_collect_seq (items:=vs.toArray) l hT ho hc hd (λh' kp=>?_) (by rw[Qq];exact hz));refine Qa (Qm9 ?_ (by rw[Qm3];exact hz));have hoL:(h'.push (seqObj "list" vs.toArray 0)).get? h'.objs.size=some (seqObj "list" vs.toArray 0):=Qz _ rfl;show wpAny _ _ _ _ _ { s with heap:=h'.push (seqObj "list" vs.toArray 0) };refine Qa (JJ (Zd slot_list_sort ⟨_,hoL,rfl⟩ entry_list_sort ?body (args_list_sort _)));exact h h' kp _ _ λs2 hq=>⟨_,rfl,wpAny_pure ⟨_,rfl,hq⟩⟩
open Classical in
noncomputable def rdV (h:Heap) (v:Value):Qb:=if q:∃d as,QaU h v d as/\d.canLay0=true then q.choose else .none
theorem Qk7{h:Heap}{v:Value}{d:Qb}{as:List Addr}(r:QaU h v d as)(c:d.canLay0=true):rdV h v=d:=by
 unfold rdV;have q:∃d as,QaU h v d as/\d.canLay0=true:=⟨d,as,r,c⟩
 rw[dif_pos q];obtain⟨as',r',c'⟩:=q.choose_spec;exact(QaB d _ v as as' c r r').symm
theorem Qdi{α β:Type}(f:α->β){l m:List β}(p:l.Perm m):∀{T:List α},m=T.map f->∃T':List α,T'.Perm T/\l=T'.map f:=by
 induction p with
 |nil=>intro T e;exact⟨T,QbW _,e⟩
 |@cons x l1 l2 _ ih=>
  intro T e;cases T with
  |nil=>cases e
  |cons t T=>
   rw[Jh] at e;injection e with e1 e2
   obtain⟨T',p',e'⟩:=ih e2;exact⟨t::T',p'.cons t,by rw[Jh,<- e1,<- e']⟩
 |@swap x y l=>
  intro T e;cases T with
  |nil=>cases e
  |cons t T=>
   cases T with
   |nil=>rw[Jh] at e;injection e with e1 e2;cases e2
   |cons t2 T=>
    rw[Jh,Jh] at e;injection e with e1 e2
    injection e2 with e3 e4
    exact⟨t2::t::T,List.Perm.swap t t2 T,by rw[Jh,Jh,<- e1,<- e3,<- e4]⟩
 |@trans l1 l2 l3 _ _ ih1 ih2=>
  intro T e;obtain⟨T2,p2,e2⟩:=ih2 e;obtain⟨T1,p1,e1⟩:=ih1 e2;exact⟨T1,p1.trans p2,e1⟩
end
mutual
theorem Qh9:∀(d:Qb),Qhn d d=true->okK d=true
 |.int _,_=>rfl
 |.tuple ds,h=>Qjg ds h
 |.none,h=>by cases h
 |.bool _,h=>by cases h
 |.str _,h=>by cases h
 |.list _,h=>by cases h
 |.dict _,h=>by cases h
theorem Qjg:∀(ds:List Qb),QbT ds ds=true->Qd5 ds=true
 |[],_=>rfl
 |d::ds,h=>by
  have h:=QK.mp (show(Qhn d d&&QbT ds ds)=true from h);show(okK d&&Qd5 ds)=true;rw[Qh9 d h.1,Qjg ds h.2];rfl
end
mutual
theorem Qb4:∀(d:Qb),okK d=true->d.canLay0=true
 |.int _,_=>rfl
 |.tuple ds,h=>QiP ds h
 |.none,h=>by cases h
 |.bool _,h=>by cases h
 |.str _,h=>by cases h
 |.list _,h=>by cases h
 |.dict _,h=>by cases h
theorem QiP:∀(ds:List Qb),Qd5 ds=true->Q7 ds=true
 |[],_=>rfl
 |d::ds,h=>by
  have h:=QK.mp (show(okK d&&Qd5 ds)=true from h);simp only[Q7,Qb4 d h.1,QiP ds h.2,Bool.and_self]
end
structure QbM (ds:List Qb):Prop where
 cmp:∀x∈ds,∀y∈ds,Qhn x y=true
 dep:∀x∈ds,x.depth<=20
end Rt
namespace L2
open PySem.Calls _root_.Rd _root_.Rk _root_.Rs Rt Dl
structure Trp where
 x:V
 v:Value
 d:Qb
theorem Qt2{H:Hp}:∀{xs:List V}{ds:List Qb}{vs:List Value},Dats H xs ds->Vals xs vs->∃T:List Trp,xs=T.map (·.x)/\vs=T.map (·.v)/\ds=T.map (·.d)/\∀t∈T,Dat H t.x t.d/\RelV t.x t.v
 |_,_,_,.nil,.nil=>⟨[],rfl,rfl,rfl,λ_ h=>nomatch h⟩
 |_,_,_,.cons q qs,.cons r rs=>by
  obtain⟨T,e1,e2,e3,h⟩:=Qt2 qs rs;refine⟨⟨_,_,_⟩::T,by rw[e1];rfl,by rw[e2];rfl,by rw[e3];rfl,λt ht=>?_⟩;rcases Qy.mp ht with z | z
  ·rw[z];exact⟨q,r⟩
  ·exact h t z
theorem Qo9{H:Hp}:∀{T:List Trp},(∀t∈T,Dat H t.x t.d/\RelV t.x t.v)->Dats H (T.map (·.x)) (T.map (·.d))/\Vals (T.map (·.x)) (T.map (·.v))
 |[],_=>⟨.nil,.nil⟩
 |t::T,h=>by
  obtain⟨a,b⟩:=Qo9 (T:=T) λt ht=>h t (.tail _ ht)
  exact⟨.cons (h t (.head _)).1 a,.cons (h t (.head _)).2 b⟩
def Qk9:List V->Hp->VK->Prop:=λxs H Q=>∃(l:Addr)(vs:List V)(ds:List Qb),xs=[.ref l]/\(H l=some (.lst vs)∨H l=some (.tup vs))/\Dats H vs ds/\QbM ds /\
 ∀(t:Addr)(ys:List V)(es:List Qb)(H2:Hp),Same H H2->H t=none->H2 t=some (.lst ys)->Dats H2 ys es->es.Perm ds->es.Pairwise (λa b=>ltD b a=false)->(∀y∈ys,y∈vs)->Q (.ref t) H2
section
variable{X:Cx}
theorem Qka(hu:X.A.units+60<cLine):CallR X (.builtin "sorted") Qk9:=by
 intro pins s σ H xs us Q I r h;obtain⟨l,vs,ds,rfl,hl,dts,so,q⟩:=h;obtain⟨u,rfl,ru⟩:=vals1 r;cases ru;have hu2:X.A.in1.in1.units+2*20+4<cLine:=by show X.A.units+1+1+2*20+4<cLine;omega
 obtain⟨T,o,its,n,hT,ho,hc,hd,rv,hz⟩:∃(T:String)(o:Obj)(its:List Value)(n:Nat),(T = "list" ∨ T = "tuple")/\s.heap.get? l=some o/\o.cls=.type T/\o.data=.seq its.toArray n/\Vals vs its/\vs.length<=sizeLine:=by
  rcases hl with hl | hl
  ·obtain⟨hz,its,n,rv,ho⟩:=I.hok l _ hl;exact⟨"list",_,its,n,.inl rfl,ho,rfl,rfl,rv,hz⟩
  ·obtain⟨hz,its,rv,o,ho,hc,_,n,hd⟩:=I.hok l _ hl;exact⟨"tuple",o,its,n,.inr rfl,ho,hc,hd,rv,hz⟩
 have li:=rv.length;obtain⟨⟨as,ra⟩,cl⟩:=YH I.hok ds vs its dts rv;have okds:Qd5 ds=true:=Qd4 λd hd=>Qh9 d (so.cmp d hd d hd)
 refine Qfp hT ho hc hd (by omega) λh' kp P E' hP=>?_
 have ra':=Qal kp ds its as okds ra
 let c:Keyed->Keyed->Bool:=λx y=>ltD (rdV h' x.1) (rdV h' y.1)
 have oc:Ord c:=⟨λx y=>Qos _ _,λx y z=>Qvs _ _ _⟩;refine QfI (s:={ s with heap:=h'.push (seqObj "list" its.toArray 0) }) (c:=c) (Qz _ rfl) (by omega) oc (λh2 k2 Q' E' hq=>?_) λarr pm sg h2 e k2 e2=>hP _ ?_
 ·have kk:∀b x,h'.get? b=some x->h2.get? b=some x:=λb x e=>k2 b x (QV (Qw e)) (Qm _ e)
  have ra2:=Qal kk ds its as okds ra';have asks:∀κ,QoY ds κ->(∀b,κ=tuples' b->∀d∈ds,∃es,d=.tuple es)->Asks X.prog X.w X.A.in1.in1 { s with heap:=h2 } κ (prs its) c:=λκ su tb=>by
   refine⟨oc,λx y hx hy C E'' hC=>?_⟩;rw[QdK] at hx hy;obtain⟨ex,hx⟩:=Qcr hx;obtain⟨ey,hy⟩:=Qcr hy;obtain⟨d1,m1,b1,r1⟩:=ZG ra2 x.2 hx;obtain⟨d2,m2,b2,r2⟩:=ZG ra2 y.2 hy;obtain⟨d1',m1',b1',r1'⟩:=ZG ra' x.2 hx;obtain⟨d2',m2',b2',r2'⟩:=ZG ra' y.2 hy;have k1:=Yj okds d1 m1;have k2:=Yj okds d2 m2;have c1:=Qb4 d1 k1;have c2:=Qb4 d2 k2;have c1':=Qb4 d1' (Yj okds d1' m1');have c2':=Qb4 d2' (Yj okds d2' m2');have q1:d1'=d1:=QaB d1' d1 x.2 _ _ c1' (QcY kk d1' _ _ (Yj okds d1' m1') r1') r1;have q2:d2'=d2:=QaB d2' d2 y.2 _ _ c2' (QcY kk d2' _ _ (Yj okds d2' m2') r2') r2;subst q1 q2;have hC:C (ltD (rdV h' x.1) (rdV h' y.1)) { s with heap:=h2 }:=hC;rw[ex,ey,Qk7 r1' c1',Qk7 r2' c2'] at hC;rw[ex,ey];exact Qvy (N:=20) su m1 r1 r2 c1 c2 (so.cmp _ m1 _ m2) (λb e=>tb b e _ m1) (so.dep _ m1) hu2 hC
  cases ds with
  |nil=>
   cases ra2;exact QiZ (s:={ s with heap:=h2 }) .nil rfl (λd hd=>nomatch hd) λκ su=>hq κ (asks κ su λb _ d hd=>nomatch hd)
  |cons d0 ds0=>
   have sh:(∀d∈d0::ds0,∃es,d=.tuple es)∨∀d∈d0::ds0,∃i,d=.int i:=by
    cases d0 with
    |int i=>exact .inr λd hd=>by have:=so.cmp _ (.head _) d hd;cases d<;>first | exact⟨_,rfl⟩ | (cases this;done)
    |tuple es=>exact .inl λd hd=>by have:=so.cmp _ (.head _) d hd;cases d<;>first | exact⟨_,rfl⟩ | (cases this;done)
    |_=>have:=so.cmp _ (.head _) _ (.head _);cases this
   rcases sh with sh | sh
   ·exact QiZ (s:={ s with heap:=h2 }) ra2 okds sh λκ su=>hq κ (asks κ su λb _=>sh)
   ·have one:QoY (d0::ds0) oneType':=.inr (.inl rfl);by_cases l2:its.length<2
    ·have hk1:∀v∈its,∀(Q'':Option Value->Shared->Prop),Q'' none { s with heap:=h2 }->wpAny (model X.prog X.w) X.A.in1.in1 (firstOfTuple' v) Q'' E' { s with heap:=h2 }:=λv hv Q'' q''=>by
      obtain⟨d,hd,bs,r⟩:=ZG ra2 v hv;obtain⟨i,rfl⟩:=sh d hd;cases r;exact wpAny_pure q''
     have hk2:∀v∈its,∀(Q'':Value->Shared->Prop),Q'' (Rt.tyV h2 v) { s with heap:=h2 }->wpAny (model X.prog X.w) X.A.in1.in1 (typeOf v) Q'' E' { s with heap:=h2 }:=λv hv Q'' q''=>by
      obtain⟨d,hd,bs,r⟩:=ZG ra2 v hv;exact Qhx (s:={ s with heap:=h2 }) r (Yj okds d hd) q''
     rw[keyKind'_eq,Qag,map_eq_pure_bind];refine Qa (Qa (QeW (g:=λ_=>(none:Option Value)) its hk1 (wpAny_pure ?_)));cases its with
     |nil=>cases ra2
     |cons v0 vs0=>
      rw[if_neg (by simp)];rw[if_neg (by simp)];rw[Qjr,Qag,map_eq_pure_bind];refine Qa (Qa (Qa (QeW (g:=Rt.tyV h2) _ hk2 (wpAny_pure ?_))));have fin:∀b:Bool,wpAny (model X.prog X.w) X.A.in1.in1 (pure (if b=true then oneType' else general')) Q' E' { s with heap:=h2 }:=λb=>by
       have ni:∀{κ:Yg},(∀b',κ≠tuples' b')->∀b',κ=tuples' b'->∀d∈d0::ds0,∃es,d=Zh es:=λh b' e=>(h b' e).elim
       cases b
       ·exact wpAny_pure (hq _ (asks _ (.inl rfl) (ni λb' e=>by cases e)))
       ·exact wpAny_pure (hq _ (asks _ (.inr (.inl rfl)) (ni λb' e=>by cases e)))
      split
      ·exact wpAny_pure (fin _)
      ·exact wpAny_pure (fin _)
    ·have ia:∀{vs:List Value}{ds:List Qb}{as:List Addr},Yx h2 vs ds as->(∀d∈ds,∃i,d=Qe i)->∃ns,IntsAre vs ns:=by
      intro vs ds as ra hs;induction vs generalizing ds as with
      |nil=>exact⟨[],.nil⟩
      |cons v vs ih=>
       cases ra with
       |cons r rs=>
        obtain⟨i,rfl⟩:=hs _ (.head _);obtain⟨ns,hn⟩:=ih rs λd hd=>hs d (.tail _ hd)
        cases r;exact⟨i::ns,.cons _ _ hn⟩
     obtain⟨ns,hn⟩:=ia ra2 sh
     match its,hn,l2 with
     |v1::v2::vs',hn,_=>
      rw[keyKind_ints hn];exact wpAny_pure (hq _ (asks _ one λb e=>by cases e))
     |[_],_,l2=>exact absurd (Qfe 1) l2
     |[],_,l2=>exact absurd (Nat.zero_lt_two) l2
 ·have I1:Inv X pins σ H { s with heap:=h' }:=I.kept (t':=s.toks) kp;have hf:H h'.objs.size=none:=I1.hok.fresh (Qj _);have pv:(arr.toList.map (·.2)).Perm its:=by
   have:=(Yy.mp pm).map (·.2)
   rwa [QrS] at this
  obtain⟨Tr,t1,t2,t3,th⟩:=Qt2 dts rv;obtain⟨Tr',p',e'⟩:=Qdi Trp.v (l:=arr.toList.map (·.2)) (by rw[<- t2];exact pv) (T:=Tr) rfl;have th':∀t∈Tr',Dat H t.x t.d/\RelV t.x t.v:=λt ht=>th t (p'.mem_iff.mp ht)
  obtain⟨dts',rv'⟩:=Qo9 th';have ll:(Tr'.map (·.x)).length<=sizeLine:=by
   have:=p'.length_eq;rw[Qd,this,<- Qd (f:=Trp.x),<- t1];exact hz
  have I2:Inv X pins σ (upd H h'.objs.size (.lst (Tr'.map (·.x)))) { s with heap:=h2 }:=
   I1.laid (t':=s.toks) (λb x e'=>k2 b x (QV (Qw e')) (Qm _ e')) (Qj _) (show ObjOk X.prog X.w _ _ _ (.lst _) from⟨ll,_,e,by rw[e'];exact rv',e2⟩)
  refine⟨.ref h'.objs.size,_,I2,rfl,q _ _ (Tr'.map (·.d)) _ (JW hf) hf JB (dts'.same (JW hf)) (by rw[t3];exact p'.map _) ?_ λy hy=>?_⟩
  ·-- in order
   have len:arr.toList.length=Tr'.length:=by have:=congrArg Qm5 e';rwa [Qd,Qd] at this
   rw[ZM];intro i j hi hj hij;rw[Qd] at hi hj;rw[Qp4,Qp4];have ka:∀(k:Nat)(hk:k<Tr'.length),rdV h' (kx arr k).1=Tr'[k].d:=λk hk=>by
    have hk':k<arr.size:=by rw[<- Qg,len];exact hk
    have m:=Qeb hk';have m2:=(Yy.mp pm).mem_iff.mp m;rw[QdK] at m2;have e3:=(Qcr m2).1;have e4:(kx arr k).2=Tr'[k].v:=by
     have h5:(arr.toList.map (·.2))[k]? = some (kx arr k).2:=by rw[QF,Qax hk'];rfl
     rw[e',QF,Qk hk] at h5;exact(Qs h5).symm
    rw[e3,e4];obtain⟨dt,rv0⟩:=th' _ (Z9 hk);obtain⟨⟨bs,rr⟩,cc⟩:=ZZ I1.hok _ _ _ dt rv0;exact Qk7 rr cc
   have g:ltD (rdV h' (kx arr j).1) (rdV h' (kx arr i).1)=false:=sg i j (Qr _) (by omega) (by rw[<- Qg,len];exact hj);rw[ka i hi,ka j hj] at g;exact g
  ·obtain⟨t,ht,rfl⟩:=Ql.mp hy;rw[t1];exact Ql.mpr ⟨t,p'.mem_iff.mp ht,rfl⟩
end
end L2
namespace Dl
open L2 _root_.Rd Rk Rt
theorem QvT{A:Addr->Prop}{H:Hp}{xs:List V}{ds:List Qb}(q:DAs A H xs ds){v:V}(hv:v∈xs):∃d∈ds,DA A H v d:=by
 obtain⟨i,hi⟩:=Jn.mp hv;obtain⟨d,hd,h⟩:=q.getV i v hi;exact⟨d,Jx hd,h⟩
theorem QgT{A:Addr->Prop}{H:Hp}:∀{ys:List V}{es:List Qb},Dats H ys es->(∀y∈ys,∃d,DA A H y d/\nd d=true/\d.canLay0=true/\Dat H y d)->(∀y d e,y∈ys->Dat H y d->Dat H y e->d=e)->DAs A H ys es
 |_,_,.nil,_,_=>.nil
 |_,_,.cons (x:=x) (d:=d) q qs,h,u=>by
  obtain⟨d',h1,_,_,h4⟩:=h x (.head _);have:d=d':=u x d d' (.head _) q h4;subst this;exact .cons h1 (QgT qs (λy hy=>h y (.tail _ hy)) λy d e hy=>u y d e (.tail _ hy))
mutual
theorem Qi9{H:Hp}:∀(d e:Qb)(x:V),Dat H x d->Dat H x e->d=e
 |.none,e,_,.non,h=>by cases h;rfl
 |.bool _,e,_,.bl _,h=>by cases h;rfl
 |.int _,e,_,.int _,h=>by cases h;rfl
 |.str _,e,_,.str _ _,h=>by cases h;rfl
 |.tuple ds,e,_,.tup (xs:=xs) e1 q,h=>by
  cases h with
  |@tup a ys es e2 q'=>
   rw[e1] at e2;cases e2;rw[Qej ds es xs q q']
  |@lst a ys es e2 q'=>rw[e1] at e2;cases e2
 |.list ds,e,_,.lst (xs:=xs) e1 q,h=>by
  cases h with
  |@tup a ys es e2 q'=>rw[e1] at e2;cases e2
  |@lst a ys es e2 q'=>
   rw[e1] at e2;cases e2;rw[Qej ds es xs q q']
 |.dict _,_,_,q,_=>nomatch q
theorem Qej{H:Hp}:∀(ds es:List Qb)(xs:List V),Dats H xs ds->Dats H xs es->ds=es
 |[],es,_,.nil,h=>by cases h;rfl
 |d::ds,es,_,.cons q qs,h=>by
  cases h with
  |@cons x xs e es q' qs'=>rw[Qi9 d e _ q q',Qej ds es _ qs qs']
end
mutual
theorem QgE:∀(d:Qb),okK d=true->nd d=true
 |.int _,_=>rfl
 |.tuple ds,h=>QhM ds h
 |.none,h=>by cases h
 |.bool _,h=>by cases h
 |.str _,h=>by cases h
 |.list _,h=>by cases h
 |.dict _,h=>by cases h
theorem QhM:∀(ds:List Qb),Qd5 ds=true->nds ds=true
 |[],_=>rfl
 |d::ds,h=>by
  have h:=QK.mp (show(okK d&&Qd5 ds)=true from h);show(nd d&&nds ds)=true;rw[QgE d h.1,QhM ds h.2];rfl
end
@[irreducible] def Qgo:List Qb->(Qb->Prop)->Prop
 |[.list ds],Q=>QbM ds/\∀es:List Qb,es.Perm ds->es.Pairwise (λa b=>ltD b a=false)->Q (.list es)
 |[.tuple ds],Q=>QbM ds/\∀es:List Qb,es.Perm ds->es.Pairwise (λa b=>ltD b a=false)->Q (.list es)
 |_,_=>False
theorem Qnu{ds:List Qb}{Q:Qb->Prop}(h:QbM ds)(k:∀es:List Qb,es.Perm ds->es.Pairwise (λa b=>ltD b a=false)->Q (.list es)):Qgo [.list ds] Q/\Qgo [.tuple ds] Q:=by
 unfold Qgo;exact⟨⟨h,k⟩,h,k⟩
theorem QoP:Qca Qk9 Qgo:=λA P H vs ds R Q ln dm q h k=>by
 have go:∀(l:Addr)(xs:List V)(ds:List Qb),(H l=some (.lst xs)∨H l=some (.tup xs))->DAs A H xs ds->QbM ds->(∀es:List Qb,es.Perm ds->es.Pairwise (λa b=>ltD b a=false)->R (.list es))->Qk9 [.ref l] H Q:=λl xs ds hl qq so hR=>by
  have okds:Qd5 ds=true:=Qd4 λd hd=>Qh9 d (so.cmp d hd d hd)
  refine⟨l,xs,ds,rfl,hl,Qbd _ _ (QhM ds okds) qq,so,λt ys es H2 s n e2 dts pm pw sub=>?_⟩;have dm2:∀a,A a->∃xs,H2 a=some (.lst xs):=λa z=>by obtain⟨xs,e⟩:=dm a z;exact⟨xs,s _ _ e⟩
  refine k _ (hR es pm pw) _ H2 s (.lst (λz=>?_) e2 (QgT dts (λy hy=>?_) λy d e _=>Qi9 d e y)) (Qbb n)
  ·obtain⟨xs,e⟩:=dm t z;rw[n] at e;cases e
  ·obtain⟨d,hd,da⟩:=QvT qq (sub y hy);have ok:=Yj okds d hd;exact⟨d,da.same s,QgE d ok,Qb4 d ok,Qmq d y (QgE d ok) (da.same s)⟩
 unfold Qgo at h;split at h
 ·obtain⟨v,rfl,hv⟩:=pd1 q;obtain⟨l,xs,rfl,e,qq⟩:=hv.list;exact go l xs _ (.inl e) qq h.1 h.2
 ·obtain⟨v,rfl,hv⟩:=pd1 q;obtain⟨l,xs,rfl,e,qq⟩:=hv.tuple;exact go l xs _ (.inr e) qq h.1 h.2
 ·exact h.elim
end Dl
namespace L2
open PySem.Calls _root_.Rd _root_.Rk Rt
section
variable{X:Cx}
def ddI(ns:List Int):List Int:=ns.foldl Qb0 []
theorem QoF(ns:List Int):firstMet (λi=>ns.getD i 0) ns.length=ddI ns:=by
 unfold firstMet ddI
 congr 1
 apply Qah
 intro i;rw[QF];by_cases h:i<ns.length
 ·rw[Zf h,Qk h];show some (ns.getD i 0)=_;rw[QY,Qk h];rfl
 ·rw[JR (by simpa using h),JR (by omega)];rfl
def Qxr(K:PySem.W.Frag):List V->Hp->VK->Prop:=λxs H Q=>∃(l:Addr)(ns:List Int),xs=[.ref l]/\SqL K H l (ns.map V.int)/\ns.length<=4000 /\
 ∀(t:Addr)(H2:Hp),Same H H2->H t=none->H2 t=some (.set (λk=>(ddI ns).any (· == k)) (ddI ns).length)->Q (.ref t) H2
theorem QmF(hc:X.calm=true):CallR X (.type "set") (Qxr X.K):=by
 intro pins s σ H xs us Q I r h;obtain⟨p,ns,rfl,hp,hn,q⟩:=h;obtain⟨u,rfl,ru⟩:=vals1 r;cases ru;obtain⟨its,rv,pl,hz⟩:=I.list hp;have hi:IntsAre its ns:=intsAre_of rv;have hl:=hi.length;refine PySem.call_set_list (items:=its.toArray) (ns:=ns) (I.ok.hd hc) pl.isList (by simpa using hi) (by rw[Qq,hl];unfold scanBound;omega) λh' tk hS hk=>?_
 have ez:its.toArray.size=ns.length:=by rw[Qq];exact hl
 rw[ez,QoF] at hS;have hf:H s.heap.objs.size=none:=I.hok.fresh (Qj _);refine⟨.ref s.heap.objs.size,upd H s.heap.objs.size (.set (λk=>(ddI ns).any (· == k)) (ddI ns).length),I.laid (t':=tk) (λb x e=>hk b x (Qw e) e) (Qj _) hS,rfl,q _ _ (JW hf) hf JB⟩
def QrH:List V->Hp->VK->Prop:=λxs H Q=>∃(a:Addr)(S:Int->Bool)(n:Nat),xs=[.ref a]/\H a=some (.set S n)/\n<=4000/\Q (.int n) H
theorem Qif:CallR X (.builtin "len") QrH:=by
 intro pins s σ H xs us Q I r h;obtain⟨a,S,n,rfl,ha,hn,q⟩:=h;obtain⟨u,rfl,ru⟩:=vals1 r;cases ru;obtain⟨o,es,ep,t,ho,hex,hd,hel,hmem,hb,hf,hz⟩:=I.hok a _ ha;have hz:es.size=n:=hz;refine PySem.call_len_set ho hex hd hf (by
                       rw[hz];have:(4000:Int)<2^63:=by decide
                       omega) ?_
 rw[hz];exact⟨.int n,H,I.tok _,⟨_,rfl⟩,q⟩
theorem Qi8:∀(ns σ:List Int),(ns.foldl Qb0 σ).length<=σ.length+ns.length/\(σ.Nodup->((ns.foldl Qb0 σ).length=σ.length+ns.length↔(σ++ns).Nodup))
 |[],σ=>⟨Qj _,λh=>by simp[h]⟩
 |n::ns,σ=>by
  rw[Qce,QL];by_cases z:σ.any (· == n)=true
  ·have e:Qb0 σ n=σ:=by unfold Qb0;rw[if_pos z]
   rw[e];obtain⟨a,b⟩:=Qi8 ns σ;refine⟨by omega,λhs=>⟨λq=>by omega,λq=>?_⟩⟩;obtain⟨x,hx,hn⟩:=YN.mp z;have hn:=beq_iff_eq.mp hn;subst hn;exact absurd rfl ((JX.mp q).2.2 x hx x (.head _))
  ·have e:Qb0 σ n=σ++[n]:=by unfold Qb0;rw[if_neg z]
   rw[e];obtain⟨a,b⟩:=Qi8 ns (σ++[n]);rw[Qo] at a b;have nm:n∉σ:=λhx=>z (YN.mpr ⟨n,hx,by simp⟩)
   refine⟨by simp only[Qcc] at a;omega,λhs=>?_⟩;have hs2:(σ++[n]).Nodup:=JX.mpr ⟨hs,by simp,λx hx y hy=>by rw[QC.mp hy];exact λe=>nm (e ▸ hx)⟩;have:=b hs2;rw[QJ] at this;have e3:σ++n::ns=σ++([n]++ns):=rfl;rw[e3,<- this];simp only[Qcc];omega
theorem Qyc(ns:List Int):(ddI ns).length<=ns.length:=by have:=(Qi8 ns []).1;unfold ddI;simpa using this
theorem QoI(ns:List Int):(ddI ns).length=ns.length↔ns.Nodup:=by have:=(Qi8 ns []).2 (by simp);unfold ddI;simpa using this
def QyB:R2:=λx y H Q=>∃d e,Dat H x d/\Dat H y e/\Dl.Qhn d e=true/\d.depth<=20/\Q (.bl (Dl.ltD d e)) H
theorem Qvd(hu:X.A.units+60<cLine):OpR X (compareOp .Lt) QyB:=by
 intro pins s σ H x y v u Q I rx ry h;obtain⟨d,e,qx,qy,hk,hd,q⟩:=h;obtain⟨⟨as,ra⟩,ca⟩:=ZZ I.hok d x v qx rx;obtain⟨⟨bs,rb⟩,cb⟩:=ZZ I.hok e y u qy ry;exact QrF 20 d e X.A s v u as bs ra rb ca cb hk hd (by omega) _ _ _ _ ⟨.bl _,H,I,rfl,q⟩
end
end L2
namespace Dl
open L2 _root_.Rd Rk Rt
@[irreducible] def anyD:List Qb->(Qb->Prop)->Prop
 |[.list ds],Q=>∃bs,QbE ds=some bs/\Q (.bool (bs.any id))
 |_,_=>False
def Qzr:Qb->Qb->(Qb->Prop)->Prop:=λd e Q=>(okK d=true/\okK e=true/\Qhn d e=true/\d.depth<=20)/\Q (.bool (ltD d e))
theorem Qvn:OpD QyB Qzr:=λA P H x y d1 d2 R Q ln dm hx hy h k=>by
 obtain⟨⟨h1,h2,h3,h4⟩,hR⟩:=h;exact⟨d1,d2,hx.dat (QgE d1 h1),hy.dat (QgE d2 h2),h3,h4,k _ hR _ H (Same.refl H) (.bl _) Qai⟩
section
variable{X:Cx}{E:XK}
def Qms(w:DE):DE:=λδ Q EX=>w δ (λd=>match d with
 |.list ds=>∃ns,QbY ds=some ns/\ns.length<=4000/\Q (.int (ddI ns).length)
 |_=>False) EX
theorem bt_set:bootBuiltins "set" = some (.type "set"):=by decide +kernel
theorem Qlx{e:Q5}{w:DE}{p p2 pos pos2:Pos}(hg:Gl X "len")(hm:X.mg "len" = none)(hg2:Gl X "set")(hm2:X.mg "set" = none)(h:PE X e (tX .P X.K E w))(hc:X.calm=true)(hs:notStar e=true):PE X (.Call (.Name "len" p) [.Call (.Name "set" p2) [e] [] pos2] [] pos) (tX .F X.K E (Qms w)):=by
 refine PE.imp (Qa9 Qif hg hm YV (Qd3 (Qcy (QmF hc) hg2 hm2 bt_set (Qd3 h Z5 hs) (he:=YB hs)) Z5)) λσ H Q ⟨F,δ,R,EX,rel,hw,k,o⟩=>?_
 refine⟨F,δ,_,EX,rel,hw,λd hd v H1 rel1 kp1 vk=>?_,o⟩;cases d<;>first | exact(show False from hd).elim | skip
 obtain⟨ns,hn,hl,hR⟩:=hd;rw[QfK hn] at vk;obtain⟨l,xs,rfl,e,q⟩:=DP.list vk;rw[Qbc q] at e;refine⟨l,ns,rfl,SqL.of e,hl,λt H2 s2 n2 e2=>⟨t,_,_,rfl,e2,?_,?_⟩⟩
 ·have:=Qyc ns;omega
 ·exact k _ hR _ H2 (rel1.same s2) (kp1.trans (Kp.same rel1 s2)) ⟨.int _,Ym⟩
theorem QnI{e:Q5}{w:DE}{p p2 pos pos2:Pos}(hg:Gl X "len")(hm:X.mg "len" = none)(hg2:Gl X "set")(hm2:X.mg "set" = none)(h:QE .P X E e w)(hc:X.calm=true:=by rfl)(hs:notStar e=true:=by rfl):QE .F X E (.Call (.Name "len" p) [.Call (.Name "set" p2) [e] [] pos2] [] pos) (Qms w):=⟨Qlx hg hm hg2 hm2 h.h hc hs⟩
end
end Dl
namespace Zt
open PySem.W PySem.Calls Rs
theorem Qtx:∀m:Fin 64,(Sm m).Pairwise (· < ·):=by decide +kernel
section
variable{prog:QB}{w:Ji}{A:Q3}{E:Value->Shared->Prop}{s:Shared}
theorem Qkz{a:Addr}{m:Nat}(hm:m<64)(x:Sml s.heap a m (ledOf w)):∃es ep so vs,Way prog w a es ep (tb m (ledOf w)) so vs/\SetAt s.heap a es ep (tb m (ledOf w))/\EsOk es (Sm m):=by
 obtain⟨es,ep,sa,eo⟩:=x.ex;cases hb:w.params.followText "set-order" with
 |true=>exact⟨es,ep,_,_,Qnl hb a es ep _,sa,eo⟩
 |false=>
  have hl:ledOf w=true:=by unfold ledOf;rw[hb];rfl
  have hz:(Sm m).toArray.size=(Sm m).length:=by simp
  refine⟨es,ep,so m,es,Qrf hb a es ep _ rfl hl (by rw[eo.size];exact hz) (so m) rfl (λi hi=>rfl) (λi hi=>?_),sa,eo⟩;have hi:i<=(Sm m).length:=by rw[<- hz];exact hi
  have:=QjD ⟨m,hm⟩;exact Qrl ⟨m,hm⟩ ⟨i,by simp only at this;omega⟩ hi
theorem Qi0:∀(l:List (Int×Value)),(∀e∈l,∃(v:Nat)(tk:Tok),e=((v:Int),YJ (v:Int) tk))->IntsAre (l.map (·.2)) (l.map (·.1))
 |[],_=>.nil
 |e::l,h=>by
  obtain⟨v,tk,rfl⟩:=h e (.head _);exact .cons _ tk (Qi0 l λe he=>h e (.tail _ he))
theorem QfS{a:Addr}{m:Nat}{Q:List Value->Shared->Prop}(hh:A.handled=none)(hm:m<64)(x:Sml s.heap a m (ledOf w))
  (hQ:∀(h':Heap)(tk:Nat)(us:List Value)(ns:List Int),(∀b o,s.heap.get? b=some o->h'.get? b=some o)->IntsAre us ns->ns.Perm ((Sm m).map λ(x:Nat)=>(x:Int))->Q us { s with heap:=h',toks:=tk }):wpAny (model prog w) A (collect (.ref a)) Q E s:=by
 obtain⟨es,ep,so,vs,W,sa,eo⟩:=Qkz (prog:=prog) hm x;refine Qh8 hh W sa rfl (by have:=QjD ⟨m,hm⟩;simp only at this;rw[eo.size,Qjp];omega) λh' tk kp=>?_
 refine hQ h' tk _ (vs.toList.map (·.1)) kp (Qi0 _ λe he=>?_) ?_
 ·obtain⟨v,_,tk,e'⟩:=eo.mem (W.pm.mem_iff.mp he);exact⟨v,tk,e'⟩
 ·have h1:=W.pm.map (·.1);have h2:=congrArg Qjy eo.hashes;rw[Qev] at h2;rw[h2] at h1
  simpa using h1
theorem Qgn{Q:Value->Shared->Prop}{a:Addr}{m:Nat}(hh:A.handled=none)(hm:m<64)(x:Sml s.heap a m (ledOf w))
  (h:∀(h':Heap)(tk:Nat)(us:List Value)(ns:List Int),(∀b x,s.heap.get? b=some x->h'.get? b=some x)->IntsAre us ns->ns.Perm ((Sm m).map λ(x:Nat)=>(x:Int))->∀(P:PySem.Fin->Shared->Prop)(E':Value->Shared->Prop),(∀s2,Q (.ref h'.objs.size) s2->P (.done (.ret .none)) s2) ->
   wpAny (model prog w) A.in1.in1 (YS.«list.sort» ⟨[.ref h'.objs.size],[]⟩) P E' { s with heap:=h'.push (seqObj "list" us.toArray 0),toks:=tk }) :
  wpAny (model prog w) A (call (.builtin "sorted") [.ref a]) Q E s:=by
 refine Qgf kind_sorted plain_sorted entry_sorted (args_sorted1 _) ?_
 unfold YS.«sorted»;refine Qa (m:=checkCount "sorted" 1 1 _) (wpAny_pure ?_);refine Qa (QfS (A:=A.in1) hh hm x λh' tk us ns kp ia pm=>?_);have hlen:us.length<=6:=by
  have h1:=ia.length;have h2:=pm.length_eq;have:=QjD ⟨m,hm⟩;simp only at this;rw[Qd] at h2;omega
 refine Qa (Qm9 ?_ (by rw[Qjp];omega));have hoL:(h'.push (seqObj "list" us.toArray 0)).get? h'.objs.size=some (seqObj "list" us.toArray 0):=Qz _ rfl;show wpAny _ _ _ _ _ { s with heap:=h'.push (seqObj "list" us.toArray 0),toks:=tk };refine Qa (JJ (Zd slot_list_sort ⟨_,hoL,rfl⟩ entry_list_sort ?body (args_list_sort _)));exact h h' tk us ns kp ia pm _ _ λs2 hq=>⟨_,rfl,wpAny_pure ⟨_,rfl,hq⟩⟩
end
theorem QoU{val:Nat->Nat}{v:Nat}(hv:v<6):∀{n:Nat},(∀j,j<n->val j<6)->(v∈Sm (bits val n)↔∃i,i<n/\val i=v):=by
 intro n h;have key:∀n,(bits val n).testBit v=true↔∃i,i<n/\val i=v:=λn=>by
  induction n with
  |zero=>simp[bits]
  |succ n ih=>
   show(bits val n ||| 2^val n).testBit v=true↔_;rw[Qwo,Qch,ih,Qnh];constructor
   ·rintro(⟨i,hi,e⟩ | z)
    ·exact⟨i,by omega,e⟩
    ·exact⟨n,by omega,by simpa using z⟩
   ·rintro⟨i,hi,e⟩;by_cases z:i=n
    ·subst z;exact .inr (by simpa using e)
    ·exact .inl ⟨i,by omega,e⟩
 rw[<- key n];unfold Sm;rw[Qu,Js];exact⟨λz=>z.2,λz=>⟨hv,z⟩⟩
end Zt
namespace L2
open Zt
section
variable{X:Cx}
def Qxq(led:Bool)(K:PySem.W.Frag):List V->Hp->VK->Prop:=λxs H Q=>∃(l:Addr)(ns:List Nat),xs=[.ref l]/\SqL K H l (ns.map λ(n:Nat)=>V.int (n:Int))/\(∀n∈ns,n<6) /\
 ∀(t:Addr)(H2:Hp)(m:Nat),m<64->(∀v,v<6->(v∈Sm m↔v∈ns))->Same H H2->H t=none->H2 t=some (.ext λh=>Sml h t m led)->Q (.ref t) H2
theorem call_setS(hc:X.calm=true):CallR X (.type "set") (Qxq (ledOf X.w) X.K):=by
 intro pins s σ H xs us Q I r h;obtain⟨p,ns,rfl,hp,h6,q⟩:=h;obtain⟨u,rfl,ru⟩:=vals1 r;cases ru;obtain⟨its,rv,pl,hz⟩:=I.list hp;have e0:(ns.map λ(n:Nat)=>V.int (n:Int))=(ns.map λ(n:Nat)=>(n:Int)).map V.int:=by rw[QP];rfl
 rw[e0] at rv;have hi:IntsAre its (ns.map λ(n:Nat)=>(n:Int)):=intsAre_of rv;have hl:=hi.length;rw[Qd] at hl;have h6':∀i,i<ns.length->ns.getD i 0<6:=λi hi=>by
  rw[QY,Qk hi];exact h6 _ (Z9 hi)
 refine Zt.call_setS (items:=its.toArray) (n:=ns.length) (val:=λi=>ns.getD i 0) (I.ok.hd hc) pl.isList (by rw[Qq];exact hl) (λi v hv=>?_) h6' λh' tk hS hk=>?_
 ·have key:∀(us:List Value)(ms:List Nat),IntsAre us (ms.map λ(n:Nat)=>(n:Int))->∀i v,us[i]? = some v->∃t,v=YJ ((ms.getD i 0:Nat):Int) t:=λus ms=>by
   induction ms generalizing us with
   |nil=>intro h;cases h;intro i v hv;simp at hv
   |cons n ms ih=>
    intro h;cases h with
    |cons _ t h'=>
     intro i v hv;cases i with
     |zero=>exact⟨t,(Qs hv).symm⟩
     |succ i=>exact ih _ h' i v hv
  exact key its ns hi i v (by simpa using hv)
 ·have hf:H s.heap.objs.size=none:=I.hok.fresh (Qj _);have hm:=Qih (val:=λi=>ns.getD i 0) (i:=ns.length) h6';refine⟨.ref s.heap.objs.size,upd H s.heap.objs.size (.ext λh=>Sml h s.heap.objs.size (bits (λi=>ns.getD i 0) ns.length) (ledOf X.w)),I.laid (t':=tk) (λb x e=>hk b x (Qw e) e) (Qj _) ⟨hS,?_,λh1 h2 a b=>a.at' b⟩,rfl,q _ _ _ hm (λv hv=>?_) (JW hf) hf JB⟩
  ·obtain⟨es,ep,sa,_⟩:=hS.ex;obtain⟨o,ho,_⟩:=sa.at_;exact⟨o,ho⟩
  ·rw[QoU hv h6',Jn];constructor
   ·rintro⟨i,hi,e⟩;refine⟨i,?_⟩;rw[QY,Qk hi] at e;rw[Qk hi];exact congrArg some e
   ·rintro⟨i,e⟩;have hi:i<ns.length:=(QQ.mp e).1;exact⟨i,hi,by rw[QY,e];rfl⟩
def Qur(led:Bool):List V->Hp->VK->Prop:=λxs H Q=>∃(a:Addr)(m:Nat),xs=[.ref a]/\m<64/\H a=some (.ext λh=>Sml h a m led) /\
 ∀(t:Addr)(H2:Hp),Same H H2->H t=none->H2 t=some (.lst ((Sm m).map λ(n:Nat)=>V.int (n:Int)))->Q (.ref t) H2
theorem Qfa(hc:X.calm=true):CallR X (.builtin "sorted") (Qur (ledOf X.w)):=by
 intro pins s σ H xs us Q I r h;obtain⟨a,m,rfl,hm,ha,q⟩:=h;obtain⟨u,rfl,ru⟩:=vals1 r;cases ru;obtain⟨hS,_⟩:=I.hok a _ ha;refine Qgn (I.ok.hd hc) hm hS λh' tk its ns kp ia pm P E' hP=>?_
 have hn:(h'.push (seqObj "list" its.toArray 0)).get? h'.objs.size=some (seqObj "list" its.toArray 0):=Qz _ rfl;have h6:ns.length<=6:=by
  have h2:=pm.length_eq;have:=QjD ⟨m,hm⟩;simp only at this;rw[Qd] at h2;omega
 have h6':=ia.length;refine list_sort_tree (s:={ s with heap:=h'.push (seqObj "list" its.toArray 0),toks:=tk }) hn ia (by omega) λout ns' ia' pm' pw=>hP _ ?_
 have I1:Inv X pins σ H { s with heap:=h',toks:=tk }:=I.kept (t':=tk) kp;have hf:H h'.objs.size=none:=I1.hok.fresh (Qj _);obtain⟨e,he⟩:∃e,(sortedHeap (h'.push (seqObj "list" its.toArray 0)) h'.objs.size its out).get? h'.objs.size=some (seqObj "list" out e):=sortedHeap_at hn
 have rv':=Qjm ia';have en:ns'=(Sm m).map λ(n:Nat)=>(n:Int):=by
  refine QeD (le:=(·<=·)) (λa b _ _ h1 h2=>Int.le_antisymm h1 h2) pw ?_ (pm'.trans pm)
  rw[JA];exact(Qtx ⟨m,hm⟩).imp λh=>by omega
 have rv2:Vals ((Sm m).map λ(n:Nat)=>V.int (n:Int)) out.toList:=by
  rw[en,QP] at rv';exact rv'
 have lp:=pm'.length_eq;have I2:Inv X pins σ (upd H h'.objs.size (.lst ((Sm m).map λ(n:Nat)=>V.int (n:Int)))) { s with heap:=sortedHeap (h'.push (seqObj "list" its.toArray 0)) h'.objs.size its out,toks:=tk }:=
  I1.laid (t':=tk) (λb x e'=>(sortedHeap_old (QV (Qw e')) (Q0 (Qw e') (by rw[size_push'];exact Nat.le_succ _))).trans (Qm _ e')) (Qj _) (show ObjOk X.prog X.w _ _ _ (.lst _) from⟨by
   have:=QjD ⟨m,hm⟩;simp only at this;rw[Qd];exact Ys (Rk.Qc2 (by omega)),out.toList,e,rv2,by rw[he]⟩)
 exact⟨.ref h'.objs.size,_,I2,rfl,q _ _ (JW hf) hf JB⟩
end
end L2
namespace Dl
open L2 _root_.Rd Rk Zt
section
variable{X:Cx}{E:XK}
@[irreducible] def Qk3:Qb->(Qb->Prop)->Prop
 |.list ds,Q=>∃ns:List Nat,ds=ns.map (λ(n:Nat)=>Qe n)/\(∀n∈ns,n<6)/\∀ms:List Nat,ms.Pairwise (· < ·)->(∀x,x∈ms↔x∈ns)->Q (.list (ms.map λ(n:Nat)=>Qe n))
 |_,_=>False
theorem QrA{Q:Qb->Prop}(ns:List Nat)(h6:∀n∈ns,n<6)(h:∀ms:List Nat,ms.Pairwise (· < ·)->(∀x,x∈ms↔x∈ns)->Q (.list (ms.map λ(n:Nat)=>Qe n))):Qk3 (.list (ns.map λ(n:Nat)=>Qe n)) Q:=by
 unfold Qk3;exact⟨ns,rfl,h6,h⟩
def Qjd(w:DE):DE:=λδ Q EX=>w δ (λd=>Qk3 d Q) EX
theorem Qja{A:Addr->Prop}{H:Hp}{xs:List V}{ns:List Nat}(q:DAs A H xs (ns.map λ(n:Nat)=>Qe n)):xs=ns.map λ(n:Nat)=>V.int (n:Int):=by
 have e:(ns.map λ(n:Nat)=>Qe n)=(ns.map λ(n:Nat)=>(n:Int)).map .int:=by rw[QP];rfl
 rw[e] at q;rw[Qbc q,QP];rfl
theorem QhQ{A:Addr->Prop}{H:Hp}(ns:List Nat):DAs A H (ns.map λ(n:Nat)=>V.int (n:Int)) (ns.map λ(n:Nat)=>Qe n):=by
 have:=QdN (A:=A) (H:=H) (ns.map λ(n:Nat)=>(n:Int));rw[QP,QP] at this;exact this
theorem QjO{e:Q5}{w:DE}{p p2 pos pos2:Pos}(hg:Gl X "sorted")(hm:X.mg "sorted" = none)(hg2:Gl X "set")(hm2:X.mg "set" = none)(h:PE X e (tX .P X.K E w))(hc:X.calm=true)(hs:notStar e=true):PE X (.Call (.Name "sorted" p) [.Call (.Name "set" p2) [e] [] pos2] [] pos) (tX .F X.K E (Qjd w)):=by
 refine PE.imp (Qa9 (L2.Qfa hc) hg hm Qg4 (Qd3 (Qcy (L2.call_setS hc) hg2 hm2 bt_set (Qd3 h Z5 hs) (he:=YB hs)) Z5)) λσ H Q ⟨F,δ,R,EX,rel,hw,k,o⟩=>?_
 refine⟨F,δ,_,EX,rel,hw,λd hd v H1 rel1 kp1 vk=>?_,o⟩;have hd:Qk3 d _:=hd;unfold Qk3 at hd;split at hd
 ·obtain⟨ns,rfl,h6,hR⟩:=hd;obtain⟨l,xs,rfl,e,q⟩:=DP.list vk;rw[Qja q] at e;refine⟨l,ns,rfl,SqL.of e,h6,λt H2 m hm64 hmem s2 n2 e2=>⟨t,m,rfl,hm64,e2,λt3 H3 s3 n3 e3=>?_⟩⟩;have s13:=s2.trans s3;have n13:H1 t3=none:=by
   cases z:H1 t3 with
   |none=>rfl
   |some o=>rw[s2 _ _ z] at n3;cases n3
  refine k _ (hR (Sm m) (Qtx ⟨m,hm64⟩) λx=>?_) _ H3 (rel1.same s13) (kp1.trans (Kp.same rel1 s13)) ?_
  ·by_cases z:x<6
   ·exact hmem x z
   ·exact⟨λy=>absurd (Qty y) z,λy=>absurd (h6 x y) z⟩
  ·exact⟨Qd7 (λa ha=>rel1.isl ha) s13 n13 e3 (QhQ (Sm m)),Qbb (Qc6 kp1 n13)⟩
 ·exact hd.elim
theorem Qli{e:Q5}{w:DE}{p p2 pos pos2:Pos}(hg:Gl X "sorted")(hm:X.mg "sorted" = none)(hg2:Gl X "set")(hm2:X.mg "set" = none)(h:QE .P X E e w)(hc:X.calm=true:=by rfl)(hs:notStar e=true:=by rfl):QE .F X E (.Call (.Name "sorted" p) [.Call (.Name "set" p2) [e] [] pos2] [] pos) (Qjd w):=⟨QjO hg hm hg2 hm2 h.h hc hs⟩
end
end Dl
namespace L2
open PySem.Calls _root_.Rd _root_.Rk _root_.Rs Rt Dl
section
variable{X:Cx}
end
end L2
namespace Zt
section
variable{prog:QB}{w:Ji}{A:Q3}{E:Value->Shared->Prop}{s:Shared}
end
end Zt
namespace Rk
open L2 _root_.Rd Dl
def inW(d:Qb)(a b:Int):Bool:=match d with
 |.int i=>decide (a<=i)&&decide (i<=b)
 |_=>false
theorem Ql7{i a b:Int}(h1:a<=i)(h2:i<=b):inW (.int i) a b=true:=by
 show(decide (a<=i)&&decide (i<=b))=true;rw[decide_eq_true h1,decide_eq_true h2];rfl
theorem Qs1{d:Qb}{a b:Int}(h:inW d a b=true):∃i,d=.int i/\a<=i/\i<=b:=by
 cases d<;>first | (cases h;done) | skip
 rename_i i
 have h:=QK.mp (show(decide (a<=i)&&decide (i<=b))=true from h);exact⟨i,rfl,of_decide_eq_true h.1,of_decide_eq_true h.2⟩
def Qfj:DF:=λargs R _=>∃d a b,args=[.v d,.v (.int a),.v (.int b)]/\R (.bool (inW d a b))
theorem QbK(ns:List Int):nds (ns.map Qe)=true:=QlS.mpr λd hd=>by
 obtain⟨i,_,rfl⟩:=Ql.mp hd;rfl
theorem QoK(xs:List Qb)(k:Int)(h:0<=k):Dl.cutD xs none (some k)=xs.take k.toNat:=by
 unfold Dl.cutD;obtain⟨j,rfl⟩:∃j:Nat,k=j:=⟨k.toNat,by omega⟩
 rw[HT.QiE,HT.QrB,Zj,Qku,QU];by_cases z:j<=xs.length
 ·rw[Y8 z]
 ·rw[Nat.min_eq_right (by omega),QaC,Yc (by omega)]
end Rk
namespace Rx
open PySem.Calls L2
section
variable{X:Cx}{e:Q5}{st:Yn}{rest:List Yn}{pos:Pos}{te:TX}{t u:TSX}
end
end Rx
namespace L2
open Dl
end L2
namespace Dl
open L2 _root_.Rd Rk
section
variable{X:Cx}
variable{k:Nat}{f:Addr}{fd:QR}{ps:List Str}{x:Str}{p pos:Pos}{e:Q5}{es:List Q5}{fD:DF}{wa:DSl}
end
end Dl
namespace Rk
open L2 _root_.Rd Dl Rt
def Qbw:List Qb->Bool
 |x::y::r=>ltD x y&&Qbw (y::r)
 |_=>true
def ltP2:Qb->Bool
 |.tuple [a,b]=>ltD a b
 |_=>false
theorem QiG:∀ds:List Qb,Qbw ds=(Je (ds.length - 1)).all λk=>ltD (ds.getD k .none) (ds.getD (k+1) .none)
 |[]=>rfl
 |[x]=>rfl
 |x::y::r=>by
  have ih:=QiG (y::r);show(ltD x y&&Qbw (y::r))=_;rw[ih,show(x::y::r).length - 1=(r.length+1 - 1)+1 by simp,List.range_succ_eq_map,QbG,Qkk];rfl
def QmW(ds:List Qb):Prop:=∀x∈ds,okK x=true/\x.depth<=20/\∀y∈ds,Qhn x y=true
def Ql5(h w:Int):Qb->Bool
 |.tuple [a,b]=>inW a 0 (h - 1)&&inW b 0 (w - 1)
 |_=>false
theorem QvF{h w:Int}{d:Qb}(q:Ql5 h w d=true):∃p:Int×Int,d=pairD p/\0<=p.1/\p.1<h/\0<=p.2/\p.2<w:=by
 cases d<;>first | (cases q;done) | skip
 rename_i ds
 match ds,q with
 |[a,b],q=>
  have q:=QK.mp (show(inW a 0 (h - 1)&&inW b 0 (w - 1))=true from q);obtain⟨i,rfl,i1,i2⟩:=Qs1 q.1;obtain⟨j,rfl,j1,j2⟩:=Qs1 q.2;exact⟨(i,j),rfl,i1,by show i<h;omega,j1,by show j<w;omega⟩
 |[],q=>cases q
 |[_],q=>cases q
 |_::_::_::_,q=>cases q
theorem QvE{h w:Int}{p:Int×Int}(h1:0<=p.1)(h2:p.1<h)(h3:0<=p.2)(h4:p.2<w):Ql5 h w (pairD p)=true:=by
 show(inW (.int p.1) 0 (h - 1)&&inW (.int p.2) 0 (w - 1))=true;rw[Ql7 h1 (by omega),Ql7 h3 (by omega)];rfl
def toP:Qb->Int×Int
 |.tuple [.int a,.int b]=>(a,b)
 |_=>(0,0)
theorem QnL{h w:Int}{ds:List Qb}(q:ds.all (Ql5 h w)=true):∃L:List (Int×Int),ds=L.map pairD/\∀p∈L,0<=p.1/\p.1<h/\0<=p.2/\p.2<w:=by
 induction ds with
 |nil=>exact⟨[],rfl,λ_ h=>nomatch h⟩
 |cons d ds ih=>
  rw[QbG,Jp] at q;obtain⟨p,rfl,hp⟩:=QvF q.1;obtain⟨L,rfl,hL⟩:=ih q.2;refine⟨p::L,rfl,λx hx=>?_⟩;rcases Qy.mp hx with z | z
  ·rw[z];exact hp
  ·exact hL x z
theorem Qgz(L:List (Int×Int)):(L.map pairD).map toP=L:=by
 rw[QP]
 conv=>rhs;rw[<- Qm4 L]
 rfl
theorem Qeh(p:Int×Int):(pairD p).depth<=1:=by
 show QN [.int p.1,.int p.2]+1<=1;simp[QN,Yk]
theorem YZ{n:Nat}:∀{ds:List Qb},(∀d∈ds,d.depth<=n)->QN ds<=n
 |[],_=>Qr _
 |d::ds,h=>by
  show max d.depth (QN ds)<=n;exact Nat.max_le.mpr ⟨h d (.head _),YZ λd hd=>h d (.tail _ hd)⟩
theorem QgV(L:List (Int×Int)):QmW (L.map pairD):=λx hx=>by
 obtain⟨p,_,rfl⟩:=Ql.mp hx;refine⟨rfl,Jd (Qeh p) (by decide),λy hy=>?_⟩;obtain⟨q,_,rfl⟩:=Ql.mp hy;rfl
theorem Qh5(L:List (Int×Int)):(Zh (L.map pairD)).depth<=2:=by
 show QN (L.map pairD)+1<=2;have:=YZ (n:=1) (ds:=L.map pairD) λd hd=>by obtain⟨p,_,rfl⟩:=Ql.mp hd;exact Qeh p
 omega
def stT(L:List (Int×Int)):Qb:=.tuple (L.map pairD)
def plt(p q:Int×Int):Prop:=p.1<q.1∨(p.1=q.1/\p.2<q.2)
instance plt_dec (p q:Int×Int):Decidable (plt p q):=by unfold plt;exact inferInstance
theorem Qor(p q:Int×Int):ltD (pairD p) (pairD q)=decide (plt p q):=by
 show isL (thn (Qeq p.1 q.1) (thn (Qeq p.2 q.2) .eq))=_;unfold Qeq plt;by_cases h1:p.1<q.1
 ·rw[if_pos h1];exact(decide_eq_true (.inl h1)).symm
 ·rw[if_neg h1];by_cases h2:p.1=q.1
  ·rw[if_pos h2];by_cases h3:p.2<q.2
   ·rw[if_pos h3];exact(decide_eq_true (.inr ⟨h2,h3⟩)).symm
   ·rw[if_neg h3];have:decide (p.1<q.1∨p.1=q.1/\p.2<q.2)=false:=decide_eq_false (by omega);rw[this];split<;>rfl
  ·rw[if_neg h2];exact(decide_eq_false (by omega)).symm
theorem QgQ(p q:Int×Int):Jj (pairD p) (pairD q)=decide (p=q):=by
 show((p.1 == q.1)&&((p.2 == q.2)&&true))=_;obtain⟨a,b⟩:=p;obtain⟨c,d⟩:=q;by_cases h1:a=c
 ·by_cases h2:b=d
  ·subst h1 h2;simp
  ·simp[h1,h2]
 ·simp[h1]
theorem QmT(cs:List (Int×Int))(p:Int×Int):((cs.map pairD).any λc=>Jj c (pairD p))=decide (p∈cs):=by
 rw[QwY,ZE,YN,decide_eq_true_iff];constructor
 ·rintro⟨c,hc,h⟩;have:c=p:=of_decide_eq_true (by rw[<- QgQ];exact h);rw[<- this];exact hc
 ·intro h;refine⟨p,h,?_⟩;show Jj (pairD p) (pairD p)=true;rw[QgQ];simp
def apB(L:List (Int×Int)):Bool:=decide (L.map (·.1)).Nodup&&decide (L.map (·.2)).Nodup
def bdD(h w:Int)(cs:List (Int×Int)):Qb:=.tuple [.int h,.int w,.tuple (cs.map pairD)]
def inC(cs:List (Int×Int))(e:Qb):Bool:=(cs.map pairD).any λc=>Jj c e
def QvD(h w:Int)(cs:List (Int×Int)):Qb->Bool
 |.tuple ds=>(ds.all (Ql5 h w)&&Qbw ds)&&(ds.all (inC cs)&&apB (ds.map toP))
 |_=>false
def shortT(d:Qb):Prop:=∀ds,d=.tuple ds->ds.length<=1000
theorem QhY{L:List (Int×Int)}(h:∀p∈L,0<=p.1/\p.1<6/\0<=p.2):(L.map (λp:Int×Int=>p.1)++L.map (λp:Int×Int=>6+p.2)).Nodup↔(L.map (·.1)).Nodup/\(L.map (·.2)).Nodup:=by
 rw[JX];have e:(L.map (λp:Int×Int=>6+p.2)).Nodup↔(L.map (·.2)).Nodup:=by
  rw[show(L.map (λp=>6+p.2))=(L.map (λp=>p.2)).map (6+·) by rw[QP];rfl];constructor
  ·intro q;exact Qw0 (S:=λa b=>a≠b) (6+·) (λa b hab e=>hab (by rw[e])) q
  ·intro q;exact Qge (6+·) (λa b hab e=>hab (by omega)) q
 rw[e];constructor
 ·rintro⟨a,b,_⟩;exact⟨a,b⟩
 ·rintro⟨a,b⟩;refine⟨a,b,λx hx y hy e=>?_⟩;obtain⟨p,hp,rfl⟩:=Ql.mp hx;obtain⟨q,hq,rfl⟩:=Ql.mp hy;have:=h p hp;have:=h q hq;omega
theorem Qkc(ns:List Int):QbY (ns.map Qe)=some ns:=Dl.ints_map ns
def inL(n:Int):Qb->Bool
 |.int i=>decide (0<=i)&&decide (i<n)
 |_=>false
theorem Qh2(n:Int)(d:Qb):inL n d=inW d 0 (n - 1):=by
 cases d<;>first | rfl | skip
 rename_i i
 show(decide (0<=i)&&decide (i<n))=(decide (0<=i)&&decide (i<=n - 1));rw[show decide (i<n)=decide (i<=n - 1) from decide_eq_decide.mpr (by omega)]
def QrD(ds:List Qb):Qb->Bool
 |.int k=>ltD (ds.getD k.toNat .none) (ds.getD (k.toNat+1) .none)
 |_=>false
theorem Qgr(ds:List Qb):(Qhl 0 ((ds.length:Int) - 1).toNat).all (QrD ds)=Qbw ds:=by
 rw[QiG];unfold Qhl;rw[Qkk,show(((ds.length:Nat):Int) - 1).toNat=ds.length - 1 by omega];refine congrArg (List.all _) (funext λk=>?_);show ltD (ds.getD (0+(k:Int)).toNat .none) (ds.getD ((0+(k:Int)).toNat+1) .none)=_;rw[show(0+(k:Int)).toNat=k by omega]
def Qdt(r n:Nat)(f:Nat->Nat->Bool):List (Int×Int):=((Je n).filter (f r)).map λ(c:Nat)=>((r:Int),(c:Int))
def cellsF(h w:Nat)(f:Nat->Nat->Bool):List (Int×Int):=(Je h).flatMap λr=>Qdt r w f
def Qrh(f:Nat->Nat->Bool)(i j:Nat)(b:Bool):Nat->Nat->Bool:=λr c=>if r=i/\c=j then b else f r c
theorem Y0(h w:Nat)(f:Nat->Nat->Bool):cellsF (h+1) w f=cellsF h w f++Qdt h w f:=by
 unfold cellsF;rw[Qcb,List.flatMap_append];simp
theorem Qk4(r n:Nat)(f:Nat->Nat->Bool):Qdt r (n+1) f=Qdt r n f++(if f r n=true then[((r:Int),(n:Int))] else[]):=by
 unfold Qdt;rw[Qcb,QdA,Jm]
 congr 1
 by_cases z:f r n=true
 ·rw[if_pos z];simp[z]
 ·rw[if_neg z];simp[z]
theorem QeM{r n:Nat}{f g:Nat->Nat->Bool}(h:∀c,c<n->f r c=g r c):Qdt r n f=Qdt r n g:=by
 unfold Qdt
 congr 1
 exact List.filter_congr λc hc=>h c (Js.mp hc)
theorem QgW{h w:Nat}{f g:Nat->Nat->Bool}(q:∀r c,r<h->c<w->f r c=g r c):cellsF h w f=cellsF h w g:=by
 induction h with
 |zero=>rfl
 |succ h ih=>rw[Y0,Y0,ih λr c hr=>q r c (by omega),QeM λc hc=>q h c (by omega) hc]
theorem Qj8{h w i j:Nat}{f:Nat->Nat->Bool}{b:Bool}(hi:h<=i):cellsF h w (Qrh f i j b)=cellsF h w f:=QgW λr c hr _=>if_neg λz=>by omega
theorem QnC{i n j:Nat}{f:Nat->Nat->Bool}{b:Bool}(hj:n<=j):Qdt i n (Qrh f i j b)=Qdt i n f:=QeM λc hc=>if_neg λz=>by omega
theorem Qcz{r n:Nat}{f:Nat->Nat->Bool}{p:Int×Int}:p∈Qdt r n f↔∃c:Nat,c<n/\f r c=true/\p=((r:Int),(c:Int)):=by
 unfold Qdt;rw[Ql];constructor
 ·rintro⟨c,hc,rfl⟩;have hc:=Qu.mp hc;exact⟨c,Js.mp hc.1,hc.2,rfl⟩
 ·rintro⟨c,hc,hf,rfl⟩;exact⟨c,Qu.mpr ⟨Js.mpr hc,hf⟩,rfl⟩
theorem QeV{h w:Nat}{f:Nat->Nat->Bool}{p:Int×Int}:p∈cellsF h w f↔∃r c:Nat,r<h/\c<w/\f r c=true/\p=((r:Int),(c:Int)):=by
 unfold cellsF;rw[Z8];constructor
 ·rintro⟨r,hr,hp⟩;obtain⟨c,hc,hf,rfl⟩:=Qcz.mp hp;exact⟨r,c,Js.mp hr,hc,hf,rfl⟩
 ·rintro⟨r,c,hr,hc,hf,rfl⟩;exact⟨r,Js.mpr hr,Qcz.mpr ⟨c,hc,hf,rfl⟩⟩
theorem QgX{h w:Nat}{f:Nat->Nat->Bool}{p:Int×Int}(q:p∈cellsF h w f):0<=p.1/\p.1<h/\0<=p.2/\p.2<w:=by
 obtain⟨r,c,hr,hc,_,rfl⟩:=QeV.mp q;exact⟨Qbf _,by show(r:Int)<h;omega,Qbf _,by show(c:Int)<w;omega⟩
theorem Qft(r n:Nat)(f:Nat->Nat->Bool):(Qdt r n f).length<=n:=by
 unfold Qdt;rw[Qd];exact Jd (Qaq _ _) (by rw[Jf];exact Qj _)
theorem Qe9(w:Nat)(f:Nat->Nat->Bool):∀h,(cellsF h w f).length<=h*w
 |0=>Qr _
 |h+1=>by
  have:=Qe9 w f h;have:=Qft h w f;rw[Y0,Qo,Qkt];omega
theorem Qef(r n:Nat)(f:Nat->Nat->Bool):(Qdt r n f).filter (λp=>decide (p.1=(r:Int)))=Qdt r n f:=List.filter_eq_self.mpr λp hp=>by
 obtain⟨c,_,_,rfl⟩:=Qcz.mp hp;exact decide_eq_true rfl
theorem Qeg{r k n:Nat}(h:r≠k)(f:Nat->Nat->Bool):(Qdt r n f).filter (λp=>decide (p.1=(k:Int)))=[]:=QbV.mpr λp hp=>by
 obtain⟨c,_,_,rfl⟩:=Qcz.mp hp;show ¬decide ((r:Int)=(k:Int))=true;rw[decide_eq_false (by omega)];exact Qp
theorem Qe8(w k:Nat)(f:Nat->Nat->Bool):∀h,(cellsF h w f).filter (λp=>decide (p.1=(k:Int)))=if k<h then Qdt k w f else[]
 |0=>rfl
 |h+1=>by
  rw[Y0,QdA,Qe8 w k f h];by_cases z:k=h
  ·subst z;rw[if_neg (by omega),Qef,if_pos (by omega)];rfl
  ·rw[Qeg (λe=>z e.symm),Jr];by_cases z2:k<h
   ·rw[if_pos z2,if_pos (by omega)]
   ·rw[if_neg z2,if_neg (by omega)]
theorem QrN(r n:Nat)(f:Nat->Nat->Bool):(Qdt r n f).Pairwise plt:=by
 unfold Qdt;refine Qge (R:=λa b=>a<b) _ (λa b hab=>.inr ⟨rfl,by show(a:Int)<b;omega⟩) ?_
 exact JE _ Qjv
theorem Qgv(w:Nat)(f:Nat->Nat->Bool):∀h,(cellsF h w f).Pairwise plt
 |0=>.nil
 |h+1=>by
  rw[Y0];refine Q9.mpr ⟨Qgv w f h,QrN h w f,λp hp q hq=>?_⟩;obtain⟨r,c,hr,_,_,rfl⟩:=QeV.mp hp;obtain⟨c',_,_,rfl⟩:=Qcz.mp hq;exact .inl (by show(r:Int)<h;omega)
theorem Qpn{p q:Int×Int}(h:plt p q):p≠q:=λe=>by subst e;rcases h with z | z<;>omega
def Qh0:DF:=λargs R _=>∃m:Int,args=[.pot,.v (.int m)]/\1<=m/\m<=6/\∀(h w:Nat)(f:Nat->Nat->Bool),1<=h->(h:Int)<=m->1<=w->(w:Int)<=m->R (bdD h w (cellsF h w f))
def QhW:DF:=λargs R _=>∃(d:Qb)(h w:Int),args=[.v d,.v (.int h),.v (.int w)]/\R (.bool (Ql5 h w d))
def QfH:DF:=λargs R _=>∃ds:List Qb,(args=[.v (.tuple ds)]∨args=[.v (.list ds)])/\QmW ds/\ds.length<=1000/\R (.bool (Qbw ds))
def QhV:DF:=λargs R _=>∃(h w:Int)(cs:List (Int×Int))(d:Qb),args=[.v (bdD h w cs),.v d]/\h<=6/\shortT d/\R (.bool (QvD h w cs d))
def Qf6(cs:List (Int×Int))(r:Int):List (Int×Int):=cs.filter λp=>decide (p.1=r)
def Qh4(cells L:List (Int×Int)):List (List (Int×Int)):=(cells.filter λc => !decide (c.2∈L.map (·.2))).map λc=>L++[c]
def Qci(cs:List (Int×Int)):Nat->List (List (Int×Int))
 |0=>[[]]
 |i+1=>Qci cs i++(Qci cs i).flatMap (Qh4 (Qf6 cs i))
theorem QoG(cells L:List (Int×Int)):(Qh4 cells L).length<=cells.length:=by
 unfold Qh4;rw[Qd];exact Qaq _ _
theorem Qi5{α β:Type}{f:α->List β}{k:Nat}:∀{xs:List α},(∀x∈xs,(f x).length<=k)->(xs.flatMap f).length<=xs.length*k
 |[],_=>Qr _
 |x::xs,h=>by
  have h1:=h x (.head _);have h2:=Qi5 (xs:=xs) λy hy=>h y (.tail _ hy)
  rw[ZY,Qo,QL,Qkt];omega
theorem QiA{cs:List (Int×Int)}{k:Nat}(h:∀r,(Qf6 cs r).length<=k):∀i,(Qci cs i).length<=(k+1)^i
 |0=>Qj _
 |i+1=>by
  have h1:=QiA h i;have h2:=Qi5 (xs:=Qci cs i) (k:=k) λL _=>Jd (QoG (Qf6 cs i) L) (h i)
  show(Qci cs i++(Qci cs i).flatMap (Qh4 (Qf6 cs i))).length<=_;rw[Qo,Nat.pow_succ,Nat.mul_add,Nat.mul_one];have h3:(Qci cs i).length*k<=(k+1)^i*k:=Nat.mul_le_mul_right k h1;omega
theorem QaK{cells L M:List (Int×Int)}:M∈Qh4 cells L↔∃c∈cells,c.2∉L.map (·.2)/\M=L++[c]:=by
 unfold Qh4;rw[Ql];constructor
 ·rintro⟨c,hc,rfl⟩;have hc:=Qu.mp hc;exact⟨c,hc.1,by simpa using hc.2,rfl⟩
 ·rintro⟨c,hc,hn,rfl⟩;exact⟨c,Qu.mpr ⟨hc,by simpa using hn⟩,rfl⟩
theorem QdZ{cs:List (Int×Int)}:∀i,∀L∈Qci cs i,L.length<=i
 |0,L,h=>by rw[QC.mp h];exact Qj _
 |i+1,L,h=>by
  rcases QX.mp (show L∈Qci cs i++(Qci cs i).flatMap (Qh4 (Qf6 cs i)) from h) with z | z
  ·exact Nat.le_succ_of_le (QdZ i L z)
  ·obtain⟨M,hM,hL⟩:=Z8.mp z;obtain⟨c,_,_,rfl⟩:=QaK.mp hL;have:=QdZ i M hM;rw[Qo];exact Nat.succ_le_succ this
theorem QkK(cs:List (Int×Int)):∀i,[]∈Qci cs i
 |0=>.head _
 |i+1=>QX.mpr (.inl (QkK cs i))
theorem Qil(ns:List Int)(i:Int):((ns.map Qe).any λe=>Jj e (.int i))=decide (i∈ns):=by
 rw[QwY,ZE,YN,decide_eq_true_iff];constructor
 ·rintro⟨c,hc,h⟩;have:c=i:=by simpa [Jj] using h
  rw[<- this];exact hc
 ·intro h;refine⟨i,h,?_⟩;show(i == i)=true;simp
theorem QhE(w h:Nat)(f:Nat->Nat->Bool)(r:Int):(Qf6 (cellsF h w f) r).length<=w:=by
 by_cases z:0<=r
 ·obtain⟨k,rfl⟩:∃k:Nat,r=k:=⟨r.toNat,by omega⟩
  unfold Qf6;rw[Qe8];split
  ·exact Qft _ _ _
  ·exact Qr _
 ·have:Qf6 (cellsF h w f) r=[]:=QbV.mpr λp hp e=>by
   have:=QgX hp;have:=of_decide_eq_true e;omega
  rw[this];exact Qr _
def tN(ns:List Int):Qb:=.tuple (ns.map Qe)
def Qj3(n:Int):Qb->Bool
 |.tuple ds=>ds.all (λd=>inW d 0 (n - 1))&&Qbw ds
 |_=>false
theorem QhP{n:Int}:∀{ds:List Qb},ds.all (λd=>inW d 0 (n - 1))=true->∃ns:List Int,ds=ns.map Qe/\∀i∈ns,0<=i/\i<n
 |[],_=>⟨[],rfl,λ_ h=>nomatch h⟩
 |d::ds,h=>by
  rw[QbG,Jp] at h;obtain⟨i,rfl,h1,h2⟩:=Qs1 h.1;obtain⟨ns,rfl,hn⟩:=QhP h.2;refine⟨i::ns,rfl,λx hx=>?_⟩;rcases Qy.mp hx with z | z
  ·subst z;omega
  ·exact hn x z
theorem QpD{n:Int}{d:Qb}(h:Qj3 n d=true):∃ns:List Int,d=tN ns/\∀i∈ns,0<=i/\i<n:=by
 cases d<;>first | (cases h;done) | skip
 rename_i ds
 obtain⟨ns,rfl,hn⟩:=QhP (QK.mp (show(ds.all (λd=>inW d 0 (n - 1))&&Qbw ds)=true from h)).1;exact⟨ns,rfl,hn⟩
theorem Qia(ns:List Int):QmW (ns.map Qe):=λx hx=>by
 obtain⟨p,_,rfl⟩:=Ql.mp hx;refine⟨rfl,Qr _,λy hy=>?_⟩;obtain⟨q,_,rfl⟩:=Ql.mp hy;rfl
def isLn(h w:Int):Qb->Bool
 |.tuple [a,b]=>Qj3 h a&&Qj3 w b
 |_=>false
def inT(x:Int):Qb->Bool
 |.tuple ds=>ds.any λc=>Jj c (.int x)
 |_=>false
def QyO(h w:Int)(cs:List (Int×Int)):Qb->Bool
 |.tuple [a,b]=>(Qj3 h a&&Qj3 w b)&&(cs.map pairD).all λd=>inT (toP d).1 a||inT (toP d).2 b
 |_=>false
def Qpg(d:Qb):Prop:=∀ds,d=.tuple ds->∀e∈ds,shortT e
def lsomeD:DF:=λargs R _=>∃(n:Int)(d:Qb),args=[.v d,.v (.int n)]/\shortT d/\R (.bool (Qj3 n d))
def QhZ:DF:=λargs R _=>∃(h w:Int)(cs:List (Int×Int))(d:Qb),args=[.v (bdD h w cs),.v d]/\Qpg d/\R (.bool (QyO h w cs d))
theorem QcE(ns:List Int):(tN ns).depth<=1:=by
 show QN (ns.map Qe)+1<=1;have:=YZ (n:=0) (ds:=ns.map Qe) λd hd=>by obtain⟨p,_,rfl⟩:=Ql.mp hd;exact Qj _
 omega
def trD(t:Int×List Int×List Int):Qb:=.tuple [.int t.1,tN t.2.1,tN t.2.2]
theorem Qc9:∀(L M:List Int),QbT (L.map Qe) (M.map Qe)=true
 |[],[]=>rfl
 |[],_::_=>rfl
 |_::_,[]=>rfl
 |_::L,_::M=>by show(true&&QbT (L.map Qe) (M.map Qe))=true;rw[Qc9 L M];rfl
theorem Qv7(s t:Int×List Int×List Int):Qhn (trD s) (trD t)=true:=by
 show(true&&(QbT (s.2.1.map Qe) (t.2.1.map Qe)&&(QbT (s.2.2.map Qe) (t.2.2.map Qe)&&true)))=true;rw[Qc9,Qc9];rfl
theorem QoH(t:Int×List Int×List Int):(trD t).depth<=2:=by
 show QN [.int t.1,tN t.2.1,tN t.2.2]+1<=2;have:=YZ (n:=1) (ds:=[.int t.1,tN t.2.1,tN t.2.2]) λd hd=>by
  rcases Qy.mp hd with z | z
  ·subst z;exact Qr _
  ·rcases Qy.mp z with z | z
   ·subst z;exact QcE _
   ·rcases Qy.mp z with z | z
    ·subst z;exact QcE _
    ·cases z
 omega
theorem QhC(Ts:List (Int×List Int×List Int)):QbM (Ts.map trD):=⟨λx hx y hy=>by
 obtain⟨s,_,rfl⟩:=Ql.mp hx;obtain⟨t,_,rfl⟩:=Ql.mp hy;exact Qv7 s t,λx hx=>by
 obtain⟨s,_,rfl⟩:=Ql.mp hx;exact Jd (QoH s) (by decide)⟩
def Qvt:Qb->Qb
 |.tuple [_,a,b]=>.tuple [a,b]
 |_=>.none
end Rk
namespace L2
open Zt _root_.Rd _root_.Rk Dl Rt
section
variable{X:Cx}
end
end L2
namespace Dl
open L2 _root_.Rd Rk Zt Rt
section
variable{X:Cx}{E:XK}
end
end Dl
namespace Zt
section
variable{prog:QB}{w:Ji}{A:Q3}{E:Value->Shared->Prop}{s:Shared}
theorem QsI{Q:Value->Shared->Prop}(h:Q (.ref s.heap.objs.size) { s with heap:=s.heap.push { cls:=.type "set",dict:=none,data:=.set #[] 0 (.fresh 0 0 (ledOf w)) } }):wpAny (model prog w) A (newSet (.type "set")) Q E s:=by
 unfold newSet
 wp_walk
 refine ZQ (wpAny_pure ?_);dsimp only;simp only[newObj];refine Qa (wpAny_alloc (wpAny_pure ?_));exact h
end
end Zt
namespace L2
open Zt
theorem QgU(elt target iter:Q5)(ifs:List Q5)(scope:QaM)(pos:Pos)(it acc:Value)(env:Env) :
  compTurn (.SetComp elt [⟨target,iter,ifs,0⟩] scope pos) 0 it acc env=(do
   standAt iter.pos
   let r <- pyNext it
   match r with
   |none=>pure (.done .next)
   |some v=>
    letOwnedTupleGo target it v
    assign target env v
    let ok <- Qhy ifs env
    if ok then
     (do let x <- eval elt env;standAt elt.pos;let _ <- call (.builtin "set.add") [acc,x])
    again (.compLoop (.SetComp elt [⟨target,iter,ifs,0⟩] scope pos) 0 it acc env)):=by rfl
section
variable{prog:QB}{w:Ji}{A:Q3}{R:Qjt->Shared->Prop}{s:Shared}
theorem QbB{elt target iter ifs rest scope pos it acc env}
  (h0:codeAny (model prog w) A (.compLoop (.SetComp elt (⟨target,iter,ifs,0⟩::rest) scope pos) 0 it acc env) R s)
  (h:wpAny (model prog w) A (pyIter it) (λit' s'=>codeAny (model prog w) A (.compLoop (.SetComp elt (⟨target,iter,ifs,0⟩::rest) scope pos) 0 it' acc env) R s') (notedBy (model prog w) A env λx s'=>R (.error x) s') s) :
  codeAny (model prog w) A (.compStart (.SetComp elt (⟨target,iter,ifs,0⟩::rest) scope pos) 0 it acc env) R s:=by
 refine Qdo ?_
 show wpAny _ _ ((compStart (.SetComp elt (⟨target,iter,ifs,0⟩::rest) scope pos) 0 it acc env).onRaise (λx=>do noteFrame x env;standAt theWindowsPlace)) _ _ s;refine wpAny_notedAt ?_
 unfold compStart;show wpAny _ _ (ask >>= _) _ _ s;refine Qa (ZQ (wpAny_ite ?_));split
 ·first | exact Qa (wpAny_pure (wpAny_pure (QtU rfl h0))) | exact wpAny_pure (QtU rfl h0)
 ·refine Qa (ZP ?_);show wpAny _ _ (standAt iter.pos >>= _) _ _ s;refine Qa (Qa2 (Qa (JI h (λit2 s2 q=>wpAny_pure (QtU rfl q)) λ_ _ e=>e)))
end
def QmU(Y:Cx)(elt:Q5)(D:Addr):Act:=λQ s=>wpAny (model Y.prog Y.w) Y.A (eval elt Y.env) (λv s6=>wpAny (model Y.prog Y.w) Y.A (call (.builtin "set.add") [.ref D,v]) (λ_ s7=>Q s7) (λ_ _=>False) s6) (λ_ _=>False) s
theorem QjE{Y:Cx}{σ:St}{tg:Q5}{elt:Q5}{gens:List Comprehension}{scope:QaM}{cpos:Pos}{d:Nat}{it D:Addr}{fp:List Addr}{tn:Nat->Heap->Prop}{J:It}{pins:List (Addr×Obj)}{s:Shared}{H:Hp}{body:V->Hp->(Hp->Prop)->Prop}{Qn:Hp->Prop}{R:Qjt->Shared->Prop}{act:Value->Act}
  (hc:Y.calm=true)(T:Turn Y.prog Y.w Y.K tg J fp it tn)(st:tn 0 s.heap)(hf:∀b∈fp,FpOk Y pins H b)
  (hturn:∀(Q:PySem.Fin->Shared->Prop)(E:Value->Shared->Prop)(s:Shared),wpAny (model Y.prog Y.w) Y.A (pyNext (.ref it)) (λr s1=>match r with
   |none=>Q (.done .next) s1
   |some v=>wpAny (model Y.prog Y.w) Y.A (letOwnedTupleGo tg (.ref it) v) (λ_ s2=>act v (λs3=>Q (.again (.compLoop (.SetComp elt gens scope cpos) d (.ref it) (.ref D) Y.env)) s3) s2) E s1) E s ->
   wpAny (model Y.prog Y.w) Y.A (compTurn (.SetComp elt gens scope cpos) d (.ref it) (.ref D) Y.env) Q E s)
  (hact:∀(x:V)(u:Value),RelV x u->BodyOk Y σ (act u) (body x))
  (I:Inv Y pins σ H s)(h:QkG J body Qn H)(hR:∀s' H',Inv Y pins σ H' s'->Qn H'->R (.ok .next) s') :
  codeAny (model Y.prog Y.w) Y.A (.compLoop (.SetComp elt gens scope cpos) d (.ref it) (.ref D) Y.env) R s:=by
 obtain⟨W,⟨m0,w0⟩,turn⟩:=h;have stat:∀{H':Hp},(∀b∈fp,H' b=none)->∀b∈fp,FpOk Y pins H' b:=λhn b hb=>⟨hn b hb,(hf b hb).2⟩
 refine codeAny_loop rfl (λn s'=>∃i H',Inv Y pins σ H' s'/\tn i s'.heap/\(∀b∈fp,H' b=none)/\W i n H') (λn s3 hI=>?_) m0 ⟨0,H,I,st,λb hb=>(hf b hb).1,w0⟩;show wpAny _ Y.A ((compTurn (.SetComp elt gens scope cpos) d (.ref it) (.ref D) Y.env).onRaise (λx=>do noteFrame x Y.env;theTreesLotGoes x)) _ _ s3;refine wpAny_noted (hturn _ _ _ ?_);obtain⟨i,H3,I3,st3,fr3,w3⟩:=hI;rcases turn i n H3 w3 with⟨stop,qn⟩ | ⟨go,step⟩
 ·refine thn (T.done Y rfl rfl rfl hc i pins s3 σ H3 _ I3 (stat fr3) st3 stop) λr s4 ⟨hr,I4⟩=>?_
  subst hr;exact hR s4 H3 I4 qn
 ·refine thn (T.item Y rfl rfl rfl hc i pins s3 σ H3 _ I3 (stat fr3) st3 go) λr s4 ⟨u,hr,h4⟩=>?_
  subst hr;refine thn h4 λ_ s5 ⟨x,H5,I5,r5,y5,st5,fr5⟩=>?_
  have I5':=I5.pinned (stat fr5) (T.obj _ _ st5);refine hact x u r5 _ s5 H5 _ _ I5' (step x H5 y5) λs7 H7 I7 ⟨m',hm,w7⟩=>?_
  refine⟨rfl,m',hm,i+1,H7,I7.unpinned,T.keep _ _ _ st5 λb hb o e=>(I7.pin (b,o) (Qv _ (Qv _ (Z0 hb e)))).1,λb hb=>?_,w7⟩;obtain⟨o,e,dd⟩:=T.obj _ _ st5 b hb;exact(I7.pin (b,o) (Qv _ (Qv _ (Z0 hb e)))).2.1
theorem QkI{Y:Cx}{elt tg iter:Q5}{ifs:List Q5}{scope:QaM}{cpos:Pos}{it D:Addr}(Q:PySem.Fin->Shared->Prop)(E:Value->Shared->Prop)(s:Shared)
  (h:wpAny (model Y.prog Y.w) Y.A (pyNext (.ref it)) (λr s1=>match r with
   |none=>Q (.done .next) s1
   |some v=>wpAny (model Y.prog Y.w) Y.A (letOwnedTupleGo tg (.ref it) v) (λ_ s2=>Qtw Y tg ifs (QmU Y elt D) v (λs3=>Q (.again (.compLoop (.SetComp elt [⟨tg,iter,ifs,0⟩] scope cpos) 0 (.ref it) (.ref D) Y.env)) s3) s2) E s1) E s) :
  wpAny (model Y.prog Y.w) Y.A (compTurn (.SetComp elt [⟨tg,iter,ifs,0⟩] scope cpos) 0 (.ref it) (.ref D) Y.env) Q E s:=by
 rw[QgU];refine Qa (Qa2 (Qa (thn h λr s1 h1=>?_)));cases r with
 |none=>exact wpAny_pure h1
 |some v=>
  refine Qa (thn h1 λ_ s2 h2=>?_);refine Qa (JI h2 (λ_ s4 h4=>Qa (JI h4 (λok s5 h5=>?_) λ_ _ f=>f.elim)) λ_ _ f=>f.elim);cases ok with
  |false=>exact wpAny_pure h5
  |true=>exact Qa (Qa (JI h5 (λx s6 h6=>Qa (Qa2 (Qa (JI h6 (λ_ s7 h7=>wpAny_pure (wpAny_pure h7)) λ_ _ f=>f.elim)))) λ_ _ f=>f.elim))
theorem call_addI{prog:QB}{w:Ji}{A:Q3}{E:Value->Shared->Prop}{s:Shared}{a:Addr}{u:Value}{Q:Value->Shared->Prop}(ty:s.TypeIs (.ref a) "set")(h:wpAny (model prog w) A.in1 (setAdd a u) (λ_ s'=>Q .none s') E s):wpAny (model prog w) A (call (.builtin "set.add") [.ref a,u]) Q E s:=by
 refine Zd F.slot_set_add ty F.entry_set_add ?_ (F.args_set_add_2 _ _)
 unfold YS.«set.add»;refine Qa ?_
 obtain⟨hp,g,d,tk,os⟩:=s;unfold Qp7;generalize setAdd=SA at h ⊢
 wp_walk
 refine JI h (λ_ s' q=>?_) λ_ _ e=>e
 exact wpAny_pure ⟨_,rfl,q⟩
def smX(p:Addr)(m:Nat)(led:Bool):Heap->Prop:=λh=>Sml h p m led
def Qwc(W:Ji)(p:Addr)(te:TE):St->Hp->(Hp->Prop)->Prop:=λσ H k=>te σ H λv H6=>∃(c m:Nat),v=.int (c:Int)/\c<6/\m<64/\H6 p=some (.ext (smX p m (ledOf W)))/\k (upd H6 p (.ext (smX p (m ||| 2^c) (ledOf W))))
theorem Qpf{P:QB}{W:Ji}{H:Hp}{h:Heap}{a:Addr}{m:Nat}{led:Bool}(x:Sml h a m led):ObjOk P W H h a (.ext (smX a m led)):=by
 refine⟨x,?_,λh1 h2 x k=>?_⟩
 ·obtain⟨es,ep,sa,_⟩:=x.ex;obtain⟨o,ho,_⟩:=sa.at_;exact⟨o,ho⟩
 ·exact Sml.at' (show Sml h1 a m led from x) k
theorem Qrr{X:Cx}{pins:List (Addr×Obj)}{σ:St}{H:Hp}{s:Shared}(I:Inv X pins σ H s):Inv X pins σ (upd H s.heap.objs.size (.ext (smX s.heap.objs.size 0 (ledOf X.w)))) { s with heap:=s.heap.push { cls:=.type "set",dict:=none,data:=.set #[] 0 (.fresh 0 0 (ledOf X.w)) } }:=by
 refine I.laid (t':=s.toks) (λb x e=>Qm _ e) (Qj _) (Qpf ⟨#[],0,⟨⟨_,Qz _ rfl,⟨rfl,rfl,rfl⟩,?_⟩,Qiw ⟨0,by decide⟩ _⟩,⟨[],by decide,by decide⟩⟩);rw[QkF]
theorem QmN{Y:Cx}{σ:St}{elt:Q5}{te:TE}{D:Addr}(hx:Y.xe=λ_ _=>False)(he:PE Y elt te):BodyOk Y σ (QmU Y elt D) (Qwc Y.w D te σ):=by
 intro pins s H k Q I h hQ;have hx':∀(v:Value)(s':Shared),Y.xe v s'->False:=λv s' z=>by rw[hx] at z;exact z
 refine JI (he pins s σ H _ I h) (λv s6 ⟨y,H6,I6,r6,c,m,ey,hc,hm,eD,k1⟩=>?_) hx';subst ey;obtain⟨tk,rfl⟩:∃tk,v=.int (c:Int) tk:=by
  first
  |exact r6
  |(cases r6;exact⟨_,rfl⟩)
 obtain⟨sq,_,_⟩:=(show ObjOk Y.prog Y.w H6 s6.heap D (.ext _) from I6.hok D _ eD);have x:Sml s6.heap D m (ledOf Y.w):=sq;obtain⟨es,ep,sa,eo⟩:=x.ex;obtain⟨o,ho,hex,hd⟩:=sa.at_;have mu:Mut (H6 D):=by rw[eD];exact Qbo
 refine call_addI ⟨o,ho,hex.1⟩ ?_
 unfold setAdd;refine JJ (Qa (wpAny_pyHash_int ?_));refine Qhb hm hc x λh' b sb x'=>?_
 refine hQ _ _ ?_ k1
 obtain⟨es',ep',sa',_⟩:=x'.ex;obtain⟨o',ho',_⟩:=sa'.at_;exact I6.write (t':=s6.toks+1) (x:=D) (e:=D) mu (.inl rfl) (λb u hb z=>(sb.2 b hb).trans z) ⟨o',ho'⟩ (Qpf x')
def Quc(W:Ji)(cap:List (Option Nat))(wi:TI)(g:TG)(tc:TT)(te:TE):TE:=λσ H Q=>wi σ H λJ H1=>∀p,H1 p=none->QkG J (bOf (QfX cap σ) g tc (Qwc W p te)) (Q (.ref p)) (upd H1 p (.ext (smX p 0 (ledOf W))))
theorem Qlm{X:Cx}{M:List Str}{cap:List (Option Nat)}{elt tg iter:Q5}{ifs:List Q5}{scope:QaM}{pos:Pos}{wi:TI}{g:TG}{tc:TT}{te:TE}{i:Nat}{y:Str}{py spos:Pos}(hN:X.N.Nodup)(hiy:X.N[i]? = some y)(hly:X.env.scope.names.lookup y=some .local)(hc:X.calm=true)(ok:Qj9 X.N X.env.scope M scope cap=true)
  (hi:PI X tg iter wi)(hb:∀cl ex s3 H3 C,PG (blk X M scope cl ex s3 H3 C) tg g/\PTs (blk X M scope cl ex s3 H3 C) ifs tc/\PE (blk X M scope cl ex s3 H3 C) elt te)
  (hs:∀x,foldedSetIterable iter X.env x=pure x:=by intro _;rfl)(hsw:swapsWith (.SetComp elt [⟨tg,iter,ifs,0⟩] scope pos) (some (.Name y py)) spos.line X.env=pure true:=by rfl):PS X (.Assign [.Name y py] (.SetComp elt [⟨tg,iter,ifs,0⟩] scope pos) spos) (Qro (Quc X.w cap wi g tc te) (Qey i)):=by
 intro pins s σ H D I h;have c:=CapOk.of ok;rw[exec_Assign_Name_used _ _ _ _ hsw];refine Qa (Qa2 (Qa ?_));show wpAny _ X.A (do let _ <- comprehension (.SetComp elt [⟨tg,iter,ifs,0⟩] scope pos) scope X.env _ (newSet (.type "set")) false (eval iter X.env) (some (assign (.Name y py) X.env))) _ _ s;refine Qa (JI (QmX (use:=some (assign (.Name y py) X.env)) (Q:=λ_ s'=>SP X pins D .next s') rfl hs (QmA (I.ok.cells c)) c.kind c.loc ?_) (λ_ s' hq=>wpAny_pure (wpAny_pure hq)) λ_ _ e=>e);refine thn (hi pins s σ H _ I h) λv s1 h1=>thn h1 λitv s2 h2=>?_
 obtain⟨it,fp,tn,J,H2,e,I2,T,st2,f2,hW⟩:=h2;subst e;refine QsI (QtA c.cell (by intro y hy;simp at hy) (λh₁ hns₁ hsb₁=>?_) c.kind);have I3:Inv X pins σ (upd H2 s2.heap.objs.size (.ext (smX s2.heap.objs.size 0 (ledOf X.w)))) { s2 with heap:=s2.heap.push { cls:=.type "set",dict:=none,data:=.set #[] 0 (.fresh 0 0 (ledOf X.w)) } }:=Qrr I2;have lt2:∀b∈fp,b<s2.heap.objs.size:=λb hb=>by obtain⟨o,e,_⟩:=T.obj _ _ st2 b hb;exact Qw e
 have f3:∀b∈fp,FpOk X pins (upd H2 s2.heap.objs.size (.ext (smX s2.heap.objs.size 0 (ledOf X.w)))) b:=λb hb=>(f2 b hb).upd (QV (lt2 b hb))
 generalize hs3:({ s2 with heap:=s2.heap.push { cls:=.type "set",dict:=none,data:=.set #[] 0 (.fresh 0 0 (ledOf X.w)) } }:Shared)=s3 at I3;have e3:s3.heap=s2.heap.push { cls:=.type "set",dict:=none,data:=.set #[] 0 (.fresh 0 0 (ledOf X.w)) }:=by rw[<- hs3]
 have z3:s3.heap.objs.size=s2.heap.objs.size+1:=by rw[e3,YL]
 have hk:∀b o,s3.heap.get? b=some o->h₁.get? b=some o:=λb o e=>hsb₁.extBut b o (by
  have:=Qw e;rw[e3] at this;exact QV this) (Qm _ (e3 ▸ e))
 have hn₁:h₁.Ns s3.heap.objs.size λ_=>none:=by rw[e3];exact hns₁
 have B:=Qg6 (t4:=s3.toks+([]:List (Str×Value)).length) (fp:=fp) I3 c f3 (λb hb=>by rw[z3];exact Yz (lt2 b hb)) hn₁ hk;have st4:tn 0 h₁:=T.keep _ _ _ st2 λb hb o e=>hk b o (by rw[e3];exact Qm _ e)
 have fp4:∀b∈fp,FpOk (blk X M scope (Qcj X.env scope.names []) fp s3 (upd H2 s2.heap.objs.size (.ext (smX s2.heap.objs.size 0 (ledOf X.w)))) s3.heap.objs.size) [] (upd H2 s2.heap.objs.size (.ext (smX s2.heap.objs.size 0 (ledOf X.w)))) b:=λb hb=>by
  refine⟨(f3 b hb).1,(B.ok.exf b hb).1,B.ok.exfs b hb,.inl hb,(B.ok.exf b hb).2,λp hp=>(nomatch hp)⟩
 obtain⟨hg,ht,he⟩:=hb (Qcj X.env scope.names []) fp s3 (upd H2 s2.heap.objs.size (.ext (smX s2.heap.objs.size 0 (ledOf X.w)))) s3.heap.objs.size;have loop:codeAny (model X.prog X.w) X.A (.compLoop (.SetComp elt [⟨tg,iter,ifs,0⟩] scope pos) 0 (.ref it) (.ref s2.heap.objs.size) (compEnvC scope (Qcj X.env scope.names []) s3.heap.objs.size X.env))
   (compPost (model X.prog X.w) X.A X.xe (some (assign (.Name y py) X.env)) (λ_ s'=>SP X pins D .next s') (.ref s2.heap.objs.size) s3.heap.objs.size) { s3 with heap:=h₁,toks:=s3.toks+([]:List (Str×Value)).length }:=by
  refine QjE (Y:=blk X M scope (Qcj X.env scope.names []) fp s3 (upd H2 s2.heap.objs.size (.ext (smX s2.heap.objs.size 0 (ledOf X.w)))) s3.heap.objs.size) (gens:=[⟨tg,iter,ifs,0⟩]) (d:=0) hc T st4 fp4
   (λQ E s h=>QkI Q E s h) (λx u r=>QmM rfl hg ht (λσ4=>QmN rfl he) x u r) B (hW _ (I2.hok.fresh (Qj _))) λs' H' I' q=>?_
  exact Qex (Q:=λ_ s'=>SP X pins D .next s') I3 f3 I' hN hiy hly λs2' J2=>⟨_,H',J2,q⟩
 exact QbB loop (T.self _ 0 _ _ _ st4 loop)
end L2
namespace L2
section
variable{κ:Type}[DecidableEq κ]
end
section
variable{P:QB}{w:Ji}{H:Hp}{h:Heap}{a:Addr}
end
section
variable{X:Cx}{pins:List (Addr×Obj)}{σ:St}{H:Hp}{s:Shared}{a:Addr}{y v:V}{u r:Value}{o:Option V}{A:Q3}{E:Value->Shared->Prop}
end
section
variable{X:Cx}{pins:List (Addr×Obj)}{σ:St}{H:Hp}{s:Shared}{a:Addr}{kvs:List (Key×V)}{k:Key}{u:Value}{A:Q3}{E:Value->Shared->Prop}
end
section
variable{X:Cx}{o i e value:Q5}{pos pos' tpos:Pos}{td ty tv:TE}
end
section
variable{X:Cx}{pos:Pos}
end
section
variable{X:Cx}{pins:List (Addr×Obj)}{σ:St}{H:Hp}{s:Shared}{a:Addr}{y d:V}{u r:Value}{o:Option V}{A:Q3}{E:Value->Shared->Prop}
end
section
variable{X:Cx}{o e f:Q5}{apos cpos:Pos}{td ty tx:TE}
end
section
variable{X:Cx}{pins:List (Addr×Obj)}{σ:St}{H:Hp}{s:Shared}{a:Addr}{kvs:List (Key×V)}{A:Q3}{E:Value->Shared->Prop}
end
section
variable{X:Cx}{pins:List (Addr×Obj)}{σ:St}{H:Hp}{s:Shared}{a:Addr}{y:V}{u:Value}{A:Q3}{E:Value->Shared->Prop}
end
section
variable{X:Cx}{pins:List (Addr×Obj)}{σ:St}{l it S fa:Addr}{xs:List V}{kw:List (Str×Value)}{val:Nat->Int}{H0:Hp}{R:Qjt->Shared->Prop}
def bstI(val:Nat->Int)(j:Nat):Nat:=argBest (λa b=>decide (val a<val b)) j
def Qaf(S:Addr)(H0 H:Hp):Prop:=∀b o,b≠S->H0 b=some o->H b=some o
def Qf1(X:Cx)(σ:St)(S fa:Addr)(xs:List V)(val:Nat->Int)(H0:Hp):Prop:=
 ∀(i:Nat)(x:V)(u:Value)(pins':List (Addr×Obj))(s:Shared)(H:Hp)(E:Value->Shared->Prop),xs[i]? = some x->RelV x u->Inv X pins' σ H s->Qaf S H0 H ->
  wpAny (model X.prog X.w) X.A.in1 (call (.ref fa) [u]) (λr s'=>∃t H',r=.int (val i) t/\Inv X pins' σ H' s'/\Same H H') E s
theorem QhG{s:Shared}{H:Hp}{ys zs:List V}{vs:List Value}(I:Inv X pins σ H s)(e:H S=some (.lst ys))(r:Vals zs vs)(hz:zs.length<=sizeLine):Inv X pins σ (upd H S (.lst zs)) { s with heap:=s.heap.update S (Zg λ_=>vs.toArray) }:=by
 obtain⟨_,its,n,rv,ln,ho⟩:=I.lstM e;refine I.write (t':=s.toks) (x:=S) (e:=S) (by rw[e];exact Qbo) (.inl rfl) (λb u hb z=>(Za _ _ (QaZ hb)).trans z) ⟨_,JY _ ho rfl⟩ ⟨hz,vs,_,r,JY _ ho rfl⟩
theorem QgK(hl:H0 l=some (.lst xs))(hlS:l≠S)(hkey:Qf1 X σ S fa xs val H0)(hc:X.calm=true)
  (hR:∀u s' H' x,xs[bstI val (xs.length - 1)]? = some x->RelV x u->Inv X pins σ H' s'->Qaf S H0 H'->R (.ok (.ret u)) s') :
  ∀(k j:Nat)(s:Shared)(H:Hp)(x:V),xs.length - (j+1)=k->j+1<=xs.length->Inv X pins σ H s->FpOk X pins H it->s.heap.IsListIter it l (j+1)->Qaf S H0 H->H S=some (.lst [x,.int (val (bstI val j))])->xs[bstI val j]? = some x ->
  codeAny (model X.prog X.w) X.A (.builtin "min.loop" ⟨[.ref it,.ref fa,.ref S],kw⟩) R s:=by
 have hname:(toString "min" ++ toString ".loop" : String) = "min.loop" := by decide
 intro k;induction k with
 |zero=>
  intro j s H x hk hj I hf st kp eS hx;have hin:j+1=xs.length:=by omega
  obtain⟨_,its,n,rv,ln,ho⟩:=I.lstM eS;obtain⟨u,w',e2,r1,r2⟩:∃u w',its=[u,w']/\RelV x u/\RelV (.int (val (bstI val j))) w':=by
   match its,rv with
   |[u,w'],.cons a (.cons b .nil)=>exact⟨u,w',rfl,a,b⟩
  subst e2;obtain⟨hz,its,n2,rl,ll,hol⟩:=I.lstM (kp _ _ hlS hl);obtain⟨f0,f1,f2,f3,f4,f5⟩:=hf;refine J8 Qcf ?_
  rw[JK ZO _];show wpAny _ X.A.in1 (seqItems? (.ref S) >>= _) _ _ s;refine Qa (Qep ho rfl ?_);show wpAny _ X.A.in1 (tryCatch (pyNext (.ref it)) _ >>= _) _ _ s;refine Qa (YW (Qdm (I.ok.hd hc) st ⟨_,hol,rfl,_,rfl⟩ (by simp;omega) λh' eb=>?_));have I1:Inv X pins σ H { s with heap:=h' }:=I.turned (t':=s.toks) (λb o hb e=>eb b o hb e) f0 f1 f3 f4 f5;have ho1:h'.get? S=_:=eb S _ (λz=>by rw[z,f0] at eS;cases eS) ho;show wpAny _ X.A.in1 (updateSeq S (λ_=>#[]) >>= _) _ _ _;refine Qa ?_
  refine Qbj ho1 rfl (Qa (Qjn (wpAny_pure ?_)));refine hR u _ _ x (by rw[<- hin];exact hx) r1 (QhG (vs:=[]) (zs:=[]) I1 eS .nil (Qr _)) λb o hb e=>?_
  rw[JU hb];exact kp b o hb e
 |succ k ih=>
  intro j s H x hk hj I hf st kp eS hx;have hlt:j+1<xs.length:=by omega
  obtain⟨_,its,n,rv,ln,ho⟩:=I.lstM eS;obtain⟨u,w',e2,r1,r2⟩:∃u w',its=[u,w']/\RelV x u/\RelV (.int (val (bstI val j))) w':=by
   match its,rv with
   |[u,w'],.cons a (.cons b .nil)=>exact⟨u,w',rfl,a,b⟩
  subst e2;obtain⟨tw,rfl⟩:=r2;obtain⟨hz,its,n2,rl,ll,hol⟩:=I.lstM (kp _ _ hlS hl);obtain⟨v,hv,rv2⟩:=rl.get (i:=j+1) (x:=xs[j+1]) (Qk hlt);obtain⟨f0,f1,f2,f3,f4,f5⟩:=id hf;have nS:S≠it:=λz=>by rw[z,f0] at eS;cases eS
  refine J8 Qcf ?_
  rw[JK ZO _];show wpAny _ X.A.in1 (seqItems? (.ref S) >>= _) _ _ s;refine Qa (Qep ho rfl ?_);show wpAny _ X.A.in1 (tryCatch (pyNext (.ref it)) _ >>= _) _ _ s;refine Qa (YW (QcK st ⟨_,hol,rfl,_,rfl⟩ (x:=v) (by simpa using hv) λh' st' sb=>?_));have I1:Inv X pins σ H { s with heap:=h' }:=I.turned (t':=s.toks) (λb o hb e=>(sb.2 b hb).trans e) f0 f1 f3 f4 f5;have pn:∀b∈[it],∃o,h'.get? b=some o/\∀v,o.data≠.cell v:=λb hb=>by
   have e:b=it:=by simpa using hb
   subst e;obtain⟨o,e,c,d⟩:=st';exact⟨o,e,λv z=>by rw[d] at z;cases z⟩
  have hfA:∀b∈[it],FpOk X pins H b:=λb hb=>by
   have e:b=it:=by simpa using hb
   rw[e];exact hf
  have I1p:=I1.pinned (fp:=[it]) hfA pn;show wpAny _ X.A.in1 (tryCatch (holding [v] (call (.ref fa) [v])) _ >>= _) _ _ _;refine Qa (YW (JJ (JI (hkey (j+1) _ v _ _ H _ (Qk hlt) rv2 I1p kp) (λr s2 ⟨t,H2,er,I2p,s12⟩=>?_) λ_ _ e=>e)));subst er;have I2:=I2p.unpinned;have it2:s2.heap.IsListIter it l (j+1+1):=st'.at λo e=>(I2p.pin (it,o) (Qv _ (Qv _ (Z0 (QC.mpr rfl) e)))).1
  have f02:H2 it=none:=by
   obtain⟨o,e,_⟩:=id st';exact(I2p.pin (it,o) (Qv _ (Qv _ (Z0 (QC.mpr rfl) e)))).2.1
  have hf2:FpOk X pins H2 it:=⟨f02,f1,f2,f3,f4,f5⟩;have kp2:Qaf S H0 H2:=λb o hb e=>s12 _ _ (kp b o hb e)
  have eS2:=s12 _ _ eS;obtain⟨_,its2,n3,rv3,ln3,ho2⟩:=I2.lstM eS2;show wpAny _ X.A.in1 (tryCatch (holding [v,.int (val (j+1)) t] (richCompare .Lt (.int (val (j+1)) t) (.int (val (bstI val j)) tw) >>= _)) _ >>= _) _ _ _;refine Qa (YW (JJ (Qa (HT.QiH _ _ _ _ _ _ _ _ _ _ ?_))));refine Qa (JJ (J3 ?_));refine Qa (Qjn (wpAny_pure ?_));have eb:bstI val (j+1)=if decide (val (j+1)<val (bstI val j))=true then j+1 else bstI val j:=rfl
  cases hb:decide (val (j+1)<val (bstI val j)) with
  |true=>
   rw[hb,if_pos rfl] at eb;simp only[if_true];refine Qa ?_
   refine Qbj ho2 rfl (Qa (Qjn ?_));rw[hname];have I3:=QhG (vs:=[v,.int (val (j+1)) t]) (zs:=[xs[j+1],.int (val (j+1))]) I2 eS2 (.cons rv2 (.cons ⟨t,rfl⟩ .nil)) (by show 2<=sizeLine;decide);refine wpAny_pure ⟨Yf ZO _,ih (j+1) _ _ xs[j+1] (by omega) hlt I3 ⟨by rw[JU (QaZ nS)];exact f02,f1,f2,f3,f4,f5⟩ (it2.at λo e=>(Za _ _ nS).trans e) (λb o hb e=>by rw[JU hb];exact kp2 b o hb e) (by rw[eb];exact JB) (by rw[eb];exact Qk hlt)⟩
  |false=>
   rw[hb,if_neg Qp] at eb;simp only[JT,if_false];refine Qa (Qjn ?_);rw[hname];exact wpAny_pure ⟨Yf ZO _,ih (j+1) _ _ x (by omega) hlt I2 hf2 it2 kp2 (by rw[eb];exact eS2) (by rw[eb];exact hx)⟩
theorem QfD(hl:H0 l=some (.lst xs))(hlS:l≠S)(hkey:Qf1 X σ S fa xs val H0)(hc:X.calm=true)(hn:0<xs.length)
  (hR:∀u s' H' x,xs[bstI val (xs.length - 1)]? = some x->RelV x u->Inv X pins σ H' s'->Qaf S H0 H'->R (.ok (.ret u)) s'){s:Shared}{H:Hp}(I:Inv X pins σ H s)(hf:FpOk X pins H it)(st:s.heap.IsListIter it l 0)(kp:Qaf S H0 H)(eS:H S=some (.lst [])) :
  codeAny (model X.prog X.w) X.A (.builtin "min.loop" ⟨[.ref it,.ref fa,.ref S],kw⟩) R s:=by
 have hname:(toString "min" ++ toString ".loop" : String) = "min.loop" := by decide
 obtain⟨_,its,n,rv,ln,ho⟩:=I.lstM eS;cases rv;obtain⟨hz,its,n2,rl,ll,hol⟩:=I.lstM (kp _ _ hlS hl);obtain⟨v,hv,rv2⟩:=rl.get (i:=0) (x:=xs[0]) (Qk hn);obtain⟨f0,f1,f2,f3,f4,f5⟩:=id hf;have nS:S≠it:=λz=>by rw[z,f0] at eS;cases eS
 refine J8 Qcf ?_
 rw[JK ZO _];show wpAny _ X.A.in1 (seqItems? (.ref S) >>= _) _ _ s;refine Qa (Qep ho rfl ?_);show wpAny _ X.A.in1 (tryCatch (pyNext (.ref it)) _ >>= _) _ _ s;refine Qa (YW (QcK st ⟨_,hol,rfl,_,rfl⟩ (x:=v) (by simpa using hv) λh' st' sb=>?_));have I1:Inv X pins σ H { s with heap:=h' }:=I.turned (t':=s.toks) (λb o hb e=>(sb.2 b hb).trans e) f0 f1 f3 f4 f5;have pn:∀b∈[it],∃o,h'.get? b=some o/\∀v,o.data≠.cell v:=λb hb=>by
  have e:b=it:=by simpa using hb
  subst e;obtain⟨o,e,c,d⟩:=st';exact⟨o,e,λv z=>by rw[d] at z;cases z⟩
 have hfA:∀b∈[it],FpOk X pins H b:=λb hb=>by
  have e:b=it:=by simpa using hb
  rw[e];exact hf
 have I1p:=I1.pinned (fp:=[it]) hfA pn;show wpAny _ X.A.in1 (tryCatch (holding [v] (call (.ref fa) [v])) _ >>= _) _ _ _;refine Qa (YW (JJ (JI (hkey 0 _ v _ _ H _ (Qk hn) rv2 I1p kp) (λr s2 ⟨t,H2,er,I2p,s12⟩=>?_) λ_ _ e=>e)));subst er;have I2:=I2p.unpinned;have it2:s2.heap.IsListIter it l (0+1):=st'.at λo e=>(I2p.pin (it,o) (Qv _ (Qv _ (Z0 (QC.mpr rfl) e)))).1
 have f02:H2 it=none:=by
  obtain⟨o,e,_⟩:=id st';exact(I2p.pin (it,o) (Qv _ (Qv _ (Z0 (QC.mpr rfl) e)))).2.1
 have eS2:=s12 _ _ eS;obtain⟨_,its2,n3,rv3,ln3,ho2⟩:=I2.lstM eS2;show wpAny _ X.A.in1 (updateSeq S (λ_=>#[v,.int (val 0) t]) >>= _) _ _ _;refine Qa ?_
 refine Qbj ho2 rfl ?_
 rw[hname];have I3:=QhG (vs:=[v,.int (val 0) t]) (zs:=[xs[0],.int (val 0)]) I2 eS2 (.cons rv2 (.cons ⟨t,rfl⟩ .nil)) (by show 2<=sizeLine;decide);exact wpAny_pure ⟨Yf ZO _,QgK hl hlS hkey hc hR _ 0 _ _ xs[0] rfl hn I3 ⟨by rw[JU (QaZ nS)];exact f02,f1,f2,f3,f4,f5⟩ (it2.at λo e=>(Za _ _ nS).trans e) (λb o hb e=>by rw[JU hb];exact s12 _ _ (kp b o hb e)) JB (Qk hn)⟩
theorem QgJ(hl:H0 l=some (.lst []))(hlS:l≠S)(hc:X.calm=true){d:Value}{kn:Str}{s:Shared}{H:Hp}(I:Inv X pins σ H s)(hf:FpOk X pins H it)(st:s.heap.IsListIter it l 0)(kp:Qaf S H0 H)(eS:H S=some (.lst []))(hR:∀s',Inv X pins σ H s'->R (.ok (.ret d)) s') :
  codeAny (model X.prog X.w) X.A (.builtin "min.loop" ⟨[.ref it,.ref fa,.ref S],[(kn,d)]⟩) R s:=by
 obtain⟨_,its,n,rv,ln,ho⟩:=I.lstM eS;cases rv;obtain⟨hz,its,n2,rl,ll,hol⟩:=I.lstM (kp _ _ hlS hl);cases rl;obtain⟨f0,f1,f2,f3,f4,f5⟩:=id hf;refine J8 Qcf ?_
 rw[JK ZO _];show wpAny _ X.A.in1 (seqItems? (.ref S) >>= _) _ _ s;refine Qa (Qep ho rfl ?_);show wpAny _ X.A.in1 (tryCatch (pyNext (.ref it)) _ >>= _) _ _ s;refine Qa (YW (Qdm (I.ok.hd hc) st ⟨_,hol,rfl,_,rfl⟩ (by simp) λh' eb=>?_));have I1:Inv X pins σ H { s with heap:=h' }:=I.turned (t':=s.toks) (λb o hb e=>eb b o hb e) f0 f1 f3 f4 f5;show wpAny _ X.A.in1 (rule _ >>= _) _ _ _;exact Qa (ZP (wpAny_pure (hR _ I1)))
end
section
variable{prog:QB}{w:Ji}{A:Q3}{E:Value->Shared->Prop}{s:Shared}
theorem QgZ{id:String}{b:YS}{args:List Value}{kw:List (Str×Value)}{Q:Value->Shared->Prop}(hk:builtinKind id=none)(hp:plainId id=true)
  (hb:entryFor table id=some b)(ha:argsOk id ⟨args,kw⟩)
  (hc:wpAny (model prog w) A.in1 (b ⟨args,kw⟩) (λfin s'=>match fin with
   |.done f=>(match (Except.ok f:Qjt) with | .ok (.ret v)=>Q v s' | .ok _=>False | .error e=>E e s')
   |.again c'=>c'.quiet=true/\codeAny (model prog w) A c' (λr s'=>match r with | .ok (.ret v)=>Q v s' | .ok _=>False | .error e=>E e s') s') E s) :
  wpAny (model prog w) A (call (.builtin id) args kw) Q E s:=by
 refine QmY (QtC hp hb ?_);simp only[checkBuiltinCall,hk];cases hsig:Manifest.signature? id with
 |none=>exact wpAny_pure hc
 |some sig=>
  have ha':Bind.checkArgs id sig ⟨args,kw⟩=pure ():=by simpa only[argsOk,hsig] using ha
  simp only[ha'];exact wpAny_pure hc
end
theorem Qkd(a f:Value):argsOk "min" ⟨[a],[("key",f)]⟩:=by unfold argsOk;kernel_rfl
theorem Qik(a f d:Value):argsOk "min" ⟨[a],[("key",f),("default",d)]⟩:=by unfold argsOk;kernel_rfl
section
variable{X:Cx}{pins:List (Addr×Obj)}{σ:St}{l fa:Addr}{xs:List V}{val:Nat->Int}
theorem Qg1{dv:Option (V×Value)}{H:Hp}{s:Shared}{Q:VK}{E:Value->Shared->Prop}(hc:X.calm=true)(I:Inv X pins σ H s)(hl:H l=some (.lst xs))(hd:∀p,dv=some p->RelV p.1 p.2)(hkey:∀S,H S=none->Qf1 X σ S fa xs val H)
  (h0:xs=[]->∃p,dv=some p/\∀H',Same H H'->Q p.1 H')(h1:∀x,xs[bstI val (xs.length - 1)]? = some x->∀H',Same H H'->Q x H') :
  wpAny (model X.prog X.w) X.A (call (.builtin "min") [.ref l] (("key",.ref fa)::dv.toList.map λp=>("default",p.2))) (EP X pins σ Q) E s:=by
 have hname:(toString "min" ++ toString ".loop" : String) = "min.loop" := by decide
 refine QgZ F.kind_min F.plain_min F.entry_min (by cases dv with | none=>exact Qkd _ _ | some p=>exact Qik _ _ _) ?_
 show wpAny _ X.A.in1 (Qcg "min" ["key", "default"] 0 ⟨[],("key",.ref fa)::dv.toList.map λp=>("default",p.2)⟩ >>= _) _ _ s;refine Qa (ZB (show Qcg "min" ["key", "default"] 0 ⟨[],("key",.ref fa)::dv.toList.map λp=>("default",p.2)⟩=pure [some (.ref fa),dv.map (·.2)] by cases dv<;>rfl) ?_);refine Qa (wpAny_pure ?_);obtain⟨hz,its,n,rl,ll,hol⟩:=I.lstM hl;refine Qa (QbZ (l:=l) ⟨_,hol,rfl,_,rfl⟩ ?_);have I1:Inv X pins σ H { s with heap:=s.heap.push { cls:=.type "list_iterator",data:=.fields #[.ref l,.int 0 0] } }:=I.kept (t':=s.toks) λb o e=>Qm _ e
 have hf:FpOk X pins H s.heap.objs.size:=I.fpOk (Qj _) (I.hok.fresh (Qj _));generalize hs1:({ s with heap:=s.heap.push { cls:=.type "list_iterator",data:=.fields #[.ref l,.int 0 0] } }:Shared)=s1 at I1;have st1:s1.heap.IsListIter s.heap.objs.size l 0:=by rw[<- hs1];exact⟨_,Qz _ rfl,rfl,rfl⟩
 have z1:s1.heap.objs.size=s.heap.objs.size+1:=by rw[<- hs1];exact YL ..
 refine Qa (JS ?_);have I2:=I1.lnew (t':=s1.toks) (ys:=[]) (its:=[]) .nil (Qr _);have fS:H s1.heap.objs.size=none:=I1.hok.fresh (Qj _);have nl:l≠s1.heap.objs.size:=λz=>by rw[z,fS] at hl;cases hl
 have nit:s.heap.objs.size≠s1.heap.objs.size:=by rw[z1];exact QV (Qfe _)
 have kp:Qaf s1.heap.objs.size H (upd H s1.heap.objs.size (.lst [])):=λb o hb e=>by rw[JU hb];exact e
 obtain⟨f0,f1,f2,f3,f4,f5⟩:=hf;have hf2:FpOk X pins (upd H s1.heap.objs.size (.lst [])) s.heap.objs.size:=⟨by rw[JU nit];exact f0,f1,f2,f3,f4,f5⟩;have st2:(s1.heap.push { cls:=.type "list",data:=.seq ([]:List Value).toArray }).IsListIter s.heap.objs.size l 0:=st1.at λo e=>Qm _ e
 have sm:∀{H':Hp},Qaf s1.heap.objs.size H H'->Same H H':=λk b o e=>k b o (λz=>by rw[z,fS] at e;cases e) e
 rw[hname];refine wpAny_pure ⟨Yf ZO _,?_⟩;cases xs with
 |nil=>
  obtain⟨p,ep,hq⟩:=h0 rfl;subst ep;exact QgJ (R:=λr s'=>match r with | .ok (.ret v)=>EP X pins σ Q v s' | .ok _=>False | .error e=>E e s') hl nl hc I2 hf2 st2 kp JB λs' I'=>⟨p.1,_,I',hd p rfl,hq _ (sm kp)⟩
 |cons x0 xr=>
  exact QfD (R:=λr s'=>match r with | .ok (.ret v)=>EP X pins σ Q v s' | .ok _=>False | .error e=>E e s') hl nl (hkey _ fS) hc (by show 0<xr.length+1;omega) (λu s' H' x hx r I' k=>⟨x,H',I',r,h1 x hx H' (sm k)⟩) I2 hf2 st2 kp JB
end
end L2
namespace L2
open PySem.Calls _root_.Rd _root_.Rk
section
variable{X:Cx}{k:Nat}{fa:Addr}{fd:QR}{pn:Str}{sp:Sp}{E0:XK}
theorem Qov{σ:St}{S:Addr}{xs:List V}{val:Nat->Int}{H0:Hp}(F:FnOk X.prog X.w X.K X.mg X.base CX0 k fa fd [pn] sp)(hr:Room (k+1) X.A)(hb:Binds X.K fd [pn] [])
  (h:∀(i:Nat)(x:V),xs[i]? = some x->∀H,Qaf S H0 H->sp [x] H (λv H'=>v=.int (val i)/\Same H H') E0):Qf1 X σ S fa xs val H0:=by
 intro i x u pins' s H E hx rx I kb;refine QmY (QbF (F.run X.A.in1 X.stack s H ⟨[u],[]⟩ [u] [x] _ E0 hr.in1 I.env0.in1 (hb s [u] I.kIn rfl) (.cons rx .nil) (h i x hx H kb)) λr s' hq=>?_);cases r with
 |error e=>exact Zp hq
 |ok fl=>
  cases fl with
  |ret u'=>
   obtain⟨v,H',I',rv,rfl,sm⟩:=I.after hq;obtain⟨t,rfl⟩:∃t,u'=.int (val i) t:=by
    first
    |exact rv
    |(cases rv;exact⟨_,rfl⟩)
   exact⟨t,H',rfl,I',sm⟩
  |next=>exact Zp hq
  |brk=>exact Zp hq
  |cont=>exact Zp hq
def Qxk(sp:Sp)(E0:XK)(t:TE):TE:=λσ H Q=>t σ H λv H1=>∃(l:Addr)(xs:List V)(val:Nat->Int),v=.ref l/\H1 l=some (.lst xs)/\xs≠[] /\
 (∀(S:Addr)(i:Nat)(x:V),H1 S=none->xs[i]? = some x->∀H,Qaf S H1 H->sp [x] H (λv H'=>v=.int (val i)/\Same H H') E0)/\∀x,xs[bstI val (xs.length - 1)]? = some x->∀H',Same H1 H'->Q x H'
theorem QrY{e:Q5}{t:TE}{y:Str}{p fp kp pos:Pos}(F:FnOk X.prog X.w X.K X.mg X.base CX0 k fa fd [pn] sp)(hr:Room (k+1) X.A)(hg:Gl X "min")(hm:X.mg "min" = none)(hgf:Gl X y)(hmf:X.mg y=some (.ref fa))(hb:Binds X.K fd [pn] [])(hc:X.calm=true)(h:PE X e t)
  (hdb:(y == ("__debug__" : Str))=false:=by decide)(he:starEach [e] X.env=(false,eval e X.env)::starEach [] X.env:=by rfl):PE X (.Call (.Name "min" p) [e] [⟨some "key",.Name y fp,kp⟩] pos) (Qxk sp E0 t):=by
 intro pins s σ H Q I hh;refine Qak (Qdj I hg hm (by rfl) ?_ (by decide) (by decide));have hh:Qgk t Qub σ H (λvs H1=>match vs with
   |[v]=>∃(l:Addr)(xs:List V)(val:Nat->Int),v=.ref l/\H1 l=some (.lst xs)/\xs≠[]/\(∀(S:Addr)(i:Nat)(x:V),H1 S=none->xs[i]? = some x->∀H,Qaf S H1 H->sp [x] H (λv H'=>v=.int (val i)/\Same H H') E0)/\∀x,xs[bstI val (xs.length - 1)]? = some x->∀H',Same H1 H'->Q x H'
   |_=>False):=hh
 refine PyProof.Rows.callWith_kw (thn ((Qbz h Z5 he) pos pins s σ H _ I hh) λus s1 ⟨vs,H1,I1,r1,q1⟩=>?_) ?_ ?_ ?_ ?_
 ·dsimp only at q1
  split at q1
  ·obtain⟨l,xs,val,rfl,hl,hne,hk,hQ⟩:=q1;obtain⟨u,rfl,ru⟩:=vals1 r1;cases ru;refine kws_cons (QlZ I1 hgf hmf (kws_nil ?_) hdb);show wpAny (model X.prog X.w) X.A (call (.builtin "min") [.ref l] [("key",.ref fa)]) _ _ s1;exact Qg1 (dv:=none) hc I1 hl (λp hp=>nomatch hp) (λS hS=>Qov F hr hb λi x hx H2 kb=>hk S i x hS hx H2 kb) (λe=>absurd e hne) λx hx H' sm=>hQ x hx H' sm
  ·exact q1.elim
 ·rw[he];rfl
 ·rw[he];rfl
 ·rfl
 ·rfl
end
end L2
namespace Dl
open L2 _root_.Rd Rk
section
variable{X:Cx}{E:XK}
theorem Qh6{A:Addr->Prop}{H:Hp}:∀{xs:List V}{ds:List Qb},DAs A H xs ds->∀(i:Nat)(x:V),xs[i]? = some x->∃d,ds[i]? = some d/\DA A H x d
 |_,_,.nil,i,x,h=>nomatch h
 |_,_,.cons a b,0,x,h=>by cases h;exact⟨_,rfl,a⟩
 |_,_,.cons a b,i+1,x,h=>Qh6 b i x h
theorem Qjc{A:Addr->Prop}{H:Hp}:∀{xs:List V}{ds:List Qb},DAs A H xs ds->xs.length=ds.length
 |_,_,.nil=>rfl
 |_,_,.cons _ b=>by rw[QL,QL,Qjc b]
@[irreducible] def QlT(fD:DF):Qb->(Qb->Prop)->Prop
 |.list ds,Q=>∃val:Nat->Int,ds≠[]/\(∀(i:Nat) d,ds[i]? = some d->fD [.v d] (λr=>r=.int (val i)) XF)/\∀d,ds[bstI val (ds.length - 1)]? = some d->Q d
 |_,_=>False
theorem QsL{fD:DF}{ds:List Qb}{Q:Qb->Prop}(val:Nat->Int)(h0:ds≠[])(h1:∀(i:Nat) d,ds[i]? = some d->fD [.v d] (λr=>r=.int (val i)) XF)(h:∀d,ds[bstI val (ds.length - 1)]? = some d->Q d):QlT fD (.list ds) Q:=by
 unfold QlT;exact⟨val,h0,h1,h⟩
def Qv2(fD:DF)(w:DE):DE:=λδ Q EX=>w δ (λd=>QlT fD d Q) EX
theorem Qsl{k:Nat}{fa:Addr}{fd:QR}{pn y:Str}{fr:Bool}{fD:DF}{e:Q5}{w:DE}{p fp kp pos:Pos}(G:FnOk X.prog X.w X.K X.mg X.base CX0 k fa fd [pn] (Zq fr fD))(hr:Room (k+1) X.A)(hg:Gl X "min")(hm:X.mg "min" = none)(hgf:Gl X y)(hmf:X.mg y=some (.ref fa))(hb:Binds X.K fd [pn] [])(hc:X.calm=true)
  (h:PE X e (tX .P X.K E w))(hdb:(y == ("__debug__" : Str))=false:=by decide)(hs:notStar e=true:=by rfl):PE X (.Call (.Name "min" p) [e] [⟨some "key",.Name y fp,kp⟩] pos) (tX .D X.K E (Qv2 fD w)):=by
 refine PE.imp (QrY (E0:=λ_ _ _=>False) G hr hg hm hgf hmf hb hc h hdb (YB hs)) λσ H Q ⟨F,δ,R,EX,rel,hw,k,o⟩=>?_
 refine⟨F,δ,_,EX,rel,hw,λd hd v H1 rel1 kp1 vk=>?_,o⟩;have hd:QlT fD d _:=hd;unfold QlT at hd;split at hd
 ·rename_i ds
  obtain⟨val,hne,hf,hQ⟩:=hd;obtain⟨l,xs,rfl,e,q⟩:=DP.list vk;have ln:=Qjc q;refine⟨l,xs,val,rfl,e,λz=>hne (by rw[z] at ln;exact List.eq_nil_of_length_eq_zero ln.symm),λS i x hS hx H2 kb=>?_,λx hx H' sm=>?_⟩
  ·obtain⟨d,hd,da⟩:=Qh6 q i x hx;refine⟨Av F σ δ,λ_=>False,[.v d],_,XF,λa ha=>?_,λp hp=>hp.elim,.cons ?_ .nil,hf i d hd,λd' e' v H' kq da' _=>?_,λC hC=>hC.elim⟩
   ·obtain⟨ys,hy⟩:=rel1.isl ha;exact⟨ys,kb a _ (λz=>by rw[z,hS] at hy;cases hy) hy⟩
   ·exact da.mv (λa o na ha=>kb a o (λz=>by rw[z,hS] at ha;cases ha) ha) λa ha=>.inl ha
   ·subst e';cases da';exact⟨rfl,λb o hb=>kq.1 b o (λz=>z) hb⟩
  ·rw[ln] at hx;obtain⟨d,hd,da⟩:=Qh6 q _ x hx;exact k d (hQ d hd) x H' (rel1.same sm) (kp1.trans (Kp.same rel1 sm)) (da.same sm)
 ·exact hd.elim
theorem QuD{k:Nat}{fa:Addr}{fd:QR}{pn y:Str}{fr:Bool}{fD:DF}{e:Q5}{w:DE}{p fp kp pos:Pos}(G:FnOk X.prog X.w X.K X.mg X.base CX0 k fa fd [pn] (Zq fr fD))(hr:Room (k+1) X.A)(hg:Gl X "min")(hm:X.mg "min" = none)(hgf:Gl X y)(hmf:X.mg y=some (.ref fa))(hb:Binds X.K fd [pn] [])
  (h:QE .P X E e w)(hc:X.calm=true:=by rfl)(hdb:(y == ("__debug__" : Str))=false:=by decide)(hs:notStar e=true:=by rfl):QE .D X E (.Call (.Name "min" p) [e] [⟨some "key",.Name y fp,kp⟩] pos) (Qv2 fD w):=⟨Qsl G hr hg hm hgf hmf hb hc h.h hdb hs⟩
end
end Dl
namespace Ko
abbrev Vx:=Bool×Int
def one(b:Bool):Nat:=if b=true then 1 else 0
def cnt(V:List Vx)(f:Vx->Bool):Nat:=(V.map λv=>one (f v)).sum
def Cov(cs:List (Int×Int))(f:Vx->Bool):Prop:=∀p∈cs,f (true,p.1)=true∨f (false,p.2)=true
def Apart(cs:List (Int×Int)):Prop:=cs.Pairwise λp q=>p.1≠q.1/\p.2≠q.2
theorem Qti{V:List Vx}{a b c d e:Vx->Bool}(h:∀v∈V,one (a v)+one (b v)=one (c v)+one (d v)+one (e v)):cnt V a+cnt V b=cnt V c+cnt V d+cnt V e:=by
 induction V with
 |nil=>rfl
 |cons v V ih=>
  have h1:=h v (.head _);have h2:=ih λv hv=>h v (.tail _ hv)
  simp only[cnt,Jh,Y1] at h2 ⊢;omega
theorem Qtj{V:List Vx}(nd:V.Nodup)(x:Vx):cnt V (λv=>decide (v=x))<=1:=by
 induction V with
 |nil=>exact Qr _
 |cons v V ih=>
  have nd:=Yo.mp nd;by_cases z:v=x
  ·subst z;have:cnt V (λu=>decide (u=v))=0:=by
    have:∀W:List Vx,v∉W->cnt W (λu=>decide (u=v))=0:=λW=>by
     induction W with
     |nil=>intro _;rfl
     |cons u W ih=>
      intro hw;have h1:u≠v:=λe=>hw (by rw[e];exact .head _)
      have h2:=ih λz=>hw (.tail _ z)
      simp only[cnt,Jh,Y1,one,h1,decide_false,JT,if_false] at h2 ⊢;omega
    exact this V nd.1
   simp only[cnt,Jh,Y1,one,decide_true,if_true] at this ⊢;omega
  ·have:=ih nd.2;simp only[cnt,Jh,Y1,one,z,decide_false,JT,if_false] at this ⊢;omega
theorem len_sub{α:Type}[DecidableEq α]:∀{l k:List α},l.Nodup->(∀x∈l,x∈k)->l.length<=k.length
 |[],_,_,_=>Qr _
 |x::l,k,nd,h=>by
  have nd:=Yo.mp nd;have hx:=h x (.head _);have:=len_sub (l:=l) (k:=k.erase x) nd.2 λy hy=>(Qkw (λe=>nd.1 (by rw[<- e];exact hy))).mpr (h y (.tail _ hy))
  rw[Qbr hx] at this;have p:0<k.length:=Qad hx;rw[QL];omega
theorem QfU(V:List Vx)(f:Vx->Bool):cnt V f=(V.filter f).length:=by
 induction V with
 |nil=>rfl
 |cons v V ih=>
  cases h:f v with
  |true=>rw[Zz h,QL,<- ih];simp only[cnt,Jh,Y1,one,h,if_true];omega
  |false=>rw[ZA (by rw[h];exact Qp),<- ih];simp only[cnt,Jh,Y1,one,h,JT,if_false];omega
theorem Qpv{V:List Vx}{cs:List (Int×Int)}{t:Nat}(ht:∀f,Cov cs f->t<=cnt V f){p:Int×Int}{f:Vx->Bool}(c:Cov (cs.filter λe=>decide (e≠p)) f)(n:cnt V f<t):f (true,p.1)=false/\f (false,p.2)=false:=by
 have go:¬(f (true,p.1)=true∨f (false,p.2)=true):=λh=>by
  have:=ht f λe he=>by
   by_cases z:e=p
   ·rw[z];exact h
   ·exact c e (Qu.mpr ⟨he,decide_eq_true z⟩)
  omega
 constructor
 ·cases e:f (true,p.1) with
  |false=>rfl
  |true=>exact absurd (.inl e) go
 ·cases e:f (false,p.2) with
  |false=>rfl
  |true=>exact absurd (.inr e) go
theorem Quk{V:List Vx}(ndV:V.Nodup){cs:List (Int×Int)}{t:Nat}(ht:∀f,Cov cs f->t<=cnt V f){p q:Int×Int}(hp:p∈cs)(hq:q∈cs)(hne:p≠q){f1 f2:Vx->Bool}
  (c1:Cov (cs.filter λe=>decide (e≠p)) f1)(n1:cnt V f1<t)(c2:Cov (cs.filter λe=>decide (e≠q)) f2)(n2:cnt V f2<t){x:Vx}(xp:x=(true,p.1)∨x=(false,p.2))(xq:x=(true,q.1)∨x=(false,q.2)):False:=by
 have a1:=Qpv ht c1 n1;have a2:=Qpv ht c2 n2;have x1:f1 x=false:=by rcases xp with rfl | rfl;exact a1.1;exact a1.2
 have x2:f2 x=false:=by rcases xq with rfl | rfl;exact a2.1;exact a2.2
 have b1:=c2 p (Qu.mpr ⟨hp,decide_eq_true hne⟩);have b2:=c1 q (Qu.mpr ⟨hq,decide_eq_true (QaZ hne)⟩)
 let D:Vx->Bool:=λv=>(f1 v != f2 v)||decide (v=x)
 let R:Vx->Bool:=λv=>(f1 v&&f2 v)||(D v&&v.1)
 let C:Vx->Bool:=λv=>(f1 v&&f2 v)||(D v && !v.1)
 have key:∀e∈cs,((f1 (true,e.1)&&f2 (true,e.1))=true∨(f1 (false,e.2)&&f2 (false,e.2))=true)∨(D (true,e.1)=true/\D (false,e.2)=true):=by
  intro e he;by_cases z:e=p
  ·subst z;refine .inr ?_
   show((f1 (true,e.1) != f2 (true,e.1))||decide ((true,e.1)=x))=true/\((f1 (false,e.2) != f2 (false,e.2))||decide ((false,e.2)=x))=true;rcases xp with rfl | rfl
   ·rcases b1 with b | b
    ·rw[x2] at b;cases b
    ·rw[a1.2,b];simp
   ·rcases b1 with b | b
    ·rw[a1.1,b];simp
    ·rw[x2] at b;cases b
  ·by_cases y:e=q
   ·subst y;refine .inr ?_
    show((f1 (true,e.1) != f2 (true,e.1))||decide ((true,e.1)=x))=true/\((f1 (false,e.2) != f2 (false,e.2))||decide ((false,e.2)=x))=true;rcases xq with rfl | rfl
    ·rcases b2 with b | b
     ·rw[x1] at b;cases b
     ·rw[a2.2,b];simp
    ·rcases b2 with b | b
     ·rw[a2.1,b];simp
     ·rw[x1] at b;cases b
   ·have h1:=c1 e (Qu.mpr ⟨he,decide_eq_true z⟩);have h2:=c2 e (Qu.mpr ⟨he,decide_eq_true y⟩);show((f1 (true,e.1)&&f2 (true,e.1))=true∨(f1 (false,e.2)&&f2 (false,e.2))=true)∨(((f1 (true,e.1) != f2 (true,e.1))||decide ((true,e.1)=x))=true/\((f1 (false,e.2) != f2 (false,e.2))||decide ((false,e.2)=x))=true);cases g1:f1 (true,e.1)<;>cases g2:f2 (true,e.1)<;>cases g3:f1 (false,e.2)<;>cases g4:f2 (false,e.2)<;>simp[g1,g2,g3,g4] at h1 h2 ⊢
 have cR:Cov cs R:=λe he=>by
  rcases key e he with(h | h) | h
  ·exact .inl (by show(_||_)=true;rw[h];rfl)
  ·exact .inr (by show(_||_)=true;rw[h];rfl)
  ·exact .inl (by show(_||(D (true,e.1)&&true))=true;rw[h.1];simp)
 have cC:Cov cs C:=λe he=>by
  rcases key e he with(h | h) | h
  ·exact .inl (by show(_||_)=true;rw[h];rfl)
  ·exact .inr (by show(_||_)=true;rw[h];rfl)
  ·exact .inr (by show(_||(D (false,e.2)&&true))=true;rw[h.2];simp)
 have tR:=ht R cR;have tC:=ht C cC;have s:=Qti (V:=V) (a:=R) (b:=C) (c:=f1) (d:=f2) (e:=λv=>decide (v=x)) λv _=>by
  show one ((f1 v&&f2 v)||(((f1 v != f2 v)||decide (v=x))&&v.1))+one ((f1 v&&f2 v)||(((f1 v != f2 v)||decide (v=x)) && !v.1))=one (f1 v)+one (f2 v)+one (decide (v=x));by_cases z:v=x
  ·subst z;rw[x1,x2];obtain⟨b,i⟩:=v;cases b<;>simp[one]
  ·obtain⟨b,i⟩:=v;cases g1:f1 (b,i)<;>cases g2:f2 (b,i)<;>cases b<;>simp[one,z]
 have:=Qtj ndV x;omega
theorem QxR{V:List Vx}(ndV:V.Nodup):∀(n:Nat)(cs:List (Int×Int)),cs.length=n->cs.Nodup->∀t,(∀f,Cov cs f->t<=cnt V f)->∃M,M.Sublist cs/\Apart M/\t<=M.length:=by
 intro n;induction n using Nat.strongRecOn with
 |ind n ih=>
  intro cs hn nd t ht;by_cases z:∃e,e∈cs/\∀f,Cov (cs.filter λq=>decide (q≠e)) f->t<=cnt V f
  ·obtain⟨e,he,h⟩:=z;have hl:(cs.filter λq=>decide (q≠e)).length<n:=by
    rw[<- hn];exact List.length_filter_lt_length_iff_exists.mpr ⟨e,he,by simp⟩
   obtain⟨M,s,a,l⟩:=ih _ hl _ rfl (JE _ nd) t h;exact⟨M,s.trans (List.filter_sublist),a,l⟩
  ·have ne:∀e∈cs,∃f,Cov (cs.filter λq=>decide (q≠e)) f/\cnt V f<t:=λe he=>by
    refine Yt λc=>z ⟨e,he,λf hf=>Yt λd=>c ⟨f,hf,by omega⟩⟩
   refine⟨cs,List.Sublist.refl _,?_,?_⟩
   ·refine(QaG (R:=λp q=>p≠q) (λ{p q} hp hq hne=>?_) nd);obtain⟨f1,c1,n1⟩:=ne p hp;obtain⟨f2,c2,n2⟩:=ne q hq;exact⟨λe=>Quk ndV ht hp hq hne c1 n1 c2 n2 (x:=(true,p.1)) (.inl rfl) (.inl (by rw[e])),λe=>Quk ndV ht hp hq hne c1 n1 c2 n2 (x:=(false,p.2)) (.inr rfl) (.inr (by rw[e]))⟩
   ·have:=ht (λv=>v.1&&decide (v.2∈cs.map (·.1))) λp hp=>.inl (by show(true&&decide (p.1∈cs.map (·.1)))=true;rw[Zk];exact decide_eq_true (List.mem_map_of_mem hp))
    rw[QfU] at this;have l:(V.filter λv=>v.1&&decide (v.2∈cs.map (·.1))).length<=(cs.map λp=>((true,p.1):Vx)).length:=len_sub (JE _ ndV) λv hv=>by
     have:=QK.mp (Qu.mp hv).2;obtain⟨p,hp,e⟩:=Ql.mp (of_decide_eq_true this.2);refine Ql.mpr ⟨p,hp,?_⟩;obtain⟨b,i⟩:=v;have e1:b=true:=this.1;have e2:p.1=i:=e;rw[e1,e2]
    rw[Qd] at l;omega
theorem weak{V:List Vx}{L:List (Int×Int)}{f:Vx->Bool}(a:Apart L)(hV:∀p∈L,((true,p.1):Vx)∈V/\((false,p.2):Vx)∈V)(c:Cov L f):L.length<=cnt V f:=by
 rw[QfU];have:L.length=(L.map λp=>if f (true,p.1)=true then((true,p.1):Vx) else(false,p.2)).length:=by rw[Qd]
 rw[this];refine len_sub (JA.mpr (a.imp λ{p q} h=>?_)) λv hv=>?_
 ·split<;>split<;>intro e
  ·exact h.1 (Y6 e).2
  ·cases(Y6 e).1
  ·cases(Y6 e).1
  ·exact h.2 (Y6 e).2
 ·obtain⟨p,hp,rfl⟩:=Ql.mp hv;split
  ·rename_i z;exact Qu.mpr ⟨(hV p hp).1,z⟩
  ·rename_i z
   exact Qu.mpr ⟨(hV p hp).2,(c p hp).resolve_left z⟩
end Ko
namespace Rk
open L2 _root_.Rd Dl Rt
def toI:Qb->Int
 |.int i=>i
 |_=>0
theorem Qk5:∀{L:List (Int×Int)},L.Pairwise plt->Qbw (L.map pairD)=true
 |[],_=>rfl
 |[_],_=>rfl
 |p::q::L,h=>by
  have h:=Qdy.mp h;show(ltD (pairD p) (pairD q)&&Qbw ((q::L).map pairD))=true;rw[Qor,decide_eq_true (h.1 q (.head _)),Qk5 h.2];rfl
theorem Qrq{h w:Int}{cs L:List (Int×Int)}(hb:∀p∈cs,0<=p.1/\p.1<h/\0<=p.2/\p.2<w)(hin:∀p∈L,p∈cs)(ha:apB L=true)(hp:L.Pairwise plt):QvD h w cs (stT L)=true:=by
 show(((L.map pairD).all (Ql5 h w)&&Qbw (L.map pairD))&&((L.map pairD).all (inC cs)&&apB ((L.map pairD).map toP)))=true;have e1:(L.map pairD).all (Ql5 h w)=true:=Zv.mpr λd hd=>by
  obtain⟨p,hp,rfl⟩:=Ql.mp hd;have:=hb p (hin p hp);exact QvE this.1 this.2.1 this.2.2.1 this.2.2.2
 have e2:(L.map pairD).all (inC cs)=true:=Zv.mpr λd hd=>by
  obtain⟨p,hp,rfl⟩:=Ql.mp hd;unfold inC;rw[QmT];exact decide_eq_true (hin p hp)
 rw[Qgz,ha,Qk5 hp,e1,e2];rfl
theorem QoD{α β:Type}{g:α->Option β}{p:α->Bool}{k:α->β}:∀{xs:List α},(∀x∈xs,g x=if p x=true then some (k x) else none)->xs.filterMap g=(xs.filter p).map k
 |[],_=>rfl
 |x::xs,h=>by
  have ih:=QoD (xs:=xs) λy hy=>h y (.tail _ hy)
  by_cases z:p x=true
  ·rw[List.filterMap_cons_some (by rw[h x (.head _),if_pos z]),ih,Zz z];rfl
  ·rw[List.filterMap_cons_none (by rw[h x (.head _),if_neg z]),ih,ZA z]
@[irreducible] def Qop:List Qb->(Qb->Prop)->Prop:=QsN
theorem QoQ:Qca (λxs H Q=>∃i j,xs=[.int i,.int j]/\Q (.int (if j<i then j else i)) H) Qop:=by unfold Qop;exact QmC
theorem QsM{i j k:Int}{Q:Qb->Prop}(e:(if j<i then j else i)=k)(h:Q (.int k)):Qop [.int i,.int j] Q:=by
 unfold Qop;show Q (.int (if j<i then j else i));rw[e];exact h
theorem QoC(g:Int×Int->Bool)(cs:List (Int×Int)):(cs.map pairD).filterMap (λd=>if g (toP d)=true then some d else none)=(cs.filter g).map pairD:=by
 rw[ZK];exact QoD (p:=g) (k:=pairD) λp _=>rfl
end Rk
namespace Rv
theorem Quf:isSubtype (.type "range_iterator") (.type "reversed")=pure false:=by rw[QbO];kernel_rfl
section
variable{prog:QB}{w:Ji}{A:Q3}{E:Value->Shared->Prop}{s:Shared}
def Qgs(a b:Int):Obj:={ cls:=.type "range_iterator",data:=.fields #[rawInt (a+(Zn a b 1 - 1)*1),rawInt (Zn a b 1),rawInt (-1)] }
theorem Qkb{r:Addr}{j:Int}{t u v:Tok}{Q:Value->Shared->Prop}(hr:IsRange s.heap r 0 j 1 t u v)(h0 : -1000<=j)(h1:j<=1000)
  (h:Q (.ref s.heap.objs.size) { s with heap:=s.heap.push (Qgs 0 j) }):wpAny (model prog w) A (call (.builtin "range.__reversed__") [.ref r]) Q E s:=by
 refine Zd QcN ⟨_,hr,rfl⟩ F.entry_range_reversed ?_ (F.args_range_reversed_1 _)
 unfold YS.«range.__reversed__»;refine Qa (ZB (a:=Z6 r) rfl ?_);refine Qa ?_
 unfold Qw9;refine Qa (Qck hr rfl (x:=.int 0 t) rfl ?_);refine Qa (ZB (a:=some 0) rfl ?_);refine Qa (Qck hr rfl (x:=.int j u) rfl ?_);refine Qa (ZB (a:=some j) rfl ?_);refine Qa (Qck hr rfl (x:=.int 1 v) rfl ?_);refine Qa (ZB (a:=some 1) rfl ?_);refine wpAny_pure ?_
 dsimp only
 have hz:Zn 0 j 1=if 0<j then j else 0:=by rw[Qnc];split<;>omega
 have fit:∀x:Int,-2000<=x->x<=2000->Ju x=true:=λx a b=>by
  unfold Ju;simp only[Jp,decide_eq_true_eq];omega
 have hs:(Ju 0&&Ju j&&Ju 1&&Ju (-1)&&Ju (0 - 1)&&Ju (Zn 0 j 1))=true:=by
  rw[fit 0 (by decide) (by decide),fit j (by omega) (by omega),fit 1 (by decide) (by decide),fit (-1) (by decide) (by decide),fit (0 - 1) (by decide) (by decide),fit _ (by rw[hz];split<;>omega) (by rw[hz];split<;>omega)];rfl
 rw[hs,if_neg (by decide),if_pos rfl];exact Qa (JS (wpAny_pure ⟨_,rfl,h⟩))
theorem QoW{r:Addr}{j:Int}{t u v:Tok}{Q:Value->Shared->Prop}(hr:IsRange s.heap r 0 j 1 t u v)(h0 : -1000<=j)(h1:j<=1000)
  (h:Q (.ref s.heap.objs.size) { s with heap:=s.heap.push (Qgs 0 j) }):codeAny (model prog w) A (.call (.builtin "reversed.__new__") ⟨[.type "reversed",.ref r],[]⟩) (wants Q E) s:=by
 have hT:s.TypeIs (.ref r) "range" := ⟨_,hr,rfl⟩;refine Qdo ?_
 show wpAny _ A.in1 (do checkBuiltinCall "reversed.__new__" ⟨[.type "reversed",.ref r],[]⟩;again (.builtin "reversed.__new__" ⟨[.type "reversed",.ref r],[]⟩)) _ _ s;refine Qa (ZB (F.newCall_reversed_1 _) (wpAny_pure ⟨Yf Qo8 _,J8 F.entry_reversed_new ?_⟩));rw[JK Qo8 _];unfold YS.«reversed.__new__»;refine Qa (ZB (newClass_reversed _) ?_)
 dsimp only
 refine Qa (ZB (a:=()) (by first | rfl | kernel_rfl) ?_);refine Qa (ZB (a:=()) (by first | rfl | kernel_rfl) ?_)
 try dsimp only
 refine Qa (wpAny_specialOf hT QcN.lookup ?_)
 try dsimp only
 refine Qa (ZB (QcN.bind _) ?_)
 try dsimp only
 first
 |rw[if_neg (show ¬((Qhp "range.__reversed__" == ZI)=true) from Qp)]
 |(show wpAny _ _ (if(Qhp "range.__reversed__" == ZI)=true then _ else _) _ _ _;rw[if_neg (show ¬((Qhp "range.__reversed__" == ZI)=true) from Qp)])
 refine Qa (ZP ?_);refine Qa (m:=runValue (.call (.builtin "range.__reversed__") ⟨[.ref r],[]⟩)) (show wpAny _ _ (call (.builtin "range.__reversed__") [.ref r]) _ _ _ from Qkb hr h0 h1 ?_)
 first
 |exact wpAny_pure h
 |exact Qa (wpAny_pure (wpAny_pure h))
theorem QmI{r:Addr}{j:Int}{t u v:Tok}{Q:Value->Shared->Prop}(hr:IsRange s.heap r 0 j 1 t u v)(h0 : -1000<=j)(h1:j<=1000)
  (h:Q (.ref s.heap.objs.size) { s with heap:=s.heap.push (Qgs 0 j) }):wpAny (model prog w) A (call (.type "reversed") [.ref r]) Q E s:=by
 refine callType_other (U := "range_iterator") (Q₁:=λobj s₁=>obj=.ref s.heap.objs.size/\s₁={ s with heap:=s.heap.push (Qgs 0 j) }) (by decide +kernel) F.create_reversed ⟨_,_,F.mro_reversed⟩ F.made_reversed Quf (F.typeCall_reversed_1 _) (QoW hr h0 h1 ⟨rfl,rfl⟩) ?_
 rintro obj s₁ ⟨rfl,rfl⟩;exact⟨⟨_,Qz _ rfl,rfl⟩,h⟩
end
end Rv
namespace L2
def Itv(n:Nat):It:=⟨λi _=>i<n,λi H x H'=>H'=H/\x=.int ((n:Int) - 1 - i),λi _=>n<=i⟩
theorem QkD{P:QB}{w:Ji}{K:PySem.W.Frag}{tg:Q5}(it:Addr)(n:Nat):Turn P w K tg (Itv n) [it] it (λi h=>Qjx h it ((n:Int) - 1+(i:Nat)*(-1)) ((n:Int) - (i:Nat)) (-1)) where
 mem:=by simp
 obj:=λi h st b hb=>by
  have e:b=it:=by simpa using hb
  subst e;exact⟨_,st,λv z=>by
   have z':Data.fields _=Data.cell v:=z;cases z'⟩
 keep:=λi h h' st k=>k it (by simp) _ st
 item:=by
  intro X hP hw hK hc i pins s σ H E I hf st hg;subst hP hw hK;obtain⟨f0,f1,f2,f3,f4,f5⟩:=hf it (by simp);have W:=QwK (prog:=X.prog) (w:=X.w) (I.ok.hd hc) it ((n:Int) - 1) (-1) n;refine W.item i s _ _ hg st λv h' tk hv st' kk=>?_
  obtain⟨t,rfl⟩:=hv;have I1:Inv X pins σ H { s with heap:=h',toks:=tk }:=I.turned (λb o hb e=>kk b o (by simpa using hb) e) f0 f1 f3 f4 f5;refine⟨_,rfl,Qoy (s:={ s with heap:=h',toks:=tk }) (n := "range_iterator") st' rfl rfl (by decide) ⟨.int ((n:Int) - 1 - i),H,I1,⟨t,?_⟩,⟨rfl,rfl⟩,st',λb hb=>(hf b hb).1⟩⟩;rw[show(n:Int) - 1+(i:Int)*(-1)=(n:Int) - 1 - i by omega]
 done:=by
  intro X hP hw hK hc i pins s σ H E I hf st hg;subst hP hw hK;obtain⟨f0,f1,f2,f3,f4,f5⟩:=hf it (by simp);exact Qo0 (I.ok.hd hc) st (by have:n<=i:=hg;omega) λh' eb=>⟨rfl,I.turned (t':=s.toks) (λb o hb e=>eb b o hb e) f0 f1 f3 f4 f5⟩
 self:=λ_ _ _ _ _ st h=>QcL st h
def Qx0(ta:TA):TI:=λσ H R=>ta σ H λvs H1=>∃(r:Addr)(j:Int),vs=[.ref r]/\H1 r=some (.rng 0 j) /\ -1000<=j/\j<=1000/\R (Itv j.toNat) H1
section
variable{X:Cx}{tg:Q5}
theorem QrX{a:Q5}{ta:TA}{p pos:Pos}(hg:Gl X "reversed")(hm:X.mg "reversed" = none)(ha:PA X [a] ta)(hs:starEach [a] X.env=[(false,eval a X.env)]:=by rfl):PI X tg (.Call (.Name "reversed" p) [a] [] pos) (Qx0 ta):=by
 intro pins s σ H R I h;refine Call_ (Qdj I hg hm boot_reversed (Zr (thn (ha pos pins s σ H _ I h) λus s1 ⟨vs,H1,I1,r1,q1⟩=>?_) hs rfl));obtain⟨r,j,e,hr,q1,q2,q⟩:=q1;subst e;obtain⟨u,rfl,ru⟩:=vals1 r1;cases(show u=Z6 r from ru);obtain⟨t1,t2,t3,e⟩:=I1.hok r _ hr;refine Rv.QmI (show IsRange s1.heap r 0 j 1 t1 t2 t3 from e) q1 q2 ?_
 have hz:Zn 0 j 1=((j.toNat:Nat):Int):=by rw[Qnc];split<;>omega
 have it0:Qjx (s1.heap.push (Rv.Qgs 0 j)) s1.heap.objs.size (((j.toNat:Nat):Int) - 1+((0:Nat):Int)*(-1)) (((j.toNat:Nat):Int) - ((0:Nat):Int)) (-1):=by
  have:=Qz (h:=s1.heap) (o:=Rv.Qgs 0 j) rfl;unfold Rv.Qgs at this;rw[hz,show(0:Int)+(((j.toNat:Nat):Int) - 1)*1=((j.toNat:Nat):Int) - 1+((0:Nat):Int)*(-1) by omega] at this;rw[show((j.toNat:Nat):Int) - ((0:Nat):Int)=((j.toNat:Nat):Int) by omega];unfold Rv.Qgs;rw[hz,show(0:Int)+(((j.toNat:Nat):Int) - 1)*1=((j.toNat:Nat):Int) - 1+((0:Nat):Int)*(-1) by omega];exact this
 refine QcL it0 ?_
 refine⟨s1.heap.objs.size,[s1.heap.objs.size],_,_,H1,rfl,I1.kept (t':=s1.toks) λb o e=>Qm _ e,QkD _ j.toNat,it0,λb hb=>?_,q⟩;have e:b=s1.heap.objs.size:=by simpa using hb
 subst e;exact I1.fpOk (Qj _) (I1.hok.fresh (Qj _))
end
section
variable{X:Cx}
def QiI:V->List V->Hp->VK->Prop:=λx vs H Q=>∃l xs y,x=.ref l/\vs=[.int 0,y]/\H l=some (.lst xs)/\xs.length<sizeLine/\Q .non (upd H l (.lst (y::xs)))
theorem QjZ:MtM X "list.insert" QiI:=by
 intro pins s σ H x vs v us Q I rx rv h;obtain⟨l,xs,y,rfl,rfl,hH,hz,q⟩:=h;cases rx;cases rv with
 |cons r0 rv=>
  obtain⟨u,rfl,ru⟩:=Vals.one rv;obtain⟨t,rfl⟩:=r0;obtain⟨z,its,n,r,hl,e⟩:=I.lstM hH;refine Qf8 F.slot_list_insert ⟨_,e,rfl⟩ F.entry_list_insert (F.args_list_insert_3 _ _ _) (AutoSeq1.list_insert_list_int_val_1 l its.toArray n 0 t u (by decide) (by rw[Qq];omega)) ⟨e,?_⟩;refine⟨.non,_,I.lset (its':=u::its) hH e (by simp) (.cons ru r) ?_,rfl,q⟩;rw[QL];omega
end
end L2
namespace Dl
open L2 _root_.Rd Rk
section
variable{X:Cx}{E:XK}{st:Yn}{i:Nat}{we:DE}
def QrC(n:Nat):List Qb:=(Je n).map λ(i:Nat)=>.int ((n:Int) - 1 - i)
theorem QdI(n:Nat):(QrC n).length=n:=by unfold QrC;rw[Qd,Jf]
theorem Qfu{n i:Nat}{d:Qb}(h:(QrC n)[i]? = some d):i<n/\d=.int ((n:Int) - 1 - i):=by
 unfold QrC at h;rw[QF] at h;by_cases z:i<n
 ·rw[Zf z] at h;exact⟨z,(Qs h).symm⟩
 ·rw[JR (by rw[Jf];omega)] at h;cases h
def Qyf(w:DE):DI:=λδ Q EX=>w δ (λd=>match d with
 |.int j=>(-1000<=j/\j<=1000)/\Q (QrC j.toNat)
 |_=>False) EX
theorem QxW{A S:Addr->Prop}{n:Nat}{H1:Hp}(h:n<=sizeLine):ItD A S (Itv n) (QrC n) H1:=by
 refine⟨by rw[QdI];exact h,λH2 A' _ _ _=>⟨λi d hd=>?_,?_⟩⟩
 ·obtain⟨hi,rfl⟩:=Qfu hd;refine⟨hi,λx H3 hy=>?_⟩;obtain⟨rfl,rfl⟩:=hy;exact⟨Same.refl _,.int _⟩
 ·show n<=(QrC n).length;rw[QdI];exact Qj _
theorem Qlh{m:Md}{tg e:Q5}{w:DE}{p p2 pos pos2:Pos}(hg:Gl X "reversed")(hm:X.mg "reversed" = none)(hg2:Gl X "range")(hm2:X.mg "range" = none)(h:QE .P X E e w)(hs:notStar e=true:=by rfl):QI m X E tg (.Call (.Name "reversed" p) [.Call (.Name "range" p2) [e] [] pos2] [] pos) (Qyf w):=⟨by
 refine PI.imp (QrX hg hm (Qd3 (QnO hg2 hm2 (Qd3 h.h Z5 hs) (by rw[YB hs];rfl)) Z5)) λσ H R _ ⟨F,δ,R',EX,rel,hw,k,o⟩=>?_
 refine⟨F,δ,_,EX,rel,hw,λd hd v H' rel' kp vk=>?_,o⟩;cases d<;>first | exact(show False from hd).elim | skip
 obtain⟨⟨h1,h2⟩,hR⟩:=hd;rw[DP.int vk];exact⟨_,rfl,λr H2 s2 n2 e2=>⟨r,_,rfl,e2,h1,h2,k _ hR _ H2 (rel'.same s2) (kp.trans (Kp.same rel' s2)) (QxW (Ys (Rk.Qc2 (by omega))))⟩⟩⟩
def Qye(i:Nat)(we:DE):DS:=λD δ=>match δ[i]? with
 |some (.own ds)=>we δ (λd=>ds.length<1000000/\D.nx (δ.set i (.own (d::ds)))) D.ex
 |_=>False
theorem Qsd(h:PS X st (Qnr (tBM X.K "list" QiI (Qix i) (Qgk (tX .D X.K E (dC (.int 0))) (Qgk (tX .D X.K E we) Qub))))):PS X st (tS X.K E (Qye i we)):=by
 refine PS.imp h λD σ H ⟨F,δ,DD,rel,hw,en⟩=>?_
 unfold Qye at hw;split at hw
 ·rename_i ds hd
  obtain⟨x,hx⟩:=rel.lt hd;obtain⟨l,xs,rfl,e,q,f⟩:=rel.sl i _ _ hx hd;have np:=rel.own_pot hd hx;refine⟨.ref l,hx,.inl ⟨rfl,_,SqL.of e⟩,F,δ,(λd=>d=.int 0),DD.ex,rel,rfl,λd hd0 v0 H0 rel0 kp0 vk0=>?_,en.ex⟩;subst hd0;cases vk0;refine⟨F,δ,_,DD.ex,rel0,hw,λd ⟨hl,hn⟩ v H' rel' kp vk=>?_,en.ex⟩;have kk:=kp0.trans kp;have q':=kk.das q;refine⟨l,xs,v,rfl,rfl,kk.1 _ _ np e,Q0 (by rw[q.length];exact hl) Qj1,?_⟩;obtain⟨r2,st⟩:=rel'.mut hd hx (.cons vk q');exact en.nx.go _ hn _ _ r2 ((Stp.kp kk).trans st)
 ·exact hw.elim
theorem QuA{y:Str}{e e0:Q5}{we:DE}{apos cpos pos npos:Pos}(i:Nat)(h0:QE .D X E e0 (dC (.int 0)))(he:QE .D X E e we)(hN:X.N[i]? = some y:=by rfl)(hv:Vis X.env.scope y:=by first | exact Jc rfl | exact Q8 (Jc rfl) | exact Q8 (Q8 rfl))(hd:(y == ("__debug__" : Str))=false:=by decide)(hcd:(y == ("__classdict__" : Str))=false:=by decide)(hs0:notStar e0=true:=by rfl)(hst:notStar e=true:=by rfl)(hbase:attributeBase (.Name y npos) "insert" X.env (eval (.Name y npos) X.env)=eval (.Name y npos) X.env:=by rfl)(hfew:((backTo cpos (starEach [e0,e] X.env)).all (λx => !x.1)&&(backToKw cpos (keywordEach [] X.env)).all (λx=>x.1.isSome)&&decide ([e0,e].length+([]:List Qjw).length+(if([]:List Qjw).isEmpty then 0 else 1)<30))=true:=by rfl)(hline:(apos.endLine == cpos.line)=true:=by rfl)(hsw:swapsWith (.Call (.Attribute (.Name y npos) "insert" apos) [e0,e] [] cpos) none pos.line X.env=pure false:=by rfl):QS X E (.Expr (.Call (.Attribute (.Name y npos) "insert" apos) [e0,e] [] cpos) pos) (Qye i we):=⟨Qsd (QhI (QuQ PySem.F.plainAttrs_list PySem.F.slot_list_insert PySem.F.type_list_insert QjZ (pv i hN hv hd hcd) (Qd3 h0.h (Qd3 he.h Z5 hst) hs0) hbase hfew hline (YB hs0) (by rw[YB hst];rfl)) hsw)⟩
end
end Dl
namespace Rk
open L2 _root_.Rd Dl Rt
def Qns(B:Nat->Nat->Int)(t:Nat):List Nat->Nat->Int
 |[],_=>0
 |c::cs,k=>(if t.testBit c=true then 0 else B (t ||| 2^c) k)+Qns B t cs k
theorem QdY(B:Nat->Nat->Int)(t c k:Nat):∀cs:List Nat,Qns B t (cs++[c]) k=Qns B t cs k+(if t.testBit c=true then 0 else B (t ||| 2^c) k)
 |[]=>by show _+0=0+_;omega
 |d::cs=>by
  show _+Qns B t (cs++[c]) k=_+Qns B t cs k+_;rw[QdY B t c k cs];omega
def QdH(h:Nat)(F:Nat->Int):List Qb:=(Je (h+1)).map λ(k:Nat)=>.int (F k)
def QhA(h w:Nat)(B:Nat->Nat->Int):List Qb:=(Je (2^w)).map λ(t:Nat)=>.list (QdH h (B t))
def stepB(B:Nat->Nat->Int)(cols:List Nat)(t k:Nat):Int:=B t k+if k=0 then 0 else Qns B t cols (k - 1)
def Qm8(cs:List (Int×Int))(r:Nat):List Nat:=(Qf6 cs r).map λp=>p.2.toNat
def Wc(cs:List (Int×Int))(h:Nat):Nat->Nat->Nat->Int
 |0,_,k=>if k=0 then 1 else 0
 |i+1,t,k=>stepB (Wc cs h i) (Qm8 cs (h - 1 - i)) t k
def Qiv(cs:List (Int×Int))(h w:Nat):Nat->List Qb
 |0=>[.list (QhA h w (Wc cs h 0))]
 |i+1=>.list (QhA h w (Wc cs h (i+1)))::Qiv cs h w i
def QsX(ns:List Nat):List Qb:=ns.map λ(c:Nat)=>.int (c:Int)
def Qkn(cs:List (Int×Int))(h w:Nat):List Qb:=(Je (min h w+1)).map λ(k:Nat)=>.int (Wc cs h h 0 k)
def Qoo:DF:=λargs R _=>∃(h w:Nat)(cs:List (Int×Int)),args=[.v (bdD h w cs)]/\R (.int ((min h w:Nat):Int))
def Qrb:DF:=λargs R _=>∃(h w:Nat)(B:Nat->Nat->Int)(cols:List Nat)(t:Nat),args=[.v (.list (QhA h w B)),.v (.list (QsX cols)),.v (.int t)]/\t<2^w/\(∀c∈cols,c<w)/\h<=6/\w<=6/\R (.list (QdH h (stepB B cols t)))
def Qnk:DF:=λargs R _=>∃(h w:Nat)(cs:List (Int×Int)),args=[.v (bdD h w cs)]/\h<=6/\w<=6/\(∀p∈cs,0<=p.2/\p.2<w)/\R (.list (Qiv cs h w h))
def Qh7:DF:=λargs R _=>∃(h w:Nat)(cs:List (Int×Int)),args=[.v (bdD h w cs)]/\h<=6/\w<=6/\(∀p∈cs,0<=p.2/\p.2<w)/\R (.list (Qkn cs h w))
theorem Qbv{h k:Nat}{F:Nat->Int}(hk:k<=h):(QdH h F)[k]? = some (.int (F k)):=by
 unfold QdH;rw[QF,Zf (by omega)];rfl
theorem QbI(h:Nat)(F:Nat->Int):(QdH h F).length=h+1:=by unfold QdH;rw[Qd,Jf]
theorem QdW{h w t:Nat}{B:Nat->Nat->Int}(ht:t<2^w):(QhA h w B)[t]? = some (.list (QdH h (B t))):=by
 unfold QhA;rw[QF,Zf ht];rfl
theorem QaV{h:Nat}{F G:Nat->Int}(e:∀k,k<=h->F k=G k):QdH h F=QdH h G:=by
 unfold QdH;refine Z1 λk hk=>?_
 rw[e k (by have:=Js.mp hk;omega)]
theorem QnD{h j:Nat}{F:Nat->Int}{v:Int}(hj:j<=h):(QdH h F).set j (.int v)=QdH h (λk=>if k=j then v else F k):=by
 apply Qah
 intro k;rw[Qo6];by_cases z:j=k
 ·subst z;rw[if_pos rfl,if_pos (by rw[QbI];omega),Qbv hj,if_pos rfl]
 ·rw[if_neg z];by_cases z2:k<=h
  ·rw[Qbv z2,Qbv z2,if_neg (λe=>z e.symm)]
  ·rw[JR (by rw[QbI];omega),JR (by rw[QbI];omega)]
theorem cut_last(xs:List Qb):Dl.cutD xs none (some (-1))=xs.take (xs.length - 1):=by
 unfold Dl.cutD;rw[HT.QiE,Zj,Qku]
 congr 1
 have e:HT.sIx xs.length xs.length (some (-1))=((-1:Int)+(xs.length:Int)).toNat:=by unfold HT.sIx;dsimp only;rw[if_pos (by decide)]
 rw[e];omega
theorem Qtt:∀t:Fin 64,∀c:Fin 6,Jk ((t:Nat):Int) (1*2^((c:Nat):Int).toNat)=if(t:Nat).testBit c=true then 2^(c:Nat) else 0:=by decide +kernel
theorem Qwb:∀t:Fin 64,∀c:Fin 6,QcO ((t:Nat):Int) (1*2^((c:Nat):Int).toNat)=(((t:Nat) ||| 2^(c:Nat):Nat):Int):=by decide +kernel
theorem Qu6{t c w:Nat}(ht:t<2^w)(hc:c<w):t ||| 2^c<2^w:=Nat.or_lt_two_pow ht (Nat.pow_lt_pow_right (by decide) hc)
theorem QnF(h:Nat)(F:Nat->Int):Dl.cutD (QdH h F) none (some (-1))=(Je h).map λ(k:Nat)=>Qe (F k):=by
 rw[cut_last,QbI];unfold QdH;rw[<- Qwq,QdQ,QtG,Y8 (Nat.le_succ h)]
theorem Qtu{t c w:Nat}(ht:t<2^w)(hc:c<w)(w6:w<=6):Jk (t:Int) (1*2^((c:Nat):Int).toNat)=if t.testBit c=true then 2^c else 0:=by
 have h64:2^w<=2^6:=ZV (by decide) w6;exact Qtt ⟨t,by have e:2^6=64:=rfl;omega⟩ ⟨c,by omega⟩
theorem Qu7{t c w:Nat}(ht:t<2^w)(hc:c<w)(w6:w<=6):QcO (t:Int) (1*2^((c:Nat):Int).toNat)=((t ||| 2^c:Nat):Int):=by
 have h64:2^w<=2^6:=ZV (by decide) w6;exact Qwb ⟨t,by have e:2^6=64:=rfl;omega⟩ ⟨c,by omega⟩
theorem QfA(w:Nat):(1*2^((w:Nat):Int).toNat:Int)=((2^w:Nat):Int):=by
 rw[Qni,QU];simp
theorem Qv6(cs:List (Int×Int))(r:Nat)(hb:∀p∈cs,0<=p.2):(cs.map pairD).filterMap (λd=>if(toP d).1=(r:Int) then some (.int (toP d).2) else none)=QsX (Qm8 cs r):=by
 unfold QsX Qm8 Qf6;rw[ZK,QP];refine QoD (p:=λp:Int×Int=>decide (p.1=(r:Int))) λp hp=>?_
 show(if p.1=(r:Int) then some (Qe p.2) else none)=if decide (p.1=(r:Int))=true then some (Qe ((p.2.toNat:Nat):Int)) else none
 rw[show((p.2.toNat:Nat):Int)=p.2 by have:=hb p hp;omega];by_cases z:p.1=(r:Int)
 ·rw[if_pos z,if_pos (decide_eq_true z)]
 ·rw[if_neg z,if_neg (by simpa using z)]
theorem Qth{cs:List (Int×Int)}{w r c:Nat}(hb:∀p∈cs,0<=p.2/\p.2<w)(h:c∈Qm8 cs r):c<w:=by
 unfold Qm8 Qf6 at h;obtain⟨p,hp,rfl⟩:=Ql.mp h;have:=hb p (Qu.mp hp).1;omega
theorem Qit(cs:List (Int×Int))(h w:Nat):∀i,(Qiv cs h w i).length=i+1
 |0=>rfl
 |i+1=>by show(Qiv cs h w i).length+1=_;rw[Qit cs h w i]
theorem Qhz(cs:List (Int×Int))(h w:Nat):∀i,(Qiv cs h w i)[0]? = some (.list (QhA h w (Wc cs h i)))
 |0=>rfl
 |_+1=>rfl
theorem QnE(cs:List (Int×Int))(h t:Nat):QdH h (Wc cs h 0 t)=Qe 1::Jb h (.int 0):=by
 apply Qah
 intro k;cases k with
 |zero=>rw[Qbv (Qr _)];rfl
 |succ k=>
  by_cases z:k+1<=h
  ·rw[Qbv z,Z3,Z2,if_pos (by omega)];rfl
  ·rw[JR (by rw[QbI];omega),Z3,Z2,if_neg (by omega)]
theorem QrE(h:Nat):(Jb h [Qe 0]).flatten=Jb h (.int 0):=by
 induction h with
 |zero=>rfl
 |succ h ih=>rw[Ze,ZX,ih];rfl
theorem Qpm{w:Nat}(h:w<=6) : -1000000<=(1*2^((w:Nat):Int).toNat:Int)/\(1*2^((w:Nat):Int).toNat:Int)<=1000000:=by
 have p64:2^w<=64:=ZV (n:=2) (by decide) h;rw[QfA];generalize 2^w=x at p64;omega
def sumZ{α:Type}(f:α->Int):List α->Int
 |[]=>0
 |x::xs=>f x+sumZ f xs
theorem Qfl{α:Type}(f:α->Int):∀a b:List α,sumZ f (a++b)=sumZ f a+sumZ f b
 |[],b=>by show _=0+_;rw[QeE];rfl
 |x::a,b=>by show _+sumZ f (a++b)=_+sumZ f a+_;rw[Qfl f a b];omega
theorem Qgl{α β:Type}(f:β->Int)(g:α->List β):∀a:List α,sumZ f (a.flatMap g)=sumZ (λx=>sumZ f (g x)) a
 |[]=>rfl
 |x::a=>by rw[ZY,Qfl,Qgl f g a];rfl
theorem YC{α:Type}{f g:α->Int}:∀{a:List α},(∀x∈a,f x=g x)->sumZ f a=sumZ g a
 |[],_=>rfl
 |x::a,h=>by show f x+_=g x+_;rw[h x (.head _),YC λy hy=>h y (.tail _ hy)]
theorem Qfm{α:Type}(f g:α->Int):∀a:List α,sumZ (λx=>f x+g x) a=sumZ f a+sumZ g a
 |[]=>rfl
 |x::a=>by show(f x+g x)+sumZ _ a=f x+sumZ f a+(g x+sumZ g a);rw[Qfm f g a];omega
theorem YX{α:Type}(f:α->Int)(p:α->Bool):∀a:List α,sumZ f (a.filter p)=sumZ (λx=>if p x=true then f x else 0) a
 |[]=>rfl
 |x::a=>by
  by_cases z:p x=true
  ·rw[Zz z];show f x+_=(if p x=true then f x else 0)+_;rw[if_pos z,YX f p a]
  ·rw[ZA z];show _=(if p x=true then f x else 0)+_;rw[if_neg z,YX f p a,QeE]
theorem Qiy{α β:Type}(f:β->Int)(g:α->β):∀a:List α,sumZ f (a.map g)=sumZ (λx=>f (g x)) a
 |[]=>rfl
 |x::a=>by show _+sumZ f (a.map g)=_+_;rw[Qiy f g a]
theorem sumZ_zero{α:Type}:∀a:List α,sumZ (λ_=>0) a=0
 |[]=>rfl
 |x::a=>by show 0+sumZ _ a=0;rw[sumZ_zero a];rfl
theorem QeG{α:Type}(p:α->Bool):∀a:List α,sumZ (λx=>if p x=true then 1 else 0) a=((a.countP p:Nat):Int)
 |[]=>rfl
 |x::a=>by
  show(if p x=true then 1 else 0)+_=_;rw[QeG p a];by_cases z:p x=true
  ·rw[if_pos z,List.countP_cons_of_pos z];omega
  ·rw[if_neg z,List.countP_cons_of_neg z];omega
theorem QdX{α:Type}(B:Nat->Nat->Int)(t k:Nat)(g:α->Nat):∀a:List α,Qns B t (a.map g) k=sumZ (λx=>if t.testBit (g x)=true then 0 else B (t ||| 2^g x) k) a
 |[]=>rfl
 |x::a=>by show _+Qns B t (a.map g) k=_+_;rw[QdX B t k g a]
def mkL(L:List (Int×Int)):Nat:=L.foldl (λt p=>t ||| 2^p.2.toNat) 0
theorem QdM(L:List (Int×Int))(p:Int×Int):mkL (L++[p])=mkL L ||| 2^p.2.toNat:=by
 unfold mkL;rw[List.foldl_append];rfl
theorem Qjl(c:Nat):∀(L:List (Int×Int))(t:Nat),(L.foldl (λt p=>t ||| 2^p.2.toNat) t).testBit c=(t.testBit c||decide (c∈L.map λp=>p.2.toNat))
 |[],t=>by simp
 |p::L,t=>by
  rw[Qce,Qjl c L,Qwo,Qnh,Bool.or_assoc]
  congr 1
  rw[Jh,ZE];simp only[Qch,decide_eq_true_eq,Qy];constructor
  ·rintro(z | z)
   ·exact .inl z.symm
   ·exact .inr z
  ·rintro(z | z)
   ·exact .inl z.symm
   ·exact .inr z
theorem Qf0(L:List (Int×Int))(c:Nat):(mkL L).testBit c=decide (c∈L.map λp=>p.2.toNat):=by
 unfold mkL;rw[Qjl];simp
theorem QdF{cs:List (Int×Int)}:∀i,∀L∈Qci cs i,∀p∈L,p∈cs
 |0,L,h,p,hp=>by rw[QC.mp h] at hp;cases hp
 |i+1,L,h,p,hp=>by
  rcases QX.mp (show L∈Qci cs i++(Qci cs i).flatMap (Qh4 (Qf6 cs i)) from h) with z | z
  ·exact QdF i L z p hp
  ·obtain⟨M,hM,hL⟩:=Z8.mp z;obtain⟨c,hc,_,rfl⟩:=QaK.mp hL;rcases QX.mp hp with y | y
   ·exact QdF i M hM p y
   ·rw[QC.mp y];exact(Qu.mp hc).1
theorem QhU{L:List (Int×Int)}{c:Int×Int}(hL:∀p∈L,0<=p.2)(hc:0<=c.2):(c.2.toNat∈L.map λp=>p.2.toNat)↔c.2∈L.map (·.2):=by
 rw[Ql,Ql];constructor
 ·rintro⟨p,hp,e⟩;refine⟨p,hp,?_⟩;have:=hL p hp;have e:p.2.toNat=c.2.toNat:=e;show p.2=c.2;omega
 ·rintro⟨p,hp,e⟩;exact⟨p,hp,by show p.2.toNat=c.2.toNat;rw[show p.2=c.2 from e]⟩
def trm(cs:List (Int×Int))(h r k:Nat)(L:List (Int×Int)):Int:=if L.length<=k then Wc cs h (h - r) (mkL L) (k - L.length) else 0
theorem Qno{cs:List (Int×Int)}{h r k:Nat}(hr:r<h)(hb:∀p∈cs,0<=p.2){L:List (Int×Int)}(hL:∀p∈L,p∈cs) :
  trm cs h r k L=trm cs h (r+1) k L+sumZ (trm cs h (r+1) k) (Qh4 (Qf6 cs r) L):=by
 have e1:h - r=(h - (r+1))+1:=by omega
 have e2:h - 1 - (h - (r+1))=r:=by omega
 unfold Qh4;rw[Qiy,YX];unfold trm;rw[e1];by_cases z:L.length<=k
 ·rw[if_pos z,if_pos z];show stepB (Wc cs h (h - (r+1))) (Qm8 cs (h - 1 - (h - (r+1)))) (mkL L) (k - L.length)=_;rw[e2];unfold stepB
  congr 1
  by_cases z2:k - L.length=0
  ·rw[if_pos z2];refine(Eq.trans (YC (g:=λ_=>0) λc hc=>?_) (sumZ_zero _)).symm;rw[Qo,if_neg (show ¬(L.length+[c].length<=k) by show ¬(L.length+1<=k);omega)];split<;>rfl
  ·rw[if_neg z2];unfold Qm8;rw[QdX];refine YC λc hc=>?_
   have hc':=hb c (Qu.mp hc).1;rw[Qf0,QdM,Qo,if_pos (show L.length+[c].length<=k by show L.length+1<=k;omega)];have em:=QhU (c:=c) (λp hp=>hb p (hL p hp)) hc';by_cases y:c.2∈L.map (·.2)
   ·rw[if_pos (decide_eq_true (em.mpr y)),if_neg (by simpa using y)]
   ·rw[if_neg (by rw[decide_eq_true_eq];exact λq=>y (em.mp q)),if_pos (by simpa using y)];show _=Wc cs h (h - (r+1)) _ (k - (L.length+1));rw[show k - L.length - 1=k - (L.length+1) by omega]
 ·rw[if_neg z,if_neg z,QeE];refine(Eq.trans (YC (g:=λ_=>0) λc hc=>?_) (sumZ_zero _)).symm;rw[Qo,if_neg (show ¬(L.length+[c].length<=k) by show ¬(L.length+1<=k);omega)];split<;>rfl
theorem Qir{cs:List (Int×Int)}{h k:Nat}(hb:∀p∈cs,0<=p.2):∀r,r<=h->sumZ (trm cs h r k) (Qci cs r)=Wc cs h h 0 k
 |0,_=>by
  show(if 0<=k then Wc cs h (h - 0) (mkL []) (k - 0) else 0)+0=_;rw[if_pos (Qr _),Qco];rfl
 |r+1,hr=>by
  rw[<- Qir hb r (by omega)];show sumZ _ (Qci cs r++(Qci cs r).flatMap (Qh4 (Qf6 cs r)))=_;rw[Qfl,Qgl,<- Qfm];exact(YC λL hL=>Qno (by omega) hb (QdF r L hL)).symm
def Qyi(cs:List (Int×Int))(h k:Nat):Int:=(((Qci cs h).countP λL=>L.length == k:Nat):Int)
theorem QoM{cs:List (Int×Int)}{h:Nat}(hb:∀p∈cs,0<=p.2)(k:Nat):Qyi cs h k=Wc cs h h 0 k:=by
 rw[<- Qir (k:=k) hb h (Qj _)];unfold Qyi;rw[<- QeG];refine YC λL _=>?_
 unfold trm;rw[QeB];show(if(L.length == k)=true then 1 else 0)=if L.length<=k then(if k - L.length=0 then 1 else 0) else 0
 by_cases z:L.length=k
 ·rw[if_pos (by simpa using z),if_pos (by omega),if_pos (by omega)]
 ·rw[if_neg (by simpa using z)];by_cases z2:L.length<=k
  ·rw[if_pos z2,if_neg (by omega)]
  ·rw[if_neg z2]
theorem QfC:∀(w:Nat)(l:List Nat),l.Nodup->(∀x∈l,x<w)->l.length<=w
 |0,l,_,h=>by
  cases l with
  |nil=>exact Qj _
  |cons a l=>exact absurd (h a (.head _)) (QtP _)
 |w+1,l,nd,h=>by
  by_cases z:w∈l
  ·have h1:=QfC w (l.erase w) (nd.erase w) λx hx=>by
    have:=h x (List.mem_of_mem_erase hx);have hne:x≠w:=λe=>by subst e;exact(List.Nodup.not_mem_erase nd) hx
    omega
   have h2:=Qbr z;omega
  ·have h1:=QfC w l nd λx hx=>by
    have:=h x hx;have hne:x≠w:=λe=>by subst e;exact z hx
    omega
   omega
theorem QhB{cs:List (Int×Int)}:∀i,∀L∈Qci cs i,(L.map (·.2)).Nodup
 |0,L,h=>by rw[QC.mp h];exact .nil
 |i+1,L,h=>by
  rcases QX.mp (show L∈Qci cs i++(Qci cs i).flatMap (Qh4 (Qf6 cs i)) from h) with z | z
  ·exact QhB i L z
  ·obtain⟨M,hM,hL⟩:=Z8.mp z;obtain⟨c,_,hn,rfl⟩:=QaK.mp hL;rw[Jm];refine JX.mpr ⟨QhB i M hM,by simp,λa h1 b h2 e=>?_⟩;have h2:b=c.2:=by simpa using h2
   rw[e,h2] at h1;exact hn h1
theorem QkJ{cs:List (Int×Int)}{w i:Nat}(hb:∀p∈cs,0<=p.2/\p.2<w){L:List (Int×Int)}(h:L∈Qci cs i):L.length<=w:=by
 have nd:=QhB i L h;have hs:=QdF i L h;have h1:=QfC w (L.map λp=>p.2.toNat) ?_ λx hx=>?_
 ·rwa [Qd] at h1
 ·have e:(L.map λp=>p.2.toNat)=(L.map (·.2)).map Int.toNat:=by rw[QP];rfl
  rw[e];refine JA.mpr (QaG (λ{a b} ha hb' hne hz=>hne ?_) nd);obtain⟨p,hp,rfl⟩:=Ql.mp ha;obtain⟨q,hq,rfl⟩:=Ql.mp hb';have:=hb p (hs p hp);have:=hb q (hs q hq);show p.2=q.2;have hz:p.2.toNat=q.2.toNat:=hz;omega
 ·obtain⟨p,hp,rfl⟩:=Ql.mp hx;have:=hb p (hs p hp);omega
theorem QoO{cs:List (Int×Int)}{h w:Nat}{d:Qb}(hd:d∈Qkn cs h w):∃i,d=.int i:=by
 unfold Qkn at hd;obtain⟨k,_,rfl⟩:=Ql.mp hd;exact⟨_,rfl⟩
theorem QoN(cs:List (Int×Int))(h w:Nat):(Qkn cs h w).length=min h w+1:=by unfold Qkn;rw[Qd,Jf]
end Rk
namespace L2
section
variable{X:Cx}
def Quw(K:PySem.W.Frag):List V->Hp->VK->Prop:=λxs H Q=>∃(p:Addr)(ns:List Int),xs=[.ref p]/\SqL K H p (ns.map V.int)/\0<ns.length/\∀m,m∈ns->(∀y∈ns,y<=m)->Q (.int m) H
theorem QmG(hc:X.calm=true):CallR X (.builtin "max") (Quw X.K):=by
 intro pins s σ H xs us Q I r h;obtain⟨p,ns,rfl,hp,hn,q⟩:=h;obtain⟨u,rfl,ru⟩:=vals1 r;cases ru;obtain⟨its,rv,pl,hz⟩:=I.list hp;have hi:IntsAre its ns:=intsAre_of rv;obtain⟨ys,hx⟩:=hi.allInts.items;have hl':s.heap.IsList p (intItems ys):=hx ▸ pl.isList;have hsz:ys.size=ns.length:=by
  have h1:its.toArray.size=(intItems ys).size:=by rw[hx]
  rw[Qq,hi.length] at h1;simp[intItems] at h1;omega
 have num:∀j m,ns[j]? = some m->numAt ys j=m:=λj m e=>by
  obtain⟨w,hw,rw'⟩:=rv.get (i:=j) (x:=V.int m) (by rw[QF,e];rfl);have h2:(intItems ys)[j]? = some w:=by rw[<- hx,Qkj];exact hw
  unfold intItems at h2;rw[Array.getElem?_map] at h2;obtain⟨y,hy,ey⟩:=J7.mp h2;unfold numAt;rw[hy];subst ey;obtain⟨t,et⟩:=rw';cases et;rfl
 refine max_intList (I.ok.hd hc) hl' (by omega) λv h' tk hv hk=>?_
 rw[<- hx] at hv;rw[Qkj] at hv;have ab:=argBest_gt (numAt ys) (ys.size - 1);generalize argBest (λi j=>decide (numAt ys i > numAt ys j)) (ys.size - 1)=b at *;obtain⟨x,hx2,rx⟩:∃x,(ns.map V.int)[b]? = some x/\RelV x v:=by
  have hlen:=rv.length;have hlt:=(QQ.mp hv).1;cases e:(ns.map V.int)[b]? with
  |none=>
   have:=List.getElem?_eq_none_iff.mp e
   omega
  |some x=>
   obtain⟨w,hw,rw'⟩:=rv.get e;rw[hw] at hv;cases hv;exact⟨x,rfl,rw'⟩
 rw[QF] at hx2;obtain⟨m,hm,rfl⟩:=J7.mp hx2;refine⟨.int m,H,I.kept hk,rx,q m (Jx hm) λy hy=>?_⟩;obtain⟨j,hj⟩:=Jn.mp hy;have hjl:=(QQ.mp hj).1;have:=ab.2 j (by omega);rw[num b m hm,num j y hj] at this;exact this
end
end L2
namespace Dl
open L2 _root_.Rd Rk
@[irreducible] def Qoq:List Qb->(Qb->Prop)->Prop
 |[.list ds],Q=>∃ns,QbY ds=some ns/\0<ns.length/\∀m,m∈ns->(∀y∈ns,y<=m)->Q (.int m)
 |_,_=>False
theorem Qtn{K:PySem.W.Frag}:Qca (Quw K) Qoq:=λA P H vs ds R Q ln dm q h k=>by
 unfold Qoq at h;split at h
 ·obtain⟨v,rfl,hv⟩:=pd1 q;obtain⟨bs,hb,h0,hR⟩:=h;rw[QfK hb] at hv;obtain⟨l,xs,rfl,e,qq⟩:=hv.list;rw[Qbc qq] at e;exact⟨l,bs,rfl,SqL.of e,h0,λm h1 h2=>k _ (hR m h1 h2) _ H (Same.refl H) (.int _) Ym⟩
 ·exact h.elim
theorem QsO{ns:List Int}{Q:Qb->Prop}(h:0<ns.length)(k:∀m,m∈ns->(∀y∈ns,y<=m)->Q (.int m)):Qoq [.list (ns.map Qe)] Q:=by
 unfold Qoq;exact⟨ns,ints_map ns,h,k⟩
end Dl
namespace Rk
open L2 _root_.Rd Dl Rt
theorem Qe6{α β:Type}{f g:α->List β}:∀{xs:List α},(∀x∈xs,f x=g x)->xs.flatMap f=xs.flatMap g
 |[],_=>rfl
 |x::xs,h=>by rw[ZY,ZY,h x (.head _),Qe6 λy hy=>h y (.tail _ hy)]
def Great(cs:List (Int×Int))(h w m:Nat):Prop:=m<=min h w/\0<Wc cs h h 0 m/\∀k,k<=min h w->0<Wc cs h h 0 k->k<=m
def Bds(h w:Nat)(cs:List (Int×Int)):Prop:=h<=6/\w<=6/\∀p∈cs,0<=p.1/\p.1<h/\0<=p.2/\p.2<w
def Qmb:DF:=λargs R _=>∃(h w:Nat)(cs:List (Int×Int)),args=[.v (bdD h w cs)]/\Bds h w cs/\∀m,Great cs h w m->R (.int (m:Int))
theorem Bds.col{h w:Nat}{cs:List (Int×Int)}(b:Bds h w cs):∀p∈cs,0<=p.2/\p.2<(w:Int):=λp hp=>(b.2.2 p hp).2.2
theorem Bds.nn{h w:Nat}{cs:List (Int×Int)}(b:Bds h w cs):∀p∈cs,0<=p.2:=λp hp=>(b.2.2 p hp).2.2.1
theorem QpV(cs:List (Int×Int))(h:Nat):∀i t,Wc cs h i t 0=1
 |0,_=>rfl
 |i+1,t=>by
  show Wc cs h i t 0+(if 0=0 then 0 else _)=1;rw[if_pos rfl,QpV cs h i t];rfl
def Qpz:List (Int×Int)->List (Int×Int)->Prop
 |[],[]=>False
 |[],_::_=>True
 |_::_,[]=>False
 |p::L,q::M=>plt p q∨(p=q/\Qpz L M)
theorem QlX:∀L:List (Int×Int),¬Qpz L L
 |[],h=>h
 |p::L,h=>by
  rcases h with z | z
  ·rcases z with z | z<;>omega
  ·exact QlX L z.2
theorem QlY:∀{S T:List (Int×Int)}(c d:Int×Int),S.length=T.length->Qpz S T->Qpz (S++[c]) (T++[d])
 |[],[],_,_,_,h=>h.elim
 |[],_::_,_,_,e,_=>by cases e
 |_::_,[],_,_,e,_=>by cases e
 |p::S,q::T,c,d,e,h=>by
  rcases h with z | z
  ·exact .inl z
  ·exact .inr ⟨z.1,QlY c d (by simpa using e) z.2⟩
theorem QiV:∀(S:List (Int×Int)){c d:Int×Int},plt c d->Qpz (S++[c]) (S++[d])
 |[],c,d,h=>.inl h
 |p::S,c,d,h=>.inr ⟨rfl,QiV S h⟩
def rbI(S:List (Int×Int)):Int:=match S.getLast? with
 |some c=>c.1+1
 |none=>0
def fol(cs S:List (Int×Int)):List (Int×Int):=cs.filter λc=>decide (rbI S<=c.1) && !decide (c.2∈S.map (·.2))
def evS(cs:List (Int×Int)):Nat->List (List (Int×Int))
 |0=>[[]]
 |k+1=>(evS cs k).flatMap λS=>(fol cs S).map λc=>S++[c]
structure Std (cs L:List (Int×Int)):Prop where
 sub:∀p∈L,p∈cs
 rows:L.Pairwise λp q=>p.1<q.1
 cols:(L.map (·.2)).Nodup
theorem Std.nil{cs:List (Int×Int)}:Std cs []:=⟨λp hp=>(nomatch hp),.nil,.nil⟩
theorem Std.init{cs S:List (Int×Int)}{c:Int×Int}(h:Std cs (S++[c])):Std cs S/\c∈cs/\(∀p∈S,p.1<c.1)/\c.2∉S.map (·.2):=by
 have r:=Q9.mp h.rows;have k:=h.cols;rw[Jm] at k;have k:=JX.mp k;refine⟨⟨λp hp=>h.sub p (J5 _ hp),r.1,k.1⟩,h.sub c (by simp),λp hp=>r.2.2 p hp c (by simp),λz=>?_⟩;exact k.2.2 c.2 z c.2 (by simp) rfl
theorem Std.snoc{cs S:List (Int×Int)}{c:Int×Int}(h:Std cs S)(h1:c∈cs)(h2:∀p∈S,p.1<c.1)(h3:c.2∉S.map (·.2)):Std cs (S++[c]):=by
 refine⟨λp hp=>?_,Q9.mpr ⟨h.rows,by simp,λp hp q hq=>?_⟩,?_⟩
 ·rcases QX.mp hp with z | z
  ·exact h.sub p z
  ·rw[QC.mp z];exact h1
 ·rw[QC.mp hq];exact h2 p hp
 ·rw[Jm];refine JX.mpr ⟨h.cols,by simp,λa ha b hb e=>?_⟩;have hb:b=c.2:=by simpa using hb
  rw[e,hb] at ha;exact h3 ha
theorem QiY{S:List (Int×Int)}(h:S.Pairwise λp q=>p.1<q.1){c:Int×Int}:(∀p∈S,p.1<c.1)∨¬rbI S<=c.1∨(S=[] ):=by
 by_cases z:S=[]
 ·exact .inr (.inr z)
 ·by_cases y:rbI S<=c.1
  ·refine .inl λp hp=>?_
   obtain⟨T,d,rfl⟩:∃T d,S=T++[d]:=⟨S.dropLast,S.getLast z,(QaI z).symm⟩
   have y:d.1+1<=c.1:=by unfold rbI at y;rw[Qkx] at y;simpa using y
   rcases QX.mp hp with q | q
   ·have:=(Q9.mp h).2.2 p q d (by simp);omega
   ·rw[QC.mp q];omega
  ·exact .inr (.inl y)
theorem Qxp{S:List (Int×Int)}{c:Int×Int}(h:∀p∈S,p.1<c.1)(h0:0<=c.1):rbI S<=c.1:=by
 unfold rbI;cases e:S.getLast? with
 |none=>exact h0
 |some d=>
  have:=h d (Qkv e);show d.1+1<=c.1;omega
theorem Qd9{cs:List (Int×Int)}(h0:∀p∈cs,0<=p.1):∀(k:Nat)(L:List (Int×Int)),L∈evS cs k↔Std cs L/\L.length=k
 |0,L=>by
  constructor
  ·intro h;rw[QC.mp h];exact⟨.nil,rfl⟩
  ·rintro⟨_,h⟩;cases L with
   |nil=>exact .head _
   |cons a b=>cases h
 |k+1,L=>by
  show L∈(evS cs k).flatMap (λS=>(fol cs S).map λc=>S++[c])↔_;rw[Z8];constructor
  ·rintro⟨S,hS,hL⟩;obtain⟨c,hc,rfl⟩:=Ql.mp hL;obtain⟨st,hl⟩:=(Qd9 h0 k S).mp hS;have hc:=Qu.mp hc;have hc2:=QK.mp hc.2;refine⟨st.snoc hc.1 ?_ (by simpa using hc2.2),by rw[Qo,hl];rfl⟩;rcases QiY st.rows (c:=c) with z | z | z
   ·exact z
   ·exact absurd (of_decide_eq_true hc2.1) z
   ·rw[z];exact λp hp=>(nomatch hp)
  ·rintro⟨st,hl⟩;have hne:L≠[]:=λe=>by rw[e] at hl;cases hl
   obtain⟨S,c,rfl⟩:∃T d,L=T++[d]:=⟨L.dropLast,L.getLast hne,(QaI hne).symm⟩
   obtain⟨s1,s2,s3,s4⟩:=st.init;refine⟨S,(Qd9 h0 k S).mpr ⟨s1,by rw[Qo] at hl;exact Qhg hl⟩,Ql.mpr ⟨c,Qu.mpr ⟨s2,?_⟩,rfl⟩⟩;rw[Jp];exact⟨decide_eq_true (Qxp s3 (h0 c s2)),by simpa using s4⟩
theorem QgP{cs:List (Int×Int)}(hp:cs.Pairwise plt)(h0:∀p∈cs,0<=p.1):∀k,(evS cs k).Pairwise Qpz
 |0=>Qio _ _
 |k+1=>by
  show((evS cs k).flatMap λS=>(fol cs S).map λc=>S++[c]).Pairwise Qpz;rw[Qkh];refine⟨λS _=>?_,?_⟩
  ·exact JA.mpr ((JE _ hp).imp λh=>QiV S h)
  ·refine QaG (λ{S T} hS hT h=>?_) (QgP hp h0 k);intro x hx y hy;obtain⟨c,_,rfl⟩:=Ql.mp hx;obtain⟨d,_,rfl⟩:=Ql.mp hy;exact QlY c d (by rw[((Qd9 h0 k S).mp hS).2,((Qd9 h0 k T).mp hT).2]) h
theorem Qb5{cs:List (Int×Int)}(h0:∀p∈cs,0<=p.1):∀(i:Nat)(L:List (Int×Int)),L∈Qci cs i↔Std cs L/\∀p∈L,p.1<(i:Int)
 |0,L=>by
  constructor
  ·intro h;rw[QC.mp h];exact⟨.nil,λp hp=>(nomatch hp)⟩
  ·rintro⟨s,h⟩;cases L with
   |nil=>exact .head _
   |cons a b=>
    have h1:=h a (.head _);have h2:=h0 a (s.sub a (.head _));exact absurd h1 (by show ¬a.1<0;omega)
 |i+1,L=>by
  show L∈Qci cs i++(Qci cs i).flatMap (Qh4 (Qf6 cs i))↔_;rw[QX,Z8];constructor
  ·rintro(h | ⟨S,hS,hL⟩)
   ·obtain⟨a,b⟩:=(Qb5 h0 i L).mp h;exact⟨a,λp hp=>by have:=b p hp;omega⟩
   ·obtain⟨c,hc,hn,rfl⟩:=QaK.mp hL;obtain⟨a,b⟩:=(Qb5 h0 i S).mp hS;have hc:=Qu.mp hc;have hr:c.1=(i:Int):=of_decide_eq_true hc.2;refine⟨a.snoc hc.1 (λp hp=>by rw[hr];exact b p hp) hn,λp hp=>?_⟩;rcases QX.mp hp with z | z
    ·have:=b p z;omega
    ·rw[QC.mp z,hr];omega
  ·rintro⟨s,h⟩;by_cases z:L=[]
   ·left
    rw[z];exact QkK cs i
   ·obtain⟨S,c,rfl⟩:∃T d,L=T++[d]:=⟨L.dropLast,L.getLast z,(QaI z).symm⟩
    obtain⟨s1,s2,s3,s4⟩:=s.init;have hc:=h c (by simp);by_cases y:c.1=(i:Int)
    ·right
     exact⟨S,(Qb5 h0 i S).mpr ⟨s1,λp hp=>by have:=s3 p hp;omega⟩,QaK.mpr ⟨c,Qu.mpr ⟨s2,decide_eq_true y⟩,s4,rfl⟩⟩
    ·left
     refine(Qb5 h0 i _).mpr ⟨s,λp hp=>?_⟩;rcases QX.mp hp with q | q
     ·have:=s3 p q;omega
     ·rw[QC.mp q];omega
theorem Qpd{cs:List (Int×Int)}(nd:cs.Nodup)(h0:∀p∈cs,0<=p.1):∀i,(Qci cs i).Nodup
 |0=>by show[([]:List (Int×Int))].Nodup;simp
 |i+1=>by
  have ih:=Qpd nd h0 i;show(Qci cs i++(Qci cs i).flatMap (Qh4 (Qf6 cs i))).Nodup;refine JX.mpr ⟨ih,?_,λL hL M hM e=>?_⟩
  ·show List.Pairwise _ _;rw[Qkh];refine⟨λS _=>?_,ih.imp λ{S T} hne x hx y hy e=>?_⟩
   ·unfold Qh4;refine JA.mpr ((JE _ (JE _ nd)).imp λ{c d} hne e=>hne ?_);have:=List.append_inj_right' e rfl
    simpa using this
   ·obtain⟨c,_,_,rfl⟩:=QaK.mp hx;obtain⟨d,_,_,rfl⟩:=QaK.mp hy;exact hne (List.append_inj_left' e rfl)
  ·obtain⟨S,hS,hM⟩:=Z8.mp hM;obtain⟨c,hc,_,rfl⟩:=QaK.mp hM;have hr:c.1=(i:Int):=of_decide_eq_true (Qu.mp hc).2;have:=((Qb5 h0 i L).mp hL).2 c (by rw[e];simp);omega
end Rk
namespace Dl
open L2 _root_.Rd Rk
section
variable{X:Cx}{E:XK}{st:Yn}{we:DE}
end
end Dl
namespace Rk
open L2 _root_.Rd Dl Rt
structure GB (h w:Nat) (cs:List (Int×Int)):Prop where
 bds:Bds h w cs
 srt:cs.Pairwise plt
 few:(Qci cs h).length<=200000
theorem GB.r0{h w:Nat}{cs:List (Int×Int)}(g:GB h w cs):∀p∈cs,0<=p.1:=λp hp=>(g.bds.2.2 p hp).1
theorem GB.rh{h w:Nat}{cs:List (Int×Int)}(g:GB h w cs):∀p∈cs,p.1<(h:Int):=λp hp=>(g.bds.2.2 p hp).2.1
theorem Qs7{h w:Nat}{cs:List (Int×Int)}(g:GB h w cs)(k:Nat):(evS cs k).Perm ((Qci cs h).filter λL=>L.length == k):=by
 have nd:=Qpd (g.srt.imp Qpn) g.r0 h;have s2:=QgP g.srt g.r0 k;have n2:(evS cs k).Nodup:=Qw2 (R:=Qpz) (S:=λa b=>a≠b) (λ{S T} z (e:S=T)=>QlX S (by rw[<- e] at z;exact z)) s2;refine(Qgd n2 (JE _ nd)).mpr λL=>?_
 rw[Qu,Qd9 g.r0,Qb5 g.r0];constructor
 ·rintro⟨a,b⟩;exact⟨⟨a,λp hp=>g.rh p (a.sub p hp)⟩,by simpa using b⟩
 ·rintro⟨⟨a,_⟩,b⟩;exact⟨a,by simpa using b⟩
theorem QvL{h w:Nat}{cs:List (Int×Int)}(g:GB h w cs)(k:Nat):((evS cs k).length:Int)=Wc cs h h 0 k:=by
 rw[<- QoM g.bds.nn];unfold Qyi;rw[(Qs7 g k).length_eq,List.countP_eq_length_filter]
def QnB:DF:=λargs R _=>∃S:List (Int×Int),args=[.v (stT S)]/\R (.int (rbI S))
def Qx6:DF:=λargs R _=>∃(h w:Nat)(cs S:List (Int×Int)),args=[.v (bdD h w cs),.v (stT S)]/\R (.list ((fol cs S).map pairD))
theorem QsS{S:List (Int×Int)}{c:Int×Int}(h:S.getLast? = some c):atI (S.map pairD) (-1)=some (pairD c):=by
 obtain⟨xs,rfl⟩:=List.getLast?_eq_some_iff.mp h
 rw[Jm];exact QoX _ _
end Rk
namespace L2
section
variable{X:Cx}
end
end L2
namespace Dl
open L2 _root_.Rd Rk Rt
end Dl
namespace Rk
open L2 _root_.Rd Dl Rt
end Rk
namespace L2
open _root_.Rd
section
variable{X:Cx}
end
end L2
namespace Dl
open L2 _root_.Rd Rk Rt
section
variable{X:Cx}{E:XK}
end
end Dl
namespace Rk
open L2 _root_.Rd Dl Rt
def xts(cs:List (Int×Int)):Nat->List (Int×Int)->List (List (Int×Int))
 |0,S=>[S]
 |m+1,S=>(fol cs S).flatMap λc=>xts cs m (S++[c])
theorem QpH(cs:List (Int×Int)):∀(m j:Nat),(evS cs j).flatMap (xts cs m)=evS cs (j+m)
 |0,j=>by
  show(evS cs j).flatMap (λS=>[S])=evS cs j;rw[List.flatMap_singleton']
 |m+1,j=>by
  have h:=QpH cs m (j+1);rw[show j+1+m=j+(m+1) by omega] at h;rw[<- h];show(evS cs j).flatMap (λS=>(fol cs S).flatMap λc=>xts cs m (S++[c]))=((evS cs j).flatMap λS=>(fol cs S).map λc=>S++[c]).flatMap (xts cs m);rw[List.flatMap_assoc];refine Qe6 λS _=>?_
  rw[List.flatMap_map]
theorem Qs6(cs:List (Int×Int))(k:Nat):xts cs k []=evS cs k:=by
 have h:=QpH cs k 0;rw[Zo] at h;rw[<- h];show _=[([]:List (Int×Int))].flatMap (xts cs k);simp
theorem QmV(cs:List (Int×Int))(h:Nat):∀(i t:Nat),Wc cs h i t 0=1
 |0,_=>rfl
 |i+1,t=>by
  show Wc cs h i t 0+0=1;rw[QmV cs h i t];rfl
theorem Qwg{h w:Nat}{cs:List (Int×Int)}(g:GB h w cs){T:List (Int×Int)}(hT:∀p∈T,p∈cs)(m:Nat):∀i,i<=h->Wc cs h i (mkL T) (m+1)=sumZ (λc=>Wc cs h (h - (c.1+1).toNat) (mkL (T++[c])) m) (cs.filter λc=>decide (((h - i:Nat):Int)<=c.1) && !decide (c.2∈T.map (·.2)))
 |0,_=>by
  have e:cs.filter (λc=>decide (((h - 0:Nat):Int)<=c.1) && !decide (c.2∈T.map (·.2)))=[]:=by
   rw[QbV];intro c hc;have:=g.rh c hc;rw[decide_eq_false (by omega)];exact Qp
  rw[e];rfl
 |i+1,hi=>by
  show Wc cs h i (mkL T) (m+1)+(if m+1=0 then 0 else Qns (Wc cs h i) (mkL T) (Qm8 cs (h - 1 - i)) (m+1 - 1))=_;rw[if_neg (by omega),QdQ,Qwg g hT m i (by omega),YX,YX];unfold Qm8 Qf6;rw[QdX,YX,<- Qfm];refine YC λc hc=>?_
  have h0:=g.r0 c hc;have hh:=g.rh c hc;have em:=QhU (L:=T) (c:=c) (λp hp=>g.bds.nn p (hT p hp)) (g.bds.nn c hc);by_cases y:c.2∈T.map (·.2)
  ·have bt:(mkL T).testBit c.2.toNat=true:=by rw[Qf0];exact decide_eq_true (em.mpr y)
   rw[decide_eq_true y,bt];simp
  ·have bn:(mkL T).testBit c.2.toNat=false:=by rw[Qf0];exact decide_eq_false λq=>y (em.mp q)
   rw[decide_eq_false y,bn];simp only[Bool.not_false,QdC,decide_eq_true_eq,JT,if_false];rw[QdM];by_cases z:c.1=((h - 1 - i:Nat):Int)
   ·rw[if_neg (by omega),if_pos z,if_pos (by omega),show h - (c.1+1).toNat=i by omega];omega
   ·rw[if_neg z,Qco];by_cases z2:((h - i:Nat):Int)<=c.1
    ·rw[if_pos z2,if_pos (by omega)]
    ·rw[if_neg z2,if_neg (by omega)]
theorem QiW{α β:Type}(g:α->List β):∀xs:List α,((xs.flatMap g).length:Int)=sumZ (λx=>((g x).length:Int)) xs
 |[]=>rfl
 |x::xs=>by
  rw[ZY,Qo];show _=((g x).length:Int)+sumZ _ xs;rw[<- QiW g xs];omega
theorem QrG(S:List (Int×Int))(c:Int×Int):rbI (S++[c])=c.1+1:=by
 unfold rbI;rw[Qkx];rfl
theorem Qup{h w:Nat}{cs S:List (Int×Int)}(g:GB h w cs)(st:Std cs S):0<=rbI S/\rbI S<=h:=by
 unfold rbI;cases e:S.getLast? with
 |none=>exact⟨Int.le_refl _,by show(0:Int)<=h;omega⟩
 |some d=>
  have hd:=st.sub d (Qkv e);have a:=g.r0 d hd;have b:=g.rh d hd;exact⟨by show 0<=d.1+1;omega,by show d.1+1<=h;omega⟩
theorem QfL{cs S:List (Int×Int)}{c:Int×Int}(st:Std cs S)(hc:c∈fol cs S):Std cs (S++[c]):=by
 have hc:=Qu.mp hc;have hc2:=QK.mp hc.2;refine st.snoc hc.1 ?_ (by simpa using hc2.2)
 rcases QiY st.rows (c:=c) with z | z | z
 ·exact z
 ·exact absurd (of_decide_eq_true hc2.1) z
 ·rw[z];exact λp hp=>(nomatch hp)
theorem Qky{h w:Nat}{cs:List (Int×Int)}(g:GB h w cs):∀(m:Nat)(S:List (Int×Int)),Std cs S->((xts cs m S).length:Int)=Wc cs h (h - (rbI S).toNat) (mkL S) m
 |0,S,_=>by rw[QmV];rfl
 |m+1,S,st=>by
  have rb:=Qup g st;show(((fol cs S).flatMap λc=>xts cs m (S++[c])).length:Int)=_;rw[QiW,Qwg g st.sub m _ (Nat.sub_le _ _)];have e:(((h - (h - (rbI S).toNat):Nat):Nat):Int)=rbI S:=by omega
  rw[e];refine YC λc hc=>?_
  rw[Qky g m (S++[c]) (QfL st hc),QrG]
theorem Qzv{h w:Nat}(f:Nat->Nat->Bool)(h6:h<=6)(w6:w<=6):GB h w (cellsF h w f):=by
 refine⟨⟨h6,w6,λp hp=>QgX hp⟩,Qgv w f h,Jd (QiA (λr=>QhE w h f r) h) ?_⟩;have c:(w+1)^h<=7^h:=Nat.pow_le_pow_left (by omega) _;have d:7^h<=7^6:=ZV (by decide) h6;have e:(7:Nat)^6=117649:=rfl;omega
theorem Qug{h w:Nat}{cs L:List (Int×Int)}(g:GB h w cs)(st:Std cs L):QvD h w cs (stT L)=true:=by
 refine Qrq (λp hp=>g.bds.2.2 p hp) st.sub ?_ (st.rows.imp λz=>.inl z)
 show(decide (L.map (·.1)).Nodup&&decide (L.map (·.2)).Nodup)=true;rw[decide_eq_true st.cols,QdC];exact decide_eq_true (JA.mpr (st.rows.imp λ{a b}(z:a.1<b.1)=>by show a.1≠b.1;omega))
theorem QkL{h w:Nat}{cs L:List (Int×Int)}(g:GB h w cs)(st:Std cs L):L.length<=min h w:=by
 have m:=(Qb5 g.r0 h L).mpr ⟨st,λp hp=>g.rh p (st.sub p hp)⟩;have a:=QdZ h L m;have b:=QkJ g.bds.col m;omega
theorem Qiu(cs:List (Int×Int))(h w:Nat):∀(i j:Nat),j<=i->(Qiv cs h w i)[j]? = some (.list (QhA h w (Wc cs h (i - j))))
 |0,0,_=>rfl
 |i+1,0,_=>rfl
 |i+1,j+1,hj=>by
  show(Qiv cs h w i)[j]? = _;rw[Qiu cs h w i j (by omega),show i+1 - (j+1)=i - j by omega]
theorem Qu8:∀t:Fin 64,∀c:Fin 6,(t:Nat).testBit c=false->(t:Nat) ||| 2^(c:Nat)=t+2^(c:Nat):=by decide +kernel
theorem Qpx{w:Nat}(w6:w<=6):∀{T S:List (Int×Int)},(∀p∈T++S,0<=p.2/\p.2<w)->((T++S).map (·.2)).Nodup->mkL T<2^w->((mkL T:Nat):Int)+(S.map λp=>(1*2^p.2.toNat:Int)).sum=((mkL (T++S):Nat):Int)/\mkL (T++S)<2^w
 |T,[],_,_,h=>by rw[Jr];exact⟨by show _+0=_;omega,h⟩
 |T,c::S,hb,nd,h=>by
  have hc:=hb c (by simp);have p64:2^w<=2^6:=ZV (by decide) w6;have e64:(2:Nat)^6=64:=rfl;have nt:(mkL T).testBit c.2.toNat=false:=by
   rw[Qf0];refine decide_eq_false λq=>?_
   have:=(QhU (L:=T) (c:=c) (λp hp=>(hb p (J5 _ hp)).1) hc.1).mp q;rw[Jm,Jh] at nd;exact(JX.mp nd).2.2 _ this c.2 (.head _) rfl
  have eo:mkL T ||| 2^c.2.toNat=mkL T+2^c.2.toNat:=Qu8 ⟨mkL T,by omega⟩ ⟨c.2.toNat,by omega⟩ nt;have lt:mkL (T++[c])<2^w:=by rw[QdM];exact Qu6 h (by omega)
  have e1:T++c::S=(T++[c])++S:=by simp
  have ih:=Qpx w6 (T:=T++[c]) (S:=S) (by rw[<- e1];exact hb) (by rw[<- e1];exact nd) lt;rw[e1];refine⟨?_,ih.2⟩;rw[<- ih.1,Jh,Y1,QdM,eo];have:((2^c.2.toNat:Nat):Int)=(2:Int)^c.2.toNat:=by simp
  rw[Qni,<- this];omega
def Qre:DF:=λargs R _=>∃(h w:Nat)(cs S:List (Int×Int))(k:Nat),args=[.v (.list (Qiv cs h w h)),.v (stT S),.v (.int k)]/\GB h w cs/\Std cs S/\k<=h/\R (.int ((xts cs k S).length:Nat))
def Qid:DF:=λargs R _=>∃(h w:Nat)(cs S:List (Int×Int))(m n:Nat),args=[.v (bdD h w cs),.v (.list (Qiv cs h w h)),.v (stT S),.v (.int m),.v (.int n)]/\GB h w cs/\Std cs S/\m<h/\n<(xts cs (m+1) S).length/\∀c (n':Nat),c∈fol cs S->n'<(xts cs m (S++[c])).length->(xts cs (m+1) S)[n]? = (xts cs m (S++[c]))[n']? -> R (.tuple [pairD c,.int n'])
theorem QfN{h w:Nat}{cs:List (Int×Int)}(g:GB h w cs)(k:Nat):Wc cs h h 0 k=((evS cs k).length:Int):=(QvL g k).symm
def colK(cs:List (Int×Int))(rows:List Int):List Nat:=(Je 6).filter λx=>cs.any λp => !decide (p.1∈rows)&&decide (p.2=(x:Int))
theorem QcA{cs:List (Int×Int)}{rows:List Int}(h6:∀p∈cs,0<=p.2/\p.2<6)(x:Nat):x∈colK cs rows↔∃p∈cs,p.1∉rows/\p.2=(x:Int):=by
 unfold colK;rw[Qu,Js,YN];constructor
 ·rintro⟨_,p,hp,h⟩;have h:=QK.mp h;exact⟨p,hp,by simpa using h.1,of_decide_eq_true h.2⟩
 ·rintro⟨p,hp,h1,h2⟩;have:=h6 p hp;exact⟨by omega,p,hp,by simp[h1,h2]⟩
theorem QfT(cs:List (Int×Int))(rows:List Int):(colK cs rows).Pairwise (· < ·):=JE _ (Qjv)
theorem Qjf{cs:List (Int×Int)}{rows:List Int}(h6:∀p∈cs,0<=p.2/\p.2<6){ms:List Nat}(pw:ms.Pairwise (· < ·))(h:∀x:Nat,x∈ms↔∃p∈cs,p.1∉rows/\p.2=(x:Int)):ms=colK cs rows:=by
 have nd1:ms.Nodup:=pw.imp λ{a b}(z:a<b)=>by omega
 have nd2:(colK cs rows).Nodup:=(QfT cs rows).imp λ{a b}(z:a<b)=>by omega
 exact QeD (le:=λa b=>a<b) (λa b _ _ h1 h2=>by omega) pw (QfT cs rows) ((Qgd nd1 nd2).mpr λx=>by rw[h x,QcA h6 x])
def lotsN:Nat->List (List Int)
 |0=>[[]]
 |i+1=>lotsN i++(lotsN i).map λr=>r++[(i:Int)]
theorem QcB:∀n,(lotsN n).length=2^n
 |0=>rfl
 |n+1=>by show(lotsN n++(lotsN n).map λr=>r++[(n:Int)]).length=_;rw[Qo,Qd,QcB n,Nat.pow_succ];omega
theorem QcC:∀{n:Nat}{r:List Int},r∈lotsN n->r.Pairwise (· < ·)/\(∀x∈r,0<=x/\x<(n:Int))/\r.length<=n
 |0,r,h=>by rw[QC.mp h];exact⟨.nil,λx hx=>(nomatch hx),Qj _⟩
 |n+1,r,h=>by
  rcases QX.mp (show r∈lotsN n++(lotsN n).map λr=>r++[(n:Int)] from h) with h | h
  ·obtain⟨a,b,c⟩:=QcC h;exact⟨a,λx hx=>by have:=b x hx;omega,by omega⟩
  ·obtain⟨s,hs,rfl⟩:=Ql.mp h;obtain⟨a,b,c⟩:=QcC hs;refine⟨Q9.mpr ⟨a,Qio _ _,λx hx y hy=>?_⟩,λx hx=>?_,by rw[Qo];show _+1<=_;omega⟩
   ·rw[QC.mp hy];have:=b x hx;omega
   ·rcases QX.mp hx with z | z
    ·have:=b x z;omega
    ·rw[QC.mp z];omega
theorem QgL(f:Nat->Bool):∀n:Nat,((Je n).filter f).map (λ(x:Nat)=>(x:Int))∈lotsN n
 |0=>by show[]∈[[]];simp
 |n+1=>by
  have ih:=QgL f n;rw[Qcb,QdA];refine QX.mpr ?_
  cases h:f n with
  |false=>rw[ZA (by rw[h];exact Qp),QtH,Jr];exact .inl ih
  |true=>rw[Zz h,QtH,Jm];exact .inr (Ql.mpr ⟨_,ih,rfl⟩)
def costN(cs:List (Int×Int))(r:List Int):Nat:=r.length+(colK cs r).length
def QgN(h w:Nat):List Ko.Vx:=((Je h).map λ(x:Nat)=>(true,(x:Int)))++(Je w).map λ(x:Nat)=>(false,(x:Int))
theorem QtW(b:Bool)(n:Nat):((Je n).map λ(x:Nat)=>((b,(x:Int)):Ko.Vx)).Nodup:=by
 refine JA.mpr (QbQ.imp ?_);intro x y hne e;have e:((b,(x:Int)):Ko.Vx)=(b,(y:Int)):=e;have e:(x:Int)=(y:Int):=congrArg Prod.snd e;omega
theorem QgM(h w:Nat):(QgN h w).Nodup:=by
 refine JX.mpr ⟨QtW true h,QtW false w,?_⟩;intro a ha b hb e;obtain⟨x,_,rfl⟩:=Ql.mp ha;obtain⟨y,_,rfl⟩:=Ql.mp hb;cases(Y6 e).1
theorem Qi1{h w:Nat}{cs:List (Int×Int)}(g:GB h w cs){p:Int×Int}(hp:p∈cs):((true,p.1):Ko.Vx)∈QgN h w/\((false,p.2):Ko.Vx)∈QgN h w:=by
 have b:=g.bds.2.2 p hp;exact⟨J5 _ (Ql.mpr ⟨p.1.toNat,Js.mpr (by omega),by rw[show((p.1.toNat:Nat):Int)=p.1 by omega]⟩),Qv _ (Ql.mpr ⟨p.2.toNat,Js.mpr (by omega),by rw[show((p.2.toNat:Nat):Int)=p.2 by omega]⟩)⟩
theorem QkM{cs L:List (Int×Int)}(st:Std cs L):Ko.Apart L:=by
 have c:=JA.mp st.cols;exact(Qki.mpr ⟨st.rows,c⟩).imp λ{a b} z=>⟨by have:a.1<b.1:=z.1;omega,z.2⟩
theorem QpL{h w:Nat}{cs:List (Int×Int)}(g:GB h w cs):∀p∈cs,0<=p.2/\p.2<6:=λp hp=>by
 have:=g.bds.2.2 p hp;have:=g.bds.2.1;omega
theorem Qnt{h w:Nat}{cs L:List (Int×Int)}(g:GB h w cs)(st:Std cs L){r:List Int}(hr:r∈lotsN h):L.length<=costN cs r:=by
 let f:Ko.Vx->Bool:=λv=>if v.1=true then decide (v.2∈r) else decide (v.2∈(colK cs r).map λ(x:Nat)=>(x:Int))
 have cov:Ko.Cov L f:=λp hp=>by
  by_cases z:p.1∈r
  ·exact .inl (by show decide (p.1∈r)=true;exact decide_eq_true z)
  ·refine .inr ?_
   show decide (p.2∈(colK cs r).map λ(x:Nat)=>(x:Int))=true;have c:=QpL g p (st.sub p hp);exact decide_eq_true (Ql.mpr ⟨p.2.toNat,(QcA (QpL g) _).mpr ⟨p,st.sub p hp,z,by omega⟩,by omega⟩)
 have a:=Ko.weak (V:=QgN h w) (QkM st) (λp hp=>Qi1 g (st.sub p hp)) cov;rw[Ko.QfU] at a;have b:((QgN h w).filter f).length<=((r.map λx=>((true,x):Ko.Vx))++(colK cs r).map λ(x:Nat)=>((false,(x:Int)):Ko.Vx)).length:=Ko.len_sub (JE _ (QgM h w)) λv hv=>by
  have hv:=(Qu.mp hv).2;obtain⟨b,i⟩:=v;cases b with
  |true=>exact J5 _ (Ql.mpr ⟨i,of_decide_eq_true (show decide (i∈r)=true from hv),rfl⟩)
  |false=>
   obtain⟨x,hx,e⟩:=Ql.mp (of_decide_eq_true (show decide (i∈(colK cs r).map λ(x:Nat)=>(x:Int))=true from hv));exact Qv _ (Ql.mpr ⟨x,hx,by rw[e]⟩)
 rw[Qo,Qd,Qd] at b;unfold costN;omega
theorem QoL{h w:Nat}{cs:List (Int×Int)}(g:GB h w cs){t:Nat}(ht:∀r∈lotsN h,t<=costN cs r):∃L,Std cs L/\t<=L.length:=by
 obtain⟨M,sb,ap,l⟩:=Ko.QxR (QgM h w) cs.length cs rfl (g.srt.imp Qpn) t λf hf=>by
  let r:List Int:=((Je h).filter λ(x:Nat)=>f (true,(x:Int))).map λ(x:Nat)=>(x:Int)
  refine Jd (ht r (QgL (λ(x:Nat)=>f (true,(x:Int))) h)) ?_
  rw[Ko.QfU];have e:costN cs r=((r.map λx=>((true,x):Ko.Vx))++(colK cs r).map λ(x:Nat)=>((false,(x:Int)):Ko.Vx)).length:=by
   show r.length+(colK cs r).length=_;rw[Qo];have a1:=Qd (as:=r) (λx=>((true,x):Ko.Vx));have a2:=Qd (as:=colK cs r) (λ(x:Nat)=>((false,(x:Int)):Ko.Vx));omega
  rw[e];have rpw:r.Nodup:=by
   refine JA.mpr ((JE _ QbQ).imp ?_);intro a b hne e;have e:(a:Int)=(b:Int):=e;omega
  refine Ko.len_sub (JX.mpr ⟨JA.mpr (rpw.imp λ{a b} hne e=>hne (Y6 e).2),JA.mpr ((QfT cs r).imp λ{a b}(z:a<b) e=>by have e:((false,(a:Int)):Ko.Vx)=(false,(b:Int)):=e;have e:(a:Int)=(b:Int):=congrArg Prod.snd e;omega),λa ha b hb e=>?_⟩) λv hv=>?_
  ·obtain⟨x,_,rfl⟩:=Ql.mp ha;obtain⟨y,_,rfl⟩:=Ql.mp hb;cases(Y6 e).1
  ·rcases QX.mp hv with z | z
   ·obtain⟨x,hx,rfl⟩:=Ql.mp z;obtain⟨y,hy,rfl⟩:=Ql.mp hx;have hy:=Qu.mp hy;exact Qu.mpr ⟨J5 _ (Ql.mpr ⟨y,hy.1,rfl⟩),hy.2⟩
   ·obtain⟨x,hx,rfl⟩:=Ql.mp z;obtain⟨p,hp,h1,h2⟩:=(QcA (QpL g) x).mp hx;have il:=(Qi1 g hp).2;rw[h2] at il;refine Qu.mpr ⟨il,?_⟩;rcases hf p hp with q | q
    ·have b:=g.bds.2.2 p hp;refine absurd (Ql.mpr ⟨p.1.toNat,Qu.mpr ⟨Js.mpr (by omega),?_⟩,by omega⟩) h1;show f (true,((p.1.toNat:Nat):Int))=true;rw[show((p.1.toNat:Nat):Int)=p.1 by omega];exact q
    ·rw[<- h2];exact q
 refine⟨M,⟨λp hp=>sb.mem hp,?_,JA.mpr (ap.imp λh=>h.2)⟩,l⟩;refine(Qki.mpr ⟨ap,QwZ sb g.srt⟩).imp λ{a b} z=>?_
 rcases z.2 with y | y
 ·exact y
 ·exact absurd y.1 z.1.1
end Rk
namespace L2
end L2
namespace Dl
open L2 _root_.Rd Rk
section
variable{X:Cx}{E:XK}
end
end Dl
namespace Rk
open L2 _root_.Rd Dl Rt
end Rk
namespace HT
section
open PySem.SeqAt
open PySem.AutoSeq1 (wpAny_loadPart')
open PySem.MeetsSeq PySem.MeetsSeq2 PySem.MeetsSeq3
end
section
variable{prog:QB}{w:Ji}{A:Q3}{E:Value->Shared->Prop}{s:Shared}
end
end HT
namespace L2
end L2
namespace Rk
open L2 _root_.Rd Dl Rt
end Rk
namespace Dl
open L2 _root_.Rd Rk Rt
end Dl
namespace Rk
open L2 _root_.Rd Dl Rt
end Rk
namespace Dl
open L2 _root_.Rd Rk
@[irreducible] def QwB(t:DT)(wb:DS)(D:Qeo)(δ:Sts):Prop:=∃Iv:Nat->Sts->Prop,(∃m,Iv m δ)/\∀m δ,Iv m δ->t δ (λb=>if b=true then wb { D with nx:=λδ'=>∃m',m'<m/\Iv m' δ',ct:=λδ'=>∃m',m'<m/\Iv m' δ',bk:=D.nx } δ else D.nx δ) D.ex
def Qmr(t:DT)(wb:DS):DS:=λD δ=>QwB t wb D δ
section
variable{X:Cx}{E:XK}
theorem Qls{c:Q5}{body:List Yn}{pos:Pos}{t:DT}{wb:DS}(hp:Qfd (model X.prog X.w) X.A X.env X.xe)(hc:PT X c (tT X.K E t))(hb:PSs X body (tS X.K E wb)):PS X (.While c body [] pos) (tS X.K E (Qmr t wb)):=by
 refine PS.imp (QnK hp hc hb) λD σ H ⟨F,δ,DD,rel,hw,en⟩=>?_
 unfold Qmr QwB at hw;obtain⟨Iv,⟨m0,i0⟩,step⟩:=hw;refine⟨λm σ' H'=>∃δ',Iv m δ'/\Rel X.K F σ' H' δ'/\Stp F σ H δ σ' H' δ',⟨m0,δ,i0,rel,Stp.refl⟩,?_⟩;rintro m σ' H' ⟨δ',iv,r',st'⟩;refine⟨F,δ',_,DD.ex,r',step m δ' iv,λb hb H1 rel1 kp1=>?_,en.ex⟩;have st1:Stp F σ H δ σ' H1 δ':=st'.trans (Stp.kp kp1);cases b with
 |true=>
  rw[if_pos rfl] at hb;show if true=true then _ else _
  rw[if_pos rfl];refine⟨λσ2 H2=>∃δ2,(∃m',m'<m/\Iv m' δ2)/\Rel X.K F σ2 H2 δ2/\Stp F σ H δ σ2 H2 δ2,λσ2 H2 ⟨δ2,⟨m',hm,h2⟩,r2,s2⟩=>⟨m',hm,δ2,h2,r2,s2⟩,F,δ',_,rel1,hb,?_⟩;exact⟨⟨λδ6 h6 σ6 H6 r6 s6=>⟨δ6,h6,r6,st1.trans s6⟩⟩,en.rt,en.rtF,(en.step st1).nx,⟨λδ6 h6 σ6 H6 r6 s6=>⟨δ6,h6,r6,st1.trans s6⟩⟩,en.ex⟩
 |false=>
  rw[if_neg Qp] at hb;show if false=true then _ else _
  rw[if_neg Qp];exact(en.step st1).nx.go δ' hb σ' H1 rel1 Stp.refl
theorem QnH{c:Q5}{body:List Yn}{pos:Pos}{t:DT}{wb:DS}(hp:Qfd (model X.prog X.w) X.A X.env X.xe)(hc:QT X E c t)(hb:QSs X E body wb):QS X E (.While c body [] pos) (Qmr t wb):=⟨Qls hp hc.h hb.h⟩
end
theorem QtV{t:DT}{wb:DS}{D:Qeo}{δ:Sts}(Iv:Nat->Sts->Prop)(m0:Nat)(h0:Iv m0 δ)
  (hs:∀m δ,Iv m δ->t δ (λb=>if b=true then wb { D with nx:=λδ'=>∃m',m'<m/\Iv m' δ',ct:=λδ'=>∃m',m'<m/\Iv m' δ',bk:=D.nx } δ else D.nx δ) D.ex):QwB t wb D δ:=by
 unfold QwB;exact⟨Iv,⟨m0,h0⟩,hs⟩
end Dl
namespace L2
section
variable{X:Cx}{pins:List (Addr×Obj)}{σ:St}{H H3:Hp}{s3:Shared}{M:List Str}{scope:QaM}{cap:List (Option Nat)}{fp:List Addr}{h4:Heap}{t4:Nat}
end
section
variable{X:Cx}{pins:List (Addr×Obj)}{σ:St}{H:Hp}
end
end L2
namespace Rk
open L2 _root_.Rd Dl
end Rk
namespace Dl
open L2
section
variable{X:Cx}{E:XK}
end
end Dl
namespace Rk
open L2 _root_.Rd
def top(i:Nat):Yn:=PySem.Challenge.pw_rooklands_k23_showings_told.main.body.getD i (.Pass ⟨0,0,0,0⟩)
abbrev QeJ:Yn:=top 5
abbrev QcS:Yn:=top 6
abbrev QbH:Yn:=top 10
abbrev QcT:Yn:=top 8
abbrev QjK:Yn:=top 9
abbrev QeK:Yn:=top 11
abbrev sFol:Yn:=top 12
abbrev QjJ:Yn:=top 13
abbrev QcU:Yn:=top 14
abbrev QjH:Yn:=top 15
abbrev QjG:Yn:=top 16
abbrev sRow:Yn:=top 17
abbrev sHow:Yn:=top 19
abbrev QjI:Yn:=top 20
abbrev QeL:Yn:=top 21
abbrev sFew:Yn:=top 22
abbrev QjL:Yn:=top 23
abbrev sLW:Yn:=top 24
abbrev Qc5:Yn:=top 26
abbrev lPot:Yn:=top 27
abbrev Qj2:Yn:=top 28
abbrev Qe2:Yn:=top 29
abbrev QeY:Yn:=top 30
abbrev Qe0:Yn:=top 31
abbrev QeZ:Yn:=top 32
abbrev lIsS:Yn:=top 33
abbrev Qc3:Yn:=top 34
abbrev Qe1:Yn:=top 35
abbrev Qc4:Yn:=top 36
abbrev sLaw:Yn:=top 37
section
variable{P:QB}{w:Ji}{K:PySem.W.Frag}{mg:Str->Option Value}{base:Heap}
theorem QnA:JH ["_law_script", "_law_k"] ["_law_script", "_law_k"] (Qx Qc5):=⟨rfl,rfl,rfl,by decide +kernel,rfl,by decide +kernel,by decide +kernel⟩
theorem QlO{f:Addr}{fd:QR}(F:Fun K "_law_cell_at" "_law_cell_at" Qc5 f fd)(T:GlbA mg):FnOk P w K mg base CX0 1 f fd ["_law_script", "_law_k"] (Qcs K):=by
 refine F.ok QnA (λvs H Q E h=>?_) (λcdv A outer s H vs Q E hr h=>?_)
 ·obtain⟨a,ns,k,rfl,_⟩:=h;rfl
 ·obtain⟨a,ns,n,rfl,hs,hl,h0,k⟩:=h;refine⟨_,Y5 (QrQ (Qfz QjQ (pv 1) (Qa9 QbD (by rfl) T.len YV (Qbz (pv 0) Z5)) (YR _)) (Qby (Qcx (Qlr QfJ (pv 0) (pv 1) (λ_ _=>rfl)))) QhH) (Qby (Qcx Yv)),?_⟩;refine⟨_,rfl,_,rfl,a,_,rfl,.inl hs,_,_,rfl,rfl,_,rfl,?_⟩;refine QyN (λhlt=>?_) (λ_=>k 0);have hlt':n<(ns.map V.int).length:=of_decide_eq_true hlt;rw[Qd] at hlt';obtain⟨j,rfl⟩:=Int.eq_ofNat_of_zero_le h0;have hj:j<ns.length:=by omega
  refine⟨_,rfl,_,rfl,a,_,_,.int ns[j],rfl,rfl,hs,Jv ?_,k _⟩;rw[QF,Qk hj];rfl
theorem QjF:JH ["_law_cell", "_law_number", "_law_j", "_law_more"] ["_law_cell"] (Qx lPot):=⟨rfl,rfl,rfl,by decide +kernel,rfl,by decide +kernel,by decide +kernel⟩
theorem Qvj{f:Addr}{fd:QR}(F:Fun K "_law_pot" "_law_pot" lPot f fd)(T:GlbA mg):FnOk P w K mg base CX0 1 f fd ["_law_cell"] Quh:=by
 refine F.ok QjF (λvs H Q E h=>?_) (λcdv A outer s H vs Q E hr h=>?_)
 ·obtain⟨c,rfl,_⟩:=h;rfl
 ·obtain⟨c,rfl,k⟩:=h;refine⟨_,Y5 (QrQ (Qfz Qsu (pv 0) (Qa8 Qps Yv Yv) (YR _)) (Qby (Qcx (Qpq (Qbz (Qa8 Qlz (pv 0) (Qa8 Qps Yv Yv)) Z5)))) QhH)
   (Y5 (Qdh (i:=1) QjF.nd rfl (Jc rfl) Yv)
   (Y5 (Qpk JZ rfl (Qgy (by rfl) T.range (Qbz Yv Z5)) (Qd2 (i:=2) QjF.nd rfl (Jc rfl))
    (Y5 (Qdh (i:=3) QjF.nd rfl (Jc rfl) (Qa8 QgD (Qa8 QeQ (Qa8 QeR (Qa8 QeR (Qa8 QgD (pv 0) Yv) (Qa8 QeQ Yv (pv 2))) Yv) Yv) Yv))
    (Y5 (Qdh (i:=3) QjF.nd rfl (Jc rfl) (Qa8 QgD (Qa8 QeR (Qa8 QeR (Qa8 QeQ (pv 3) (pv 3)) (Qa8 QeQ Yv (pv 2))) Yv) Yv))
    (Qby (Qdh (i:=1) QjF.nd rfl (Jc rfl) (Qa8 QeR (Qa8 QeQ (pv 1) Yv) (pv 3)))))))
   (Qby (Qcx (Qpq (Qbz (pv 1) Z5)))))),?_⟩
  refine⟨_,rfl,_,_,rfl,rfl,⟨by decide,by decide,by decide⟩,_,_,rfl,rfl,_,rfl,?_⟩;refine QyN (λ_=>?_) (λ_=>?_)
  ·exact⟨_,rfl,_,_,rfl,rfl,⟨by decide,by decide,by decide⟩,_,_,rfl,rfl,by show 1<=sizeLine;decide,λp hp=>k p _ hp⟩
  ·refine⟨64,rfl,by decide,by decide,Qmd (n:=64) (λi σ H2=>∃n v u,σ=[some (.int c),some (.int n),v,u]/\H2=H) ⟨0,none,none,rfl,rfl⟩ ?_ ?_⟩
   ·rintro i σ H2 hi ⟨n,v,u,rfl,rfl⟩;have b1:=Qi7 ((c % 2147483629+7919*(0+(i:Int))+1)*48271) (m:=2147483647) (by decide);refine⟨_,rfl,_,_,rfl,rfl,by show(0:Int)<2147483629;decide,_,rfl,_,_,rfl,rfl,.inl ⟨by decide,by decide⟩,_,_,rfl,rfl,_,_,rfl,rfl,_,_,rfl,rfl,.inr ⟨by decide,by decide⟩,_,_,rfl,rfl,by show(0:Int)<2147483647;decide,?_⟩;refine⟨_,rfl,_,rfl,_,_,rfl,rfl,.inl ⟨by omega,by omega⟩,_,rfl,_,_,rfl,rfl,.inl ⟨by decide,by decide⟩,_,_,rfl,rfl,_,_,rfl,rfl,_,_,rfl,rfl,by show(0:Int)<2147483587;decide,?_⟩;exact⟨_,rfl,_,_,rfl,rfl,.inr ⟨by decide,by decide⟩,_,rfl,_,_,rfl,rfl,_,_,_,rfl,rfl⟩
   ·rintro σ H2 ⟨n,v,u,rfl,rfl⟩;exact⟨_,rfl,by show 1<=sizeLine;decide,λp hp=>k p _ hp⟩
theorem Qph:JH ["_law_pot_here", "_law_far", "_law_found"] ["_law_pot_here", "_law_far"] (Qx Qj2):=⟨rfl,rfl,rfl,by decide +kernel,rfl,by decide +kernel,by decide +kernel⟩
theorem QsA{f:Addr}{fd:QR}(F:Fun K "_law_take" "_law_take" Qj2 f fd)(T:GlbA mg):FnOk P w K mg base CX0 1 f fd ["_law_pot_here", "_law_far"] QiB:=by
 refine F.ok Qph (λvs H Q E h=>?_) (λcdv A outer s H vs Q E hr h=>?_)
 ·obtain⟨p,n,m,rfl,_⟩:=h;rfl
 ·obtain⟨p,n,m,rfl,hp,h0,h1,k⟩:=h;refine⟨_,Y5 (Qdh (i:=2) Qph.nd rfl (Jc rfl) (Qa8 QgD (Qlr QfJ (pv 0) Yv (λ_ _=>rfl)) (pv 1)))
   (Y5 (Qpl (Qa8 Qoc (Qlr QfJ (pv 0) Yv (λ_ _=>rfl)) (pv 1)) (QuM (pv 0) Yv QiC))
   (Qby (Qcx (pv 2)))),?_⟩
  have b:=Qi7 n h0;exact⟨_,rfl,p,_,_,_,rfl,rfl,SqL.of hp,rfl,_,rfl,_,_,rfl,rfl,h0,_,rfl,p,_,_,_,rfl,rfl,SqL.of hp,rfl,_,rfl,_,_,rfl,rfl,⟨h0,h1⟩,_,rfl,p,_,_,_,rfl,rfl,hp,rfl,_,rfl,k _ _ b.1 b.2⟩
end
end Rk
namespace Rk
open L2 _root_.Rd
open Dl
open Rt Zt
theorem Qxn:∀m:Fin 64,∀c x:Fin 6,decide (x.val∈Zt.Sm (m.val ||| 2^c.val))=(decide (x.val∈Zt.Sm m.val)||decide (x=c)):=by decide +kernel
theorem Qj6(ns:List Int):(ns.map V.int).all QfM=true:=Zv.mpr λv hv=>by obtain⟨n,_,rfl⟩:=Ql.mp hv;rfl
theorem Qi2(x:Int):∀ns:List Int,inV (.int x) (ns.map V.int)=decide (x∈ns)
 |[]=>by simp[inV]
 |n::ns=>by
  show(eqV (.int n) (.int x)||inV (.int x) (ns.map V.int))=_;rw[Qi2 x ns,show eqV (.int n) (.int x)=decide (n=x) from rfl,ZE];simp only[Qch,decide_eq_true_eq,Qy];exact⟨λh=>h.elim (λe=>.inl e.symm) .inr,λh=>h.elim (λe=>.inl e.symm) .inr⟩
theorem daT{A:Addr->Prop}{H:Hp}{v:V}{ds:List Qb}(h:DA A H v (.tuple ds)):∃l xs,v=.ref l/\H l=some (.tup xs)/\DAs A H xs ds:=by
 cases h with
 |tup n e q=>exact⟨_,_,rfl,e,q⟩
theorem Qmo{A:Addr->Prop}{H:Hp}:∀{xs:List V}{ds:List Qb},DAs A H xs ds->∀(i:Nat)(d:Qb),ds[i]? = some d->∃x,xs[i]? = some x/\DA A H x d
 |_,_,.nil,i,d,h=>by simp at h
 |_,_,.cons q qs,0,d,h=>by simp at h;subst h;exact⟨_,rfl,q⟩
 |_,_,.cons q qs,i+1,d,h=>by
  simp only[Z3] at h;obtain⟨x,e,q⟩:=Qmo qs i d h;exact⟨x,by simpa using e,q⟩
def Qyu:Sp:=λvs H Q _=>∃(h w:Int)(cs:List (Int×Int))(rows:List Int)(v1 v2:V),vs=[v1,v2]/\DA (λ_=>False) H v1 (bdD h w cs)/\DA (λ_=>False) H v2 (tN rows)/\(∀p∈cs,0<=p.2/\p.2<6)/\∀ms:List Nat,ms.Pairwise (· < ·)->(∀x:Nat,x∈ms↔∃p∈cs,p.1∉rows/\p.2=(x:Int))->∀v H',Same H H'->DA (λ_=>False) H' v (.tuple [tN rows,.tuple (ms.map λ(x:Nat)=>Qe x)])->Q v H'
def lnK(rows:List Int)(ms:List Nat):Qb:=.tuple [tN rows,.tuple (ms.map λ(x:Nat)=>Qe x)]
def lwD:DF:=λargs R _=>∃(h w:Int)(cs:List (Int×Int))(rows:List Int),args=[.v (bdD h w cs),.v (tN rows)]/\(∀p∈cs,0<=p.2/\p.2<6)/\R (lnK rows (colK cs rows))
def Qx1:DF:=λargs R _=>∃(rows:List Int)(ms:List Nat),args=[.v (lnK rows ms)]/\R (.int ((rows.length:Int)+(ms.length:Int)))
def QhX:DF:=λargs R _=>∃h:Nat,args=[.v (.int h)]/\h<=6/\R (.list ((lotsN h).map tN))
def Qs5(cs:List (Int×Int))(h:Nat):Nat:=bstI (λi=>((costN cs ((lotsN h).getD i []):Nat):Int)) ((lotsN h).length - 1)
def QbX(cs:List (Int×Int))(h:Nat):List Int:=(lotsN h).getD (Qs5 cs h) []
def Qmf:DF:=λargs R _=>∃(h w:Nat)(cs:List (Int×Int)),args=[.v (bdD h w cs)]/\GB h w cs/\R (lnK (QbX cs h) (colK cs (QbX cs h)))
theorem Qzq{vs:List V}{H:Hp}{Q:VK}{Ex:XK}(h:Zq false lwD vs H Q Ex):Qyu vs H Q Ex:=by
 obtain⟨A,pt,args,R,EX,dm,hp,q,⟨h1,w1,cs,rows,rfl,hc,hR⟩,k,_⟩:=h;cases q with
 |cons q1 q2=>
 cases q2 with
 |cons q2 q3=>
 cases q3;have q1:DA A H _ (bdD h1 w1 cs):=q1;have q2:DA A H _ (tN rows):=q2;refine⟨h1,w1,cs,rows,_,_,rfl,q1.mv (λa o _ e=>e) (λa z=>z.elim),q2.mv (λa o _ e=>e) (λa z=>z.elim),hc,λms pw hm v H' sm da=>?_⟩;obtain rfl:=Qjf hc pw hm;refine k _ hR v H' ⟨λb o _ e=>sm _ _ e,λp pp=>?_⟩ ?_ (λz=>nomatch z)
 ·obtain⟨_,n,e⟩:=hp p pp;exact⟨n,sm _ _ e⟩
 ·have no:∀{a:Addr}{xs:List V},H' a=some (.tup xs)->¬A a:=λe z=>by
   obtain⟨ys,e2⟩:=dm _ z;rw[sm _ _ e2] at e;cases e
  obtain⟨t,xs,rfl,e,qq⟩:=daT da;cases qq with
  |cons p1 qq=>
  cases qq with
  |cons p2 qq=>
  cases qq;obtain⟨b,x1,rfl,e1,r1⟩:=daT p1;obtain⟨c,x2,rfl,e2,r2⟩:=daT p2;rw[Qbc r1] at e1;rw[Qja r2] at e2;exact .tup (no e) e (.cons (.tup (no e1) e1 (QdN rows)) (.cons (.tup (no e2) e2 (QhQ _)) .nil))
def QcV:Qb->List Int
 |.tuple ds=>ds.map toI
 |_=>[]
theorem QdG(r:List Int):QcV (tN r)=r:=by
 show(r.map Qe).map toI=r;rw[QP]
 conv=>rhs;rw[<- Qm4 r]
 exact Z1 λ_ _=>rfl
theorem QuL{n:Nat}(h:n<=6):2^n<=64:=ZV (n:=2) (by decide) h
section
variable{P:QB}{w:Ji}{K:PySem.W.Frag}{mg:Str->Option Value}{base:Heap}
theorem Qpw:(["row", "column", "rows"]:List Str).Nodup:=by decide +kernel
theorem Qul:JH ["board", "rows", "columns"] ["board", "rows"] (Qx sLW):=⟨rfl,rfl,rfl,by decide +kernel,rfl,by decide +kernel,by decide +kernel⟩
theorem QxN{f   : Addr}{fd  : QR}(F:Fun K "lines_with" "lines_with" sLW f fd)(T:GlbA mg) :
  FnOk P w K mg base CX0 1 f fd ["board", "rows"] Qyu:=by
 refine F.ok Qul (λvs H Q E h=>?_) (λcdv A outer s H vs Q E hr h=>?_)
 ·obtain⟨_,_,_,_,_,_,rfl,_⟩:=h;rfl
 ·obtain⟨h1,w1,cs,rows,v1,v2,rfl,d1,d2,hc,hR⟩:=h;have un:=hr.units;refine⟨_,Y5 (Qlm (i:=2) (M:=["row", "column", "rows"]) (cap:=[none,none,some 1]) (g:=(Qx4 K 2 (QoA (Qey 0) (QoA (Qey 1) Qx5)))) (tc:=(Qt9 (tOp (rIn K true) (Qix 0) (Qix 2)))) (te:=(Qix 1)) Qul.nd rfl rfl rfl (by rfl) (Qpo (Qlr QpC (pv 0) Yv (λ_ _=>rfl))) (λcl ex s3 H3 C=>⟨(Qpp rfl (QfB (Qd2 (i:=0) Qpw rfl (Jc rfl) (Q8 rfl)) (QfB (Qd2 (i:=1) Qpw rfl (Jc rfl) (Q8 rfl)) Qlp))),(Qll (Qfz QgB (pv 0) (pv 2) (by rfl))),(pv 1)⟩))
   (Qby (Qcx (Qlq (Qd3 (pv 1) (Qd3 (Qcy QcG (by rfl) T.tuple Qam (Qbz (Qa9 (Qfa rfl) (by rfl) T.sorted L2.boot_sorted (Qbz (pv 2) Z5)) Z5)) Z5))))),?_⟩
  obtain⟨a,xs,rfl,ea,qa⟩:=daT d1;cases qa with
  |cons qa1 qa=>
  cases qa with
  |cons qa2 qa=>
  cases qa with
  |cons qa3 qa=>
  cases qa;cases qa1;cases qa2;obtain⟨ca,ys,rfl,ec,qc⟩:=daT qa3;obtain⟨b,rs,rfl,eb,qb⟩:=daT d2;rw[Qbc qb] at eb;refine⟨_,rfl,a,_,_,_,rfl,rfl,SqT.of ea,rfl,?_⟩;refine⟨ca,rfl,⟨_,SqT.of ec⟩,λp np=>?_⟩;have pa:ca≠p:=λz=>by rw[z,np] at ec;cases ec
  have pb:b≠p:=λz=>by rw[z,np] at eb;cases eb
  have ly:ys.length=cs.length:=by have:=qc.length;rwa [Qd] at this
  refine QlV ys.length (λi H3=>∃m,m<64/\H3 p=some (.ext (smX p m (ledOf w)))/\(∀b o,b≠p->H b=some o->H3 b=some o)/\∀x:Nat,x<6->(x∈Zt.Sm m↔∃q∈cs.take i,q.1∉rows/\q.2=(x:Int))) ⟨0,by decide,JB,λb o nb e=>by rw[JU nb];exact e,λx _=>by simp[Zt.Sm]⟩ (λi H3 hi ⟨m,hm,eP,kp,iff_⟩=>?_) λH3 ⟨m,hm,eP,kp,iff_⟩=>⟨⟨ys,SqT.of (kp _ _ pa ec),Qj _⟩,?_⟩
  ·have e3:=kp _ _ pa ec;obtain⟨q,hq⟩:∃q,cs[i]? = some q:=⟨_,Qk (by omega)⟩
   obtain⟨x,hx,dx⟩:=Qmo qc i (pairD q) (by rw[QF,hq];rfl);refine⟨⟨ys,x,SqT.of e3,hx⟩,λy H4 ⟨eH,ey⟩ kk hk=>?_⟩;subst eH;have ey:=ey ys (SqT.of e3);rw[hx] at ey;cases ey;obtain⟨qa,qs,rfl,eq,qq⟩:=daT dx;cases qq with
   |cons q1 qq=>
   cases qq with
   |cons q2 qq=>
   cases qq;cases q1;cases q2;have e4:=kp _ _ (λz=>by rw[z,np] at eq;cases eq) eq;refine⟨qa,_,rfl,SqT.of e4,rfl,?_⟩;refine⟨_,_,rfl,_,_,rfl,rfl,by exact⟨rfl,trivial⟩,?_⟩;refine⟨_,rfl,_,rfl,b,_,rfl,.inr (SqT.of (kp _ _ pb eb)),rfl,Qj6 rows,_,rfl,?_⟩;show if(!inV (.int q.1) (rows.map V.int))=true then _ else _
   rw[Qi2];have qm:=Jx hq;have tk:∀r,r∈cs.take (i+1)↔r∈cs.take i∨r=q:=λr=>by rw[Qbq,hq,QX];simp
   by_cases z:q.1∈rows
   ·rw[decide_eq_true z];refine hk _ ⟨m,hm,eP,kp,λx h6=>?_⟩;rw[iff_ x h6];constructor
    ·rintro⟨r,hr,h1,h2⟩;exact⟨r,(tk r).mpr (.inl hr),h1,h2⟩
    ·rintro⟨r,hr,h1,h2⟩;rcases(tk r).mp hr with y | y
     ·exact⟨r,y,h1,h2⟩
     ·subst y;exact absurd z h1
   ·rw[decide_eq_false z];obtain⟨c0,c6⟩:=hc q qm;obtain⟨c,ec'⟩:∃c:Nat,q.2=(c:Int):=⟨q.2.toNat,by omega⟩
    have hc6:c<6:=by omega
    refine⟨_,rfl,c,m,by rw[ec'],hc6,hm,eP,hk _ ⟨m ||| 2^c,Zt.Qxc ⟨m,hm⟩ ⟨c,hc6⟩,JB,λb o nb e=>by rw[JU nb];exact kp b o nb e,λx h6=>?_⟩⟩;have so:=Qxn ⟨m,hm⟩ ⟨c,hc6⟩ ⟨x,h6⟩
    dsimp only at so
    have so:x∈Zt.Sm (m ||| 2^c)↔x∈Zt.Sm m∨x=c:=by
     rw[ZE] at so
     simpa using so
    rw[so,iff_ x h6];constructor
    ·rintro(⟨r,hr,h1,h2⟩ | y)
     ·exact⟨r,(tk r).mpr (.inl hr),h1,h2⟩
     ·exact⟨q,(tk q).mpr (.inr rfl),z,by rw[ec',y]⟩
    ·rintro⟨r,hr,h1,h2⟩;rcases(tk r).mp hr with y | y
     ·exact .inl ⟨r,y,h1,h2⟩
     ·subst y;exact .inr (by omega)
  ·refine⟨_,rfl,_,rfl,p,m,rfl,hm,eP,λt H5 s5 nt et=>⟨t,_,rfl,.inl ⟨SqL.of et,λl nl=>⟨by show 2<=1000;decide,λt2 H6 s6 n6 e6=>?_⟩⟩⟩⟩;have sm:Same H H6:=λc o e=>by
    have h5:=s5 _ _ (kp c o (λz=>by rw[z,np] at e;cases e) e);exact s6 _ _ (by rw[JU (λz=>by rw[z,nl] at h5;cases h5)];exact h5)
   have el:H6 l=some (.tup ((Zt.Sm m).map λ(n:Nat)=>V.int (n:Int))):=s6 _ _ JB;refine hR (Zt.Sm m) (Zt.Qtx ⟨m,hm⟩) (λx=>?_) (.ref t2) H6 sm (.tup (λz=>z) e6 (.cons (.tup (λz=>z) (sm _ _ eb) (QdN rows)) (.cons (.tup (λz=>z) el (Dl.QhQ _)) .nil)));rw[ly,QaC] at iff_;constructor
   ·intro hx;exact(iff_ x (Zt.Qty hx)).mp hx
   ·rintro⟨q,hq,h1,h2⟩;have:=hc q hq;exact(iff_ x (by omega)).mpr ⟨q,hq,h1,h2⟩
end
end Rk
namespace Rk
open L2 _root_.Rd
open Dl
open Rt
section
variable{P:QB}{w:Ji}{K:PySem.W.Frag}{mg:Str->Option Value}{base:Heap}
theorem Qum:JH ["lines"] ["lines"] (Qx sHow):=⟨rfl,rfl,rfl,by decide +kernel,rfl,by decide +kernel,by decide +kernel⟩
theorem Qvl{f   : Addr}{fd  : QR}(F:Fun K "how_many_lines" "how_many_lines" sHow f fd)(T:GlbA mg) :
  FnOk P w K mg base CX0 1 f fd ["lines"] (Zq false Qx1):=by
 refine okQ false F Qum (λargs R EX h=>?_) (λcdv A outer s H E hr=>?_)
 ·obtain⟨rows,ms,rfl,_⟩:=h;rfl
 ·have hU:=Room.u60 hr;have hI:=Room.i60 hr;refine⟨_,Jo (Qae (Z7 ZH Yw (Q6 (Zc Zy QaA (by rfl) T.len YV (QbS (Q4 (Y4 Jy J9 (qp 0) (Q4 Jt) (λ_ _=>rfl))) JG))) (Q6 (Zc Zy QaA (by rfl) T.len YV (QbS (Q4 (Y4 Jy J9 (qp 0) (Q4 Jt) (λ_ _=>rfl))) JG))))),λargs R EX h=>?_⟩;obtain⟨rows,ms,rfl,hR⟩:=h;refine⟨_,Jv (j:=0) rfl,_,Jv (j:=1) rfl,?_⟩;show R (.int (((rows.map Qe).length:Int)+((ms.map λ(x:Nat)=>Qe x).length:Int)));rw[Qd,Qd];exact hR
theorem Qol:(["rows", "row"]:List Str).Nodup:=by decide +kernel
theorem Qfs:JH ["high", "lots", "row"] ["high"] (Qx QjL):=⟨rfl,rfl,rfl,by decide +kernel,rfl,by decide +kernel,by decide +kernel⟩
theorem QsE{f   : Addr}{fd  : QR}(F:Fun K "lots_of_rows" "lots_of_rows" QjL f fd)(T:GlbA mg) :
  FnOk P w K mg base CX0 1 f fd ["high"] (Zq false QhX):=by
 refine okQ false F Qfs (λargs R EX h=>?_) (λcdv A outer s H E hr=>?_)
 ·obtain⟨h,rfl,_⟩:=h;rfl
 ·have hU:=Room.u60 hr;have hI:=Room.i60 hr;refine⟨_,Q2 (ZR 1 (Zw (Qgu (QcJ (Zw (Qdv JG)) JG))) Qfs.nd)
   (Q2 (Qcv JZ rfl (Qa7 (by rfl) T.range (qp 0)) (ZT 2 Qfs.nd rfl (by first | exact Jc rfl | exact Q8 rfl))
    (Jo (ZR 1 (Zw (Z7 ZH Yw (qp 1) (Q6 (YQ ["rows", "row"] [none,some 2] (Qfx (qp 1)) (λcl ex s3 H3 C=>⟨(ZT 0 Qol rfl (Jc rfl) (Q8 rfl)),YO,(Zw (Z7 ZH Yw (qp 0) (Q6 (Qdv (QcJ (qv 1) JG)))))⟩))))) Qfs.nd)))
   (Jo (YF (qv 1)))),λargs R EX h=>?_⟩
  obtain⟨h,rfl,h6,hR⟩:=h;refine⟨⟨by omega,by omega⟩,Qee (λi δ=>∃x2,δ=[.v (.int h),.v (.list ((lotsN i).map tN)),x2]) ⟨_,rfl⟩ ?_ ?_⟩
  ·rintro i δ hi ⟨x2,rfl⟩;rw[QU] at hi;have l1:=QcB i;have l2:=QuL (show i<=6 by omega);refine Qaz (λd=>tN (QcV d++[(0+(i:Int))])) (λd hd k2 hk=>?_) ?_
   ·obtain⟨r,hr,rfl⟩:=Ql.mp hd;have hk:k2 (tN (QcV (tN r)++[(0+(i:Int))])):=hk;rw[QdG] at hk;have rl:=(QcC hr).2.2;refine⟨by rw[Qd];show _+1<=_;omega,?_⟩;rw[show r.map Qe++[Qe (0+(i:Int))]=(r++[(0+(i:Int))]).map Qe by rw[Jm];rfl];exact hk
   ·refine⟨by rw[Qd,Qd,Qd];omega,.v (.int (0+(i:Int))),?_⟩;have e:((lotsN i).map tN).map (λd=>tN (QcV d++[(0+(i:Int))]))=((lotsN i).map λr=>r++[(i:Int)]).map tN:=by
     rw[QP,QP];refine Z1 λr _=>?_
     show tN (QcV (tN r)++[(0+(i:Int))])=tN (r++[(i:Int)]);rw[QdG,show(0:Int)+(i:Int)=(i:Int) by omega]
    rw[e,<- Jm];rfl
  ·rintro δ ⟨x2,rfl⟩;rw[QU];exact hR
theorem QjX:(["rows", "board"]:List Str).Nodup:=by decide +kernel
theorem Qk1:JH ["board"] ["board"] (Qx sFew):=⟨rfl,rfl,rfl,by decide +kernel,rfl,by decide +kernel,by decide +kernel⟩
theorem QlK{f f1 f2 f3  : Addr}{fd fd1 fd2 fd3:QR}(F:Fun K "fewest_lines" "fewest_lines" sFew f fd)(T:GlbA mg)
  (m1:mg "lines_with" = some (.ref f1))(G1:FnOk P w K mg base CX0 1 f1 fd1 ["board", "rows"] (Zq false lwD))(b1:Binds K fd1 ["board", "rows"] [])(k1:PySem.W.keepIn K (.ref f1)=true)
  (m2:mg "lots_of_rows" = some (.ref f2))(G2:FnOk P w K mg base CX0 1 f2 fd2 ["high"] (Zq false QhX))(b2:Binds K fd2 ["high"] [])(k2:PySem.W.keepIn K (.ref f2)=true)
  (m3:mg "how_many_lines" = some (.ref f3))(G3:FnOk P w K mg base CX0 1 f3 fd3 ["lines"] (Zq false Qx1))(b3:Binds K fd3 ["lines"] [])(k3:PySem.W.keepIn K (.ref f3)=true) :
  FnOk P w K mg base CX0 3 f fd ["board"] (Zq false Qmf):=by
 refine okQ false F Qk1 (λargs R EX h=>?_) (λcdv A outer s H E hr=>?_)
 ·obtain⟨h,w,cs,rfl,_⟩:=h;rfl
 ·have hU:=Room.u60 hr;have hI:=Room.i60 hr;refine⟨_,Jo (YF (QuD G3 (hr.mono (by decide)) (by rfl) T.min (by rfl) m3 b3 (Q6 (YQ ["rows", "board"] [none,some 0] (Qfx (Q4 (Zx G2 (hr.mono (by decide)) (by rfl) m2 k2 b2 ZJ (Yr (Y4 Jy J9 (qp 0) (Q4 Jt) (λ_ _=>rfl)) JV)))) (λcl ex s3 H3 C=>⟨(ZT 0 QjX rfl (Jc rfl) (Q8 rfl)),YO,(Zx G1 (hr.mono (by decide)) (by rfl) m1 k1 b1 ZJ (Yr (qv 1) (Yr (qv 0) JV)))⟩))))),λargs R EX h=>?_⟩;obtain⟨h,w,cs,rfl,g,hR⟩:=h;have h6:=g.bds.1;have l1:=QcB h;have l0:0<2^h:=Y7 h;refine⟨_,Jv (j:=0) rfl,h,rfl,h6,?_⟩;refine Qaz (λd=>lnK (QcV d) (colK cs (QcV d))) (λd hd k2 hk=>?_) ?_
  ·obtain⟨r,hr,rfl⟩:=Ql.mp hd;have hk:k2 (lnK (QcV (tN r)) (colK cs (QcV (tN r)))):=hk;rw[QdG] at hk;exact⟨_,_,_,r,rfl,QpL g,hk⟩
  ·have e:((lotsN h).map tN).map (λd=>lnK (QcV d) (colK cs (QcV d)))=(lotsN h).map λr=>lnK r (colK cs r):=by
    rw[QP];exact Z1 λr _=>by show lnK (QcV (tN r)) (colK cs (QcV (tN r)))=_;rw[QdG]
   rw[e];refine QsL (λi=>((costN cs ((lotsN h).getD i []):Nat):Int)) (λz=>by have:=congrArg Qm5 z;rw[Qd] at this;have:(lotsN h).length=0:=this;omega) (λi d hd=>?_) λd hd=>?_
   ·rw[QF] at hd;obtain⟨r,hr,rfl⟩:∃r,(lotsN h)[i]? = some r/\d=lnK r (colK cs r):=by
     cases z:(lotsN h)[i]? with
     |none=>rw[z] at hd;cases hd
     |some r=>rw[z] at hd;cases hd;exact⟨r,rfl,rfl⟩
    refine⟨r,_,rfl,?_⟩;show Qe _=Qe ((costN cs ((lotsN h).getD i []):Nat):Int);rw[QY,hr];show Qe _=Qe ((r.length+(colK cs r).length:Nat):Int);rw[QtR]
   ·rw[Qd,QF] at hd;have hd:((lotsN h)[Qs5 cs h]?).map (λr=>lnK r (colK cs r))=some d:=hd;have fr:QbX cs h=((lotsN h)[Qs5 cs h]?).getD []:=by unfold QbX;rw[QY]
    cases z:(lotsN h)[Qs5 cs h]? with
    |none=>rw[z] at hd;cases hd
    |some r=>
     rw[z] at hd fr;cases hd;have fr:QbX cs h=r:=fr;rw[fr] at hR;exact hR
end
def Qk6:DF:=λargs R _=>∃(h w:Nat)(cs:List (Int×Int))(k:Nat),args=[.v (bdD h w cs),.v (.int k)]/\k<=min h w/\R .none
def Qfo:DF:=λargs R _=>∃(h w:Nat)(cs:List (Int×Int))(k n:Nat)(L:List (Int×Int)),args=[.v (bdD h w cs),.v (.int k),.v (.int n)]/\GB h w cs/\k<=min h w/\(evS cs k)[n]? = some L/\R (stT L)
section
variable{P:QB}{w:Ji}{K:PySem.W.Frag}{mg:Str->Option Value}{base:Heap}
theorem Qnx:JH ["thing"] ["thing"] (Qx QeJ):=⟨rfl,rfl,rfl,by decide +kernel,rfl,by decide +kernel,by decide +kernel⟩
theorem Qod{f   : Addr}{fd  : QR}(F:Fun K "is_whole" "is_whole" QeJ f fd)(T:GlbA mg) :
  FnOk P w K mg base CX0 1 f fd ["thing"] (Zq false QdV):=by
 refine okQ false F Qnx (λargs R EX h=>?_) (λcdv A outer s H E hr=>?_)
 ·obtain⟨d,rfl,_⟩:=h;rfl
 ·have hU:=Room.u60 hr;have hI:=Room.i60 hr;refine⟨_,Jo (YF (Qlk (Q6 (Qcw .int (by rfl) T.isinstance (qp 0) (by rfl) T.int QpQ)) (QjM (QuB (Q6 (Qcw .bool (by rfl) T.isinstance (qp 0) (by rfl) T.bool QmJ)))))),λargs R EX h=>?_⟩;obtain⟨d,rfl,hR⟩:=h;cases d<;>exact hR
theorem QkS:JH ["thing", "least", "most"] ["thing", "least", "most"] (Qx QcS):=⟨rfl,rfl,rfl,by decide +kernel,rfl,by decide +kernel,by decide +kernel⟩
theorem QlD{f f1  : Addr}{fd fd1:QR}(F:Fun K "is_whole_within" "is_whole_within" QcS f fd)(T:GlbA mg)
  (m1:mg "is_whole" = some (.ref f1))(G1:FnOk P w K mg base CX0 1 f1 fd1 ["thing"] (Zq false QdV))(b1:Binds K fd1 ["thing"] [])(k1:PySem.W.keepIn K (.ref f1)=true) :
  FnOk P w K mg base CX0 2 f fd ["thing", "least", "most"] (Zq false Qfj):=by
 refine okQ false F QkS (λargs R EX h=>?_) (λcdv A outer s H E hr=>?_)
 ·obtain⟨d,a,b,rfl,_⟩:=h;rfl
 ·have hU:=Room.u60 hr;have hI:=Room.i60 hr;refine⟨_,Jo (YF (Qlk (Q4 (Zx G1 (hr.mono (by decide)) (by rfl) m1 k1 b1 ZJ (Yr (qv 0) JV))) (QjM (Zw (Qwv QjR QjR (qp 1) (qp 0) (qp 2)))))),λargs R EX h=>?_⟩;obtain⟨d,a,b,rfl,hR⟩:=h;refine⟨d,rfl,?_⟩;cases d with
  |int i=>exact QyM (QpT hR)
  |_=>exact hR
theorem Qrz:JH ["board"] ["board"] (Qx QjK):=⟨rfl,rfl,rfl,by decide +kernel,rfl,by decide +kernel,by decide +kernel⟩
theorem QsD{f   : Addr}{fd  : QR}(F:Fun K "most_size" "most_size" QjK f fd)(T:GlbA mg) :
  FnOk P w K mg base CX0 1 f fd ["board"] (Zq false Qoo):=by
 refine okQ false F Qrz (λargs R EX h=>?_) (λcdv A outer s H E hr=>?_)
 ·obtain⟨h,w,cs,rfl,_⟩:=h;rfl
 ·have hU:=Room.u60 hr;have hI:=Room.i60 hr;refine⟨_,Jo (Qae (Zc (Qg2 rfl) QoQ (by rfl) T.min QpO (QbS (Q4 (Y4 Jy J9 (qp 0) (Q4 Jt) (λ_ _=>rfl))) (QbS (Q4 (Y4 Jy J9 (qp 0) (Q4 Jt) (λ_ _=>rfl))) JG)))),λargs R EX h=>?_⟩;obtain⟨h,w,cs,rfl,hR⟩:=h;exact⟨_,Jv (j:=0) rfl,_,Jv (j:=1) rfl,QsM (by split<;>omega) hR⟩
theorem QcR:JH ["below", "columns", "taken", "ways", "column", "bit", "size", "many"] ["below", "columns", "taken"] (Qx sRow):=⟨rfl,rfl,rfl,by decide +kernel,rfl,by decide +kernel,by decide +kernel⟩
theorem Qsx{f   : Addr}{fd  : QR}(F:Fun K "ways_with_row" "ways_with_row" sRow f fd)(T:GlbA mg) :
  FnOk P w K mg base CX0 1 f fd ["below", "columns", "taken"] (Zq true Qrb):=by
 refine okQ true F QcR (λargs R EX h=>?_) (λcdv A outer s H E hr=>?_)
 ·obtain⟨h,w,B,cols,t,rfl,_⟩:=h;rfl
 ·have hU:=Room.u60 hr;have hI:=Room.i60 hr;refine⟨_,Q2 (Qfw 3 (QdJ QfY Qtp (by rfl) T.list Qts (QbS (Q4 (Y4 Jy J9 (qp 0) (qp 2) (λ_ _=>rfl))) JG)) QcR.nd)
   (Q2 (Qcv JZ rfl (Qfx (qv 1)) (ZT 4 QcR.nd rfl (by first | exact Jc rfl | exact Q8 rfl))
    (Q2 (ZR 5 (Zw (Z7 QgA QhO (Q4 Jt) (qp 4))) QcR.nd)
   (Jo (QcZ (YU (Qlc (Q6 (Z7 Qpt QgF (qp 2) (qp 5))))) (Jo (Qcv JZ rfl (QiJ (by rfl) T.enumerate (Zw (Qlj (Q4 (Y4 Jy J9 (qp 0) (Q6 (Z7 QxJ QgF (qp 2) (qp 5))) (λ_ _=>rfl))) Qlg (Qlf (Q6 (QuC (Q4 Jt))))))) (Qbh rfl (Zb 6 (Zb 7 Qbi QcR.nd rfl (by first | exact Jc rfl | exact Q8 rfl)) QcR.nd rfl (by first | exact Jc rfl | exact Q8 rfl)))
    (Jo (QrM 3 QpE QhN (Q6 (Z7 ZH Yw (qp 6) (Q4 Jt))) (qp 7))))) YY))))
   (Jo (Qld 3))),λargs R EX h=>?_⟩
  obtain⟨h,w,B,cols,t,rfl,ht,hc,h6,w6,hR⟩:=h;refine⟨_,Jv (QdW ht),?_⟩;refine QcD (λj δ=>∃ds x4 x5 x6 x7,δ=[.v (.list (QhA h w B)),.v (.list (QsX cols)),.v (.int t),.own ds,x4,x5,x6,x7]/\ds=QdH h (stepB B (cols.take j) t)) ⟨_,_,_,_,_,rfl,QaV λk _=>?_⟩ ?_ ?_
  ·show B t k=B t k+if k=0 then 0 else 0
   split<;>omega
  ·rintro j d δ hd ⟨ds,x4,x5,x6,x7,rfl,rfl⟩;unfold QsX at hd;rw[QF] at hd;obtain⟨c,ec,rfl⟩:∃c:Nat,cols[j]? = some c/\d=.int (c:Int):=by
    cases e:cols[j]? with
    |none=>rw[e] at hd;cases hd
    |some p=>rw[e] at hd;cases hd;exact⟨p,rfl,rfl⟩
   have hcw:=hc c (Jx ec);have et:cols.take (j+1)=cols.take j++[c]:=by rw[Qbq,ec];rfl
   refine⟨⟨by omega,by omega,by decide⟩,trivial,?_⟩;show if(!tru (.int (Jk (t:Int) (1*2^((c:Nat):Int).toNat))))=true then _ else _
   rw[Qtu ht hcw w6];cases hb:t.testBit c with
   |true=>
    have np:(2:Int)^c≠0:=by
     have:(0:Int)<2^c:=Int.pow_pos (by decide);omega
    rw[if_pos rfl];refine ifF ?_ ⟨_,_,_,_,_,rfl,QaV λk _=>?_⟩
    ·show(!((2:Int)^c != 0))=false;simp[np]
    ·unfold stepB;rw[et,QdY,if_pos hb,Qco]
   |false=>
    refine ifT rfl ?_
    have olt:=Qu6 ht hcw;refine⟨.list (QdH h (B (t ||| 2^c))),?_,?_⟩
    ·show atI (QhA h w B) (QcO (t:Int) (1*2^((c:Nat):Int).toNat))=_;rw[Qu7 ht hcw w6];exact Jv (QdW olt)
    ·show Qtz (QgR (Dl.cutD (QdH h (B (t ||| 2^c))) none (some (-1)))) _ _ _ _;rw[QnF];refine QcD (λi δ=>∃ds x6 x7,δ=[.v (.list (QhA h w B)),.v (.list (QsX cols)),.v (.int t),.own ds,.v (.int c),.v (.int (1*2^((c:Nat):Int).toNat)),x6,x7]/\ds=QdH h (λk=>stepB B (cols.take j) t k+if 1<=k/\k<=i then B (t ||| 2^c) (k - 1) else 0)) ⟨_,_,_,rfl,QaV λk _=>?_⟩ ?_ ?_
     ·rw[if_neg (by omega),Qco]
     ·rintro i d δ hd ⟨ds,x6,x7,rfl,rfl⟩;obtain⟨e,he,rfl⟩:=QfP hd;rw[QF] at he;have hi:i<h:=by
       by_cases z:i<h
       ·exact z
       ·rw[JR (by rw[Jf];omega)] at he;cases he
      rw[Zf hi] at he;cases he;refine⟨rfl,i+1,_,?_,Qbv (by omega),_,_,_,rfl,?_⟩
      ·rw[QbI];exact QsV (k:=i+1) (by omega)
      ·rw[QnD (by omega)];refine QaV λk hk=>?_
       show(if k=i+1 then(stepB B (cols.take j) t (i+1)+if 1<=i+1/\i+1<=i then B (t ||| 2^c) (i+1 - 1) else 0)+B (t ||| 2^c) i else stepB B (cols.take j) t k+if 1<=k/\k<=i then B (t ||| 2^c) (k - 1) else 0)=stepB B (cols.take j) t k+if 1<=k/\k<=i+1 then B (t ||| 2^c) (k - 1) else 0
       by_cases z:k=i+1
       ·subst z;rw[if_pos rfl,if_neg (by omega),if_pos (by omega),QdQ,Qco]
       ·rw[if_neg z];by_cases z2:1<=k/\k<=i
        ·rw[if_pos z2,if_pos (by omega)]
        ·rw[if_neg z2,if_neg (by omega)]
     ·rintro δ ⟨ds,x6,x7,rfl,rfl⟩;rw[QfO,Qd,Jf];refine⟨_,_,_,_,_,rfl,QaV λk hk=>?_⟩;unfold stepB;rw[et];by_cases z:k=0
      ·subst z;rw[if_pos rfl,if_neg (by omega),if_pos rfl];omega
      ·rw[if_neg z,if_neg z,if_pos (by omega),QdY,if_neg (by rw[hb];decide)];omega
  ·rintro δ ⟨ds,x4,x5,x6,x7,rfl,rfl⟩;unfold QsX;rw[Qd,QaC];exact hR
theorem Qok:(["taken", "high"]:List Str).Nodup:=by decide +kernel
theorem QiS:(["at", "column", "row"]:List Str).Nodup:=by decide +kernel
theorem Qoj:(["taken", "columns", "table"]:List Str).Nodup:=by decide +kernel
theorem Qb3:JH ["board", "high", "wide", "cells", "table", "row", "columns"] ["board"] (Qx QjG):=⟨rfl,rfl,rfl,by decide +kernel,rfl,by decide +kernel,by decide +kernel⟩
theorem Qsz{f f1  : Addr}{fd fd1:QR}(F:Fun K "ways_to_go_on" "ways_to_go_on" QjG f fd)(T:GlbA mg)
  (m1:mg "ways_with_row" = some (.ref f1))(G1:FnOk P w K mg base CX0 1 f1 fd1 ["below", "columns", "taken"] (Zq true Qrb))(b1:Binds K fd1 ["below", "columns", "taken"] [])(k1:PySem.W.keepIn K (.ref f1)=true) :
  FnOk P w K mg base CX0 2 f fd ["board"] (Zq true Qnk):=by
 refine okQ true F Qb3 (λargs R EX h=>?_) (λcdv A outer s H E hr=>?_)
 ·obtain⟨h,w,cs,rfl,_⟩:=h;rfl
 ·have hU:=Room.u60 hr;have hI:=Room.i60 hr;refine⟨_,Q2 (Qle (qv 0) (Qbh rfl (Zb 1 (Zb 2 (Zb 3 Qbi Qb3.nd rfl (by first | exact Jc rfl | exact Q8 rfl)) Qb3.nd rfl (by first | exact Jc rfl | exact Q8 rfl)) Qb3.nd rfl (by first | exact Jc rfl | exact Q8 rfl))))
   (Q2 (Qfw 4 (Qgu (QcJ (Zw (YQ ["taken", "high"] [none,some 1] (Qa7 (by rfl) T.range (Q6 (Z7 QgA QhO (Q4 Jt) (qp 2)))) (λcl ex s3 H3 C=>⟨(ZT 0 Qok rfl (Jc rfl) (Q8 rfl)),YO,(Zw (Z7 ZH Yw (Q6 (Qgu (QcJ Jt JG))) (Q6 (Z7 QhL QlQ (Q6 (Qgu (QcJ Jt JG))) (qp 1)))))⟩))) JG)) Qb3.nd)
   (Q2 (Qcv JZ rfl (Qlh (by rfl) T.reversed (by rfl) T.range (qp 1)) (ZT 5 Qb3.nd rfl (by first | exact Jc rfl | exact Q8 rfl))
    (Q2 (ZR 6 (Zw (YQ ["at", "column", "row"] [none,none,some 5] (Qbx (qp 3)) (λcl ex s3 H3 C=>⟨(Qbh rfl (Zb 0 (Zb 1 Qbi QiS rfl (Jc rfl) (Q8 rfl)) QiS rfl (Jc rfl) (Q8 rfl))),(Qd1 (QaW QiO (Qog hU) (qp 0) (qp 2) (YR _))),(qv 1)⟩))) Qb3.nd)
   (Jo (QuA 4 Jt (Zw (YQ ["taken", "columns", "table"] [none,some 6,some 4] (Qa7 (by rfl) T.range (Q6 (Z7 QgA QhO (Q4 Jt) (qp 2)))) (λcl ex s3 H3 C=>⟨(ZT 0 Qoj rfl (Jc rfl) (Q8 rfl)),YO,(Zw (QaP G1 (hr.mono (by decide)) (by rfl) m1 k1 b1 ZJ (Yr (Y4 Jy J9 (qp 2) (Q4 Jt) (λ_ _=>rfl)) (Yr (qv 1) (Yr (qv 0) JV)))))⟩)))))))
   (Jo (Qld 4)))),λargs R EX h=>?_⟩
  obtain⟨h,w,cs,rfl,h6,w6,hb,hR⟩:=h;refine⟨rfl,⟨by omega,by omega,by decide⟩,?_,Qaz (λ_=>.list (Qe 1::Jb h (.int 0))) (λd hd k2 hk=>?_) ?_⟩
  ·exact Qpm w6
  ·refine⟨⟨by omega,by omega,by rw[QU];show 1*h<=_;omega⟩,?_⟩;rw[QU,QrE];refine⟨by rw[Qap];show 1+h<=_;omega,hk⟩
  ·have e0:(Qhl 0 (1*2^((w:Nat):Int).toNat:Int).toNat).map (λ_=>Qac (Qe 1::Jb h (.int 0)))=QhA h w (Wc cs h 0):=by
    rw[QfA,QU];unfold Qhl QhA;rw[QP];refine Z1 λt _=>?_
    show Qac _=Qac _;rw[QnE]
   rw[e0];refine⟨⟨by omega,by omega⟩,QcD (λi δ=>∃ds x5 x6,δ=[.v (bdD h w cs),.v (.int h),.v (.int w),.v (.tuple (cs.map pairD)),.own ds,x5,x6]/\ds=Qiv cs h w i) ⟨_,_,_,rfl,rfl⟩ ?_ ?_⟩
   ·rintro i d δ hd ⟨ds,x5,x6,rfl,rfl⟩;obtain⟨hi,rfl⟩:=Qfu hd;rw[QU] at hi;have er:((((h:Nat):Int).toNat:Nat):Int) - 1 - (i:Int)=((h - 1 - i:Nat):Int):=by omega
    rw[er];refine Qmz (λd=>if(toP d).1=((h - 1 - i:Nat):Int) then some (.int (toP d).2) else none) (λd hd k1 k2 h1 h2=>?_) ?_
    ·obtain⟨p,_,rfl⟩:=Ql.mp hd;have h1:(if p.1=((h - 1 - i:Nat):Int) then some (Qe p.2) else none)=none->k1:=h1;have h2:∀e,(if p.1=((h - 1 - i:Nat):Int) then some (Qe p.2) else none)=some e->k2 e:=h2
     refine⟨rfl,?_⟩;show if decide (p.1=((h - 1 - i:Nat):Int))=true then k2 (.int p.2) else k1
     by_cases z:p.1=((h - 1 - i:Nat):Int)
     ·rw[if_pos (decide_eq_true z)];exact h2 _ (if_pos z)
     ·rw[if_neg (by simpa using z)];exact h1 (if_neg z)
    ·rw[Qv6 cs (h - 1 - i) λp hp=>(hb p hp).1];refine⟨⟨by omega,by omega,by decide⟩,?_,Qaz (λd=>match d with | .int t=>.list (QdH h (Wc cs h (i+1) t.toNat)) | _=>.none) (λd hd k2 hk=>?_) ?_⟩
     ·exact Qpm w6
     ·obtain⟨t,ht⟩:=Jn.mp hd;obtain⟨htl,rfl⟩:=QcW ht;rw[QfA,QU] at htl;have hk:k2 (.list (QdH h (Wc cs h (i+1) (0+(t:Int)).toNat))):=hk;rw[show(0+(t:Int)).toNat=t by omega] at hk;refine⟨_,Jv (j:=0) (Qhz cs h w i),h,w,Wc cs h i,Qm8 cs (h - 1 - i),t,by rw[show(0:Int)+(t:Int)=(t:Int) by omega],htl,λc hc=>Qth hb hc,h6,w6,hk⟩
     ·refine⟨by rw[Qit];omega,_,_,_,rfl,?_⟩;show Qac _::Qiv cs h w i=Qac (QhA h w (Wc cs h (i+1)))::Qiv cs h w i
      congr 2
      rw[QfA,QU];unfold Qhl QhA;rw[QP];refine Z1 λt _=>?_
      show Qac (QdH h (Wc cs h (i+1) (0+(t:Int)).toNat))=_;rw[show(0+(t:Int)).toNat=t by omega]
   ·rintro δ ⟨ds,x5,x6,rfl,rfl⟩;rw[QdI,QU];exact hR
theorem Qk2:JH ["board"] ["board"] (Qx QcT):=⟨rfl,rfl,rfl,by decide +kernel,rfl,by decide +kernel,by decide +kernel⟩
theorem QlM{f f1 f2  : Addr}{fd fd1 fd2:QR}(F:Fun K "counts" "counts" QcT f fd)(T:GlbA mg)
  (m1:mg "ways_to_go_on" = some (.ref f1))(G1:FnOk P w K mg base CX0 2 f1 fd1 ["board"] (Zq true Qnk))(b1:Binds K fd1 ["board"] [])(k1:PySem.W.keepIn K (.ref f1)=true)
  (m2:mg "most_size" = some (.ref f2))(G2:FnOk P w K mg base CX0 1 f2 fd2 ["board"] (Zq false Qoo))(b2:Binds K fd2 ["board"] [])(k2:PySem.W.keepIn K (.ref f2)=true) :
  FnOk P w K mg base CX0 3 f fd ["board"] (Zq true Qh7):=by
 refine okQ true F Qk2 (λargs R EX h=>?_) (λcdv A outer s H E hr=>?_)
 ·obtain⟨h,w,cs,rfl,_⟩:=h;rfl
 ·have hU:=Room.u60 hr;have hI:=Room.i60 hr;refine⟨_,Jo (Qae (Qlj (Q4 (Y4 Jy J9 (Q4 (Y4 Jy J9 (Q6 (QaP G1 (hr.mono (by decide)) (by rfl) m1 k1 b1 ZJ (Yr (qv 0) JV))) (Q4 Jt) (λ_ _=>rfl))) (Q4 Jt) (λ_ _=>rfl))) Qlg (Qlf (Q6 (Z7 ZH Yw (Q4 (Zx G2 (hr.mono (by decide)) (by rfl) m2 k2 b2 ZJ (Yr (qv 0) JV))) (Q4 Jt)))))),λargs R EX h=>?_⟩;obtain⟨h,w,cs,rfl,h6,w6,hb,hR⟩:=h;refine⟨_,_,_,rfl,h6,w6,hb,_,Jv (j:=0) (Qhz cs h w h),_,Jv (j:=0) (QdW (Y7 w)),_,_,_,rfl,?_⟩;have e:Dl.cutD (QdH h (Wc cs h h 0)) none (some (((min h w:Nat):Int)+1))=Qkn cs h w:=by
   rw[QoK _ _ (by omega)];unfold QdH Qkn;rw[<- Qwq,QtG,show min (((min h w:Nat):Int)+1).toNat (h+1)=min h w+1 by omega]
  have hR:R (.list (Qkn cs h w)):=hR;rw[<- e] at hR;exact hR
theorem Qry:JH ["start"] ["start"] (Qx QjJ):=⟨rfl,rfl,rfl,by decide +kernel,rfl,by decide +kernel,by decide +kernel⟩
theorem QsC{f   : Addr}{fd  : QR}(F:Fun K "row_behind" "row_behind" QjJ f fd)(T:GlbA mg) :
  FnOk P w K mg base CX0 1 f fd ["start"] (Zq false QnB):=by
 refine okQ false F Qry (λargs R EX h=>?_) (λcdv A outer s H E hr=>?_)
 ·obtain⟨S,rfl,_⟩:=h;rfl
 ·have hU:=Room.u60 hr;have hI:=Room.i60 hr;refine⟨_,Jo (YF (Qxv (Qlc (qp 0)) (Zw (Z7 ZH Yw (Q4 (Y4 Jy J9 (Q4 (Y4 Jy J9 (qp 0) (Q6 (QuC (Q4 Jt))) (λ_ _=>rfl))) (Q4 Jt) (λ_ _=>rfl))) (Q4 Jt))) Jt)),λargs R EX h=>?_⟩;obtain⟨S,rfl,hR⟩:=h;refine⟨trivial,?_⟩;unfold rbI at hR;cases e:S.getLast? with
  |none=>
   rw[e] at hR;rw[List.getLast?_eq_none_iff] at e;subst e;exact hR
  |some c=>
   rw[e] at hR;refine ifT ?_ ⟨_,QsS e,_,Jv (j:=0) rfl,hR⟩
   cases S with
   |nil=>cases e
   |cons a b=>rfl
theorem QsK:(["cell"]:List Str).Nodup:=by decide +kernel
theorem QsJ:(["cell", "row", "taken"]:List Str).Nodup:=by decide +kernel
theorem Qk0:JH ["board", "start", "row", "taken"] ["board", "start"] (Qx sFol):=⟨rfl,rfl,rfl,by decide +kernel,rfl,by decide +kernel,by decide +kernel⟩
theorem Qvm{f f1  : Addr}{fd fd1:QR}(F:Fun K "followers" "followers" sFol f fd)(T:GlbA mg)
  (m1:mg "row_behind" = some (.ref f1))(G1:FnOk P w K mg base CX0 1 f1 fd1 ["start"] (Zq false QnB))(b1:Binds K fd1 ["start"] [])(k1:PySem.W.keepIn K (.ref f1)=true) :
  FnOk P w K mg base CX0 2 f fd ["board", "start"] (Zq false Qx6):=by
 refine okQ false F Qk0 (λargs R EX h=>?_) (λcdv A outer s H E hr=>?_)
 ·obtain⟨h,w,cs,S,rfl,_⟩:=h;rfl
 ·have hU:=Room.u60 hr;have hI:=Room.i60 hr;refine⟨_,Q2 (ZR 2 (Zx G1 (hr.mono (by decide)) (by rfl) m1 k1 b1 ZJ (Yr (qv 1) JV)) Qk0.nd)
   (Q2 (ZR 3 (Zw (YQ ["cell"] [none] (Qbx (qp 1)) (λcl ex s3 H3 C=>⟨(ZT 0 QsK rfl (Jc rfl) (Q8 rfl)),YO,(Y4 Jy J9 (qp 0) (Q4 Jt) (λ_ _=>rfl))⟩))) Qk0.nd)
   (Jo (Qae (YQ ["cell", "row", "taken"] [none,some 2,some 3] (Qbx (Q4 (Y4 Jy J9 (qp 0) (Q4 Jt) (λ_ _=>rfl)))) (λcl ex s3 H3 C=>⟨(ZT 0 QsJ rfl (Jc rfl) (Q8 rfl)),(Qd1 (Qm6 (Quz (QaW Qsu QeS (Q4 (Y4 Jy J9 (qp 0) (Q4 Jt) (λ_ _=>rfl))) (qp 1) (YR _)) (QrJ (QaW QgC (QlR hI) (Q4 (Y4 Jy J9 (qp 0) (Q4 Jt) (λ_ _=>rfl))) (qp 2) (by rfl)))))),(qv 0)⟩))))),λargs R EX h=>?_⟩
  obtain⟨h,w,cs,S,rfl,hR⟩:=h;refine⟨_,rfl,Qaz (λd=>.int (toP d).2) (λd hd k2 hk=>?_) ?_⟩
  ·obtain⟨p,_,rfl⟩:=Ql.mp hd;exact⟨_,Jv (j:=1) rfl,hk⟩
  ·rw[show(S.map pairD).map (λd=>Qe (toP d).2)=(S.map (·.2)).map Qe by rw[QP,QP];rfl];refine⟨_,Jv (j:=2) rfl,Qmz (λd=>if(λc:Int×Int=>decide (rbI S<=c.1) && !decide (c.2∈S.map (·.2))) (toP d)=true then some d else none) (λd hd k1 k2 h1 h2=>?_) ?_⟩
   ·obtain⟨c,_,rfl⟩:=Ql.mp hd;have h1:(if(decide (rbI S<=c.1) && !decide (c.2∈S.map (·.2)))=true then some (pairD c) else none)=none->k1:=h1;have h2:∀e,(if(decide (rbI S<=c.1) && !decide (c.2∈S.map (·.2)))=true then some (pairD c) else none)=some e->k2 e:=h2
    refine⟨_,Jv (j:=0) rfl,?_⟩;refine ifC (λz1=>?_) λz1=>?_
    ·have z1:decide (rbI S<=c.1)=true:=z1;rw[z1,Zk] at h1 h2;refine⟨_,Jv (j:=1) rfl,⟨QbK _,rfl,by show Yk (.int _)<=50;unfold Yk;decide⟩,?_⟩;show if(!((S.map (·.2)).map Qe).any λe=>Jj e (.int c.2))=true then _ else k1
     rw[Qil];by_cases z:(!decide (c.2∈S.map (·.2)))=true
     ·rw[if_pos z];exact h2 _ (if_pos z)
     ·rw[if_neg z];exact h1 (if_neg z)
    ·have z1:decide (rbI S<=c.1)=false:=z1;rw[z1] at h1;exact h1 rfl
   ·rw[QoC (λc:Int×Int=>decide (rbI S<=c.1) && !decide (c.2∈S.map (·.2)))];exact hR
theorem Qny:JH ["board", "size"] ["board", "size"] (Qx QeK):=⟨rfl,rfl,rfl,by decide +kernel,rfl,by decide +kernel,by decide +kernel⟩
theorem Qoe{f f1 f2  : Addr}{fd fd1 fd2:QR}(F:Fun K "refuse_no_size" "refuse_no_size" QeK f fd)(T:GlbA mg)
  (m1:mg "is_whole_within" = some (.ref f1))(G1:FnOk P w K mg base CX0 2 f1 fd1 ["thing", "least", "most"] (Zq false Qfj))(b1:Binds K fd1 ["thing", "least", "most"] [])(k1:PySem.W.keepIn K (.ref f1)=true)
  (m2:mg "most_size" = some (.ref f2))(G2:FnOk P w K mg base CX0 1 f2 fd2 ["board"] (Zq false Qoo))(b2:Binds K fd2 ["board"] [])(k2:PySem.W.keepIn K (.ref f2)=true) :
  FnOk P w K mg base CX0 3 f fd ["board", "size"] (Zq false Qk6):=by
 refine okQ false F Qny (λargs R EX h=>?_) (λcdv A outer s H E hr=>?_)
 ·obtain⟨h,w,cs,k,rfl,_⟩:=h;rfl
 ·have hU:=Room.u60 hr;have hI:=Room.i60 hr;refine⟨_,Jo (QcZ (YU (Y9 (Q4 (Zx G1 (hr.mono (by decide)) (by rfl) m1 k1 b1 ZJ (Yr (qv 1) (Yr Jt (Yr (Zx G2 (hr.mono (by decide)) (by rfl) m2 k2 b2 ZJ (Yr (qv 0) JV)) JV))))))) Qgt YY),λargs R EX h=>?_⟩;obtain⟨h,w,cs,k,rfl,hk,hR⟩:=h;refine⟨_,_,_,rfl,_,_,_,rfl,?_⟩;show if(!inW (.int k) 0 ((min h w:Nat):Int))=true then _ else _
  rw[Ql7 (by omega) (by omega)];exact hR
theorem QiR:(["row", "column"]:List Str).Nodup:=by decide +kernel
theorem QkT:JH ["table", "start", "more", "taken"] ["table", "start", "more"] (Qx QjH):=⟨rfl,rfl,rfl,by decide +kernel,rfl,by decide +kernel,by decide +kernel⟩
theorem Qsy{f f1  : Addr}{fd fd1:QR}(F:Fun K "ways_behind" "ways_behind" QjH f fd)(T:GlbA mg)
  (m1:mg "row_behind" = some (.ref f1))(G1:FnOk P w K mg base CX0 1 f1 fd1 ["start"] (Zq false QnB))(b1:Binds K fd1 ["start"] [])(k1:PySem.W.keepIn K (.ref f1)=true) :
  FnOk P w K mg base CX0 2 f fd ["table", "start", "more"] (Zq false Qre):=by
 refine okQ false F QkT (λargs R EX h=>?_) (λcdv A outer s H E hr=>?_)
 ·obtain⟨h,w,cs,S,k,rfl,_⟩:=h;rfl
 ·have hU:=Room.u60 hr;have hI:=Room.i60 hr;refine⟨_,Q2 (ZR 3 (Zw (Zc (QmE rfl) Qv8 (by rfl) T.sum Qwa (QbS (Q6 (YQ ["row", "column"] [none,none] (Qbx (qp 1)) (λcl ex s3 H3 C=>⟨(Qbh rfl (Zb 0 (Zb 1 Qbi QiR rfl (Jc rfl) (Q8 rfl)) QiR rfl (Jc rfl) (Q8 rfl))),YO,(Zw (Z7 QgA QhO (Q4 Jt) (qp 1)))⟩))) JG))) QkT.nd)
   (Jo (YF (Y4 Jy J9 (Q4 (Y4 Jy J9 (Q4 (Y4 Jy J9 (qp 0) (Q4 (Zx G1 (hr.mono (by decide)) (by rfl) m1 k1 b1 ZJ (Yr (qv 1) JV))) (λ_ _=>rfl))) (qp 3) (λ_ _=>rfl))) (qp 2) (λ_ _=>rfl)))),λargs R EX h=>?_⟩
  obtain⟨h,w,cs,S,k,rfl,g,st,hk,hR⟩:=h;have rb:=Qup g st;have hw:=g.bds.2.1;have hb:∀p∈S,0<=p.2/\p.2<(w:Int):=λp hp=>g.bds.col p (st.sub p hp)
  have ms:=Qpx hw (T:=[]) (S:=S) hb st.cols (Y7 w);rw[QaT] at ms;refine Qaz (λd=>.int (1*2^(toP d).2.toNat)) (λd hd k2 hk=>?_) ?_
  ·obtain⟨p,hp,rfl⟩:=Ql.mp hd;have:=hb p hp;exact⟨rfl,⟨by omega,by show p.2<=_;omega,by decide⟩,hk⟩
  ·have es:(S.map pairD).map (λd=>Qe (1*2^(toP d).2.toNat))=(S.map λp=>(1*2^p.2.toNat:Int)).map Qe:=by rw[QP,QP];rfl
   rw[es];refine Qrp _ rfl ?_
   have e2:(S.map λp=>(1*2^p.2.toNat:Int)).sum=((mkL S:Nat):Int):=by
    have:=ms.1;rw[show((mkL []:Nat):Int)=0 from rfl,QeE] at this;exact this
   rw[e2];obtain⟨r,er⟩:∃r:Nat,rbI S=r:=⟨(rbI S).toNat,by omega⟩
   have xl:=Qky g k S st;rw[er,QU] at xl;rw[xl] at hR;refine⟨_,rfl,.list (QhA h w (Wc cs h (h - r))),?_,_,Jv (QdW ms.2),_,Jv (Qbv hk),hR⟩;rw[er];exact Jv (Qiu cs h w h r (by omega))
theorem Qaw:JH ["board", "table", "start", "more", "number", "cells", "at", "ways"] ["board", "table", "start", "more", "number"] (Qx QcU):=⟨rfl,rfl,rfl,by decide +kernel,rfl,by decide +kernel,by decide +kernel⟩
theorem QlN{f f1 f2  : Addr}{fd fd1 fd2:QR}(F:Fun K "cell_at" "cell_at" QcU f fd)(T:GlbA mg)
  (m1:mg "followers" = some (.ref f1))(G1:FnOk P w K mg base CX0 2 f1 fd1 ["board", "start"] (Zq false Qx6))(b1:Binds K fd1 ["board", "start"] [])(k1:PySem.W.keepIn K (.ref f1)=true)
  (m2:mg "ways_behind" = some (.ref f2))(G2:FnOk P w K mg base CX0 2 f2 fd2 ["table", "start", "more"] (Zq false Qre))(b2:Binds K fd2 ["table", "start", "more"] [])(k2:PySem.W.keepIn K (.ref f2)=true) :
  FnOk P w K mg base CX0 3 f fd ["board", "table", "start", "more", "number"] (Zq false Qid):=by
 refine okQ false F Qaw (λargs R EX h=>?_) (λcdv A outer s H E hr=>?_)
 ·obtain⟨h,w,cs,S,m,n,rfl,_⟩:=h;rfl
 ·have hU:=Room.u60 hr;have hI:=Room.i60 hr;refine⟨_,Q2 (ZR 5 (Zx G1 (hr.mono (by decide)) (by rfl) m1 k1 b1 ZJ (Yr (qv 0) (Yr (qv 2) JV))) Qaw.nd)
   (Q2 (ZR 6 Jt Qaw.nd)
   (Q2 (ZR 7 (Zx G2 (hr.mono (by decide)) (by rfl) m2 k2 b2 ZJ (Yr (qv 1) (Yr (Zw (Z7 ZH Yw (qp 2) (Q6 (Qdv (QcJ (Y4 Jy J9 (qp 5) (qp 6) (λ_ _=>rfl)) JG))))) (Yr (qv 3) JV)))) Qaw.nd)
   (Q2 (QnH JZ (QaW Qsu QeS (qp 4) (qp 7) (YR _))
    (Q2 (Qpi 4 QvH QhN (qp 7) Qaw.nd)
   (Q2 (Qpi 6 QpE QhN (Q4 Jt) Qaw.nd)
   (Jo (ZR 7 (Zx G2 (hr.mono (by decide)) (by rfl) m2 k2 b2 ZJ (Yr (qv 1) (Yr (Zw (Z7 ZH Yw (qp 2) (Q6 (Qdv (QcJ (Y4 Jy J9 (qp 5) (qp 6) (λ_ _=>rfl)) JG))))) (Yr (qv 3) JV)))) Qaw.nd)))))
   (Jo (Qae (Qdv (QcJ (Y4 Jy J9 (qp 5) (qp 6) (λ_ _=>rfl)) (QcJ (qv 4) JG)))))))),λargs R EX h=>?_⟩
  obtain⟨h,w,cs,S,m,n,rfl,g,st,hm,hn,hR⟩:=h;have en:xts cs (m+1) S=(fol cs S).flatMap λc=>xts cs m (S++[c]):=rfl
  rw[en] at hn hR;have lS:(S.map pairD).length=S.length:=Qd _;have sl:=QkL g st;have h6:=g.bds.1;refine⟨_,_,_,_,rfl,?_⟩;have get:∀a,a<(fol cs S).length->((fol cs S).map pairD)[a]? = some (pairD ((fol cs S).getD a (0,0)))/\(fol cs S).getD a (0,0)∈fol cs S/\(fol cs S).drop a=(fol cs S).getD a (0,0)::(fol cs S).drop (a+1):=λa ha=>by
   have e:(fol cs S).getD a (0,0)=(fol cs S)[a]:=by rw[QY,Qk ha];rfl
   refine⟨by rw[QF,Qk ha,e];rfl,by rw[e];exact Z9 ha,by rw[e];exact ZN ha⟩
  have l0:0<(fol cs S).length:=by
   cases e:fol cs S with
   |nil=>rw[e] at hn;exact absurd hn (QtP _)
   |cons a b=>rw[QL];omega
  have wy:∀(a:Nat)(ha:a<(fol cs S).length),Zh (S.map pairD++[pairD ((fol cs S).getD a (0,0))])=stT (S++[(fol cs S).getD a (0,0)]):=λa _=>by
   show _=Zh ((S++[(fol cs S).getD a (0,0)]).map pairD);rw[Jm];rfl
  refine⟨_,Jv (get 0 l0).1,by rw[lS];show _+1<=_;omega,?_⟩;refine⟨h,w,cs,S++[(fol cs S).getD 0 (0,0)],m,by rw[wy 0 l0],g,QfL st (get 0 l0).2.1,by omega,?_⟩;refine QtV (λz δ=>∃a n2:Nat,z=(fol cs S).length - a/\a<(fol cs S).length/\δ=[.v (bdD h w cs),.v (.list (Qiv cs h w h)),.v (stT S),.v (.int m),.v (.int n2),.v (.list ((fol cs S).map pairD)),.v (.int a),.v (.int ((xts cs m (S++[(fol cs S).getD a (0,0)])).length:Nat))]/\n2<(((fol cs S).drop a).flatMap λc=>xts cs m (S++[c])).length/\((fol cs S).flatMap λc=>xts cs m (S++[c]))[n]? = (((fol cs S).drop a).flatMap λc=>xts cs m (S++[c]))[n2]?) _ ⟨0,n,rfl,l0,rfl,hn,rfl⟩ ?_
  rintro z δ ⟨a,n2,rfl,ha,rfl,hn2,he⟩;obtain⟨g1,g2,g3⟩:=get a ha;rw[g3,ZY,Qo] at hn2;rw[g3,ZY] at he;refine ifC (λy=>?_) λy=>?_
  ·have y:((xts cs m (S++[(fol cs S).getD a (0,0)])).length:Int)<=(n2:Int):=of_decide_eq_true y;have ha2:a+1<(fol cs S).length:=by
    by_cases q:a+1<(fol cs S).length
    ·exact q
    ·rw[List.drop_eq_nil_of_le (by omega)] at hn2;exact absurd hn2 (by show ¬n2<_+0;omega)
   obtain⟨f1,f2,f3⟩:=get (a+1) ha2;refine⟨pairD ((fol cs S).getD (a+1) (0,0)),by rw[show(a:Int)+1=((a+1:Nat):Int) by omega];exact Jv f1,by rw[lS];show _+1<=_;omega,?_⟩;refine⟨h,w,cs,S++[(fol cs S).getD (a+1) (0,0)],m,by rw[<- wy (a+1) ha2],g,QfL st f2,by omega,?_⟩;refine⟨(fol cs S).length - (a+1),by omega,a+1,n2 - (xts cs m (S++[(fol cs S).getD a (0,0)])).length,rfl,ha2,?_,by omega,?_⟩
   ·rw[show((n2 - (xts cs m (S++[(fol cs S).getD a (0,0)])).length:Nat):Int)=(n2:Int) - ((xts cs m (S++[(fol cs S).getD a (0,0)])).length:Int) by omega,show((a+1:Nat):Int)=(a:Int)+1 by omega];rfl
   ·rw[he,JF (by omega)]
  ·have y:(n2:Int)<((xts cs m (S++[(fol cs S).getD a (0,0)])).length:Int):=by have:=of_decide_eq_false y;omega
   refine⟨_,Jv g1,hR _ n2 g2 (by omega) ?_⟩;rw[he,Zi (by omega)]
theorem YD:JH ["board", "size", "number", "table", "stand", "left", "more", "cell"] ["board", "size", "number"] (Qx QbH):=⟨rfl,rfl,rfl,by decide +kernel,rfl,by decide +kernel,by decide +kernel⟩
theorem QjT{f f1 f2 f3 f4  : Addr}{fd fd1 fd2 fd3 fd4:QR}(F:Fun K "stand_at" "stand_at" QbH f fd)(T:GlbA mg)
  (m1:mg "refuse_no_size" = some (.ref f1))(G1:FnOk P w K mg base CX0 3 f1 fd1 ["board", "size"] (Zq false Qk6))(b1:Binds K fd1 ["board", "size"] [])(k1:PySem.W.keepIn K (.ref f1)=true)
  (m2:mg "ways_to_go_on" = some (.ref f2))(G2:FnOk P w K mg base CX0 2 f2 fd2 ["board"] (Zq true Qnk))(b2:Binds K fd2 ["board"] [])(k2:PySem.W.keepIn K (.ref f2)=true)
  (m3:mg "is_whole_within" = some (.ref f3))(G3:FnOk P w K mg base CX0 2 f3 fd3 ["thing", "least", "most"] (Zq false Qfj))(b3:Binds K fd3 ["thing", "least", "most"] [])(k3:PySem.W.keepIn K (.ref f3)=true)
  (m4:mg "cell_at" = some (.ref f4))(G4:FnOk P w K mg base CX0 3 f4 fd4 ["board", "table", "start", "more", "number"] (Zq false Qid))(b4:Binds K fd4 ["board", "table", "start", "more", "number"] [])(k4:PySem.W.keepIn K (.ref f4)=true) :
  FnOk P w K mg base CX0 4 f fd ["board", "size", "number"] (Zq false Qfo):=by
 refine okQ false F YD (λargs R EX h=>?_) (λcdv A outer s H E hr=>?_)
 ·obtain⟨h,w,cs,k,n,L,rfl,_⟩:=h;rfl
 ·have hU:=Room.u60 hr;have hI:=Room.i60 hr;refine⟨_,Q2 (QrL (Q4 (Zx G1 (hr.mono (by decide)) (by rfl) m1 k1 b1 ZJ (Yr (qv 0) (Yr (qv 1) JV)))))
   (Q2 (ZR 3 (Zw (QaP G2 (hr.mono (by decide)) (by rfl) m2 k2 b2 ZJ (Yr (qv 0) JV))) YD.nd)
   (Q2 (QcZ (YU (Y9 (Q4 (Zx G3 (hr.mono (by decide)) (by rfl) m3 k3 b3 ZJ (Yr (qv 2) (Yr Jt (Yr (Zw (Z7 Qlz QgF (Q4 (Y4 Jy J9 (Q4 (Y4 Jy J9 (Q4 (Y4 Jy J9 (qp 3) (Q4 Jt) (λ_ _=>rfl))) (Q4 Jt) (λ_ _=>rfl))) (qp 1) (λ_ _=>rfl))) (Q4 Jt))) JV))))))) Qgt YY)
   (Q2 (ZR 4 (Zw (Qdv JG)) YD.nd)
   (Q2 (ZR 5 (qv 2) YD.nd)
   (Q2 (Qcv JZ rfl (Qlh (by rfl) T.reversed (by rfl) T.range (qp 1)) (ZT 6 YD.nd rfl (by first | exact Jc rfl | exact Q8 rfl))
    (Q2 (Qle (Zx G4 (hr.mono (by decide)) (by rfl) m4 k4 b4 ZJ (Yr (qv 0) (Yr (qv 3) (Yr (qv 4) (Yr (qv 6) (Yr (qv 5) JV)))))) (Qbh rfl (Zb 7 (Zb 5 Qbi YD.nd rfl (by first | exact Jc rfl | exact Q8 rfl)) YD.nd rfl (by first | exact Jc rfl | exact Q8 rfl))))
   (Jo (ZR 4 (Zw (Z7 ZH Yw (qp 4) (Q6 (Qdv (QcJ (qv 7) JG))))) YD.nd))))
   (Jo (YF (qv 4)))))))),λargs R EX h=>?_⟩
  obtain⟨h,w,cs,k,n,L,rfl,g,hk,eL,hR⟩:=h;refine⟨_,_,_,_,rfl,hk,?_⟩;have h6:=g.bds.1;have w6:=g.bds.2.1;refine⟨_,_,_,rfl,h6,w6,g.bds.col,?_⟩;refine⟨_,Jv (j:=0) (Qhz cs h w h),_,Jv (j:=0) (QdW (Y7 w)),_,Jv (Qbv (show k<=h by omega)),?_⟩;refine⟨_,_,_,rfl,?_⟩;show if(!inW (.int n) 0 (Wc cs h h 0 k - 1))=true then _ else _
  rw[QfN g];have hn:=(QQ.mp eL).1;rw[Ql7 (by omega) (by omega)];refine ifF rfl ?_
  ·rw[<- Qs6] at eL hn;refine⟨⟨by omega,by omega⟩,QcD (λi δ=>∃(S:List (Int×Int))(n2:Nat)(x6 x7:Sl),δ=[.v (bdD h w cs),.v (.int k),.v (.int n),.v (.list (Qiv cs h w h)),.v (stT S),.v (.int n2),x6,x7]/\Std cs S/\S.length=i/\n2<(xts cs (k - i) S).length/\(xts cs (k - i) S)[n2]? = some L) ⟨[],n,_,_,rfl,.nil,rfl,hn,eL⟩ ?_ ?_⟩
   ·rintro i d δ hd ⟨S,n2,x6,x7,rfl,st,lS,hn2,e2⟩;obtain⟨hi,rfl⟩:=Qfu hd;rw[QU] at hi;have er:((((k:Nat):Int).toNat:Nat):Int) - 1 - (i:Int)=((k - i - 1:Nat):Int):=by omega
    rw[er];have ek:k - i=(k - i - 1)+1:=by omega
    rw[ek] at hn2 e2;refine⟨_,_,_,_,_,_,rfl,g,st,by omega,hn2,λc n3 hc hc3 ee3=>⟨rfl,?_⟩⟩;have es:stT (S++[c])=.tuple (S.map pairD++[pairD c]):=by unfold stT;rw[Jm];rfl
    refine⟨by rw[Qd];show _+1<=_;omega,S++[c],n3,.v (.int ((k - i - 1:Nat):Int)),.v (pairD c),by rw[es];rfl,QfL st hc,by rw[Qo,lS];rfl,?_,?_⟩
    ·rw[show k - (i+1)=k - i - 1 by omega];exact hc3
    ·rw[show k - (i+1)=k - i - 1 by omega,<- ee3];exact e2
   ·rintro δ ⟨S,n2,x6,x7,rfl,st,lS,hn2,e2⟩;rw[QdI,QU,QeB] at hn2 e2;have hn2:n2<1:=hn2;obtain rfl:n2=0:=by omega
    have e2:=Qs e2;rw[e2];exact hR
theorem QgH:(["size", "many"]:List Str).Nodup:=by decide +kernel
theorem Qnz:JH ["board"] ["board"] (Qx QeL):=⟨rfl,rfl,rfl,by decide +kernel,rfl,by decide +kernel,by decide +kernel⟩
theorem Qof{f f1  : Addr}{fd fd1:QR}(F:Fun K "greatest_size" "greatest_size" QeL f fd)(T:GlbA mg)
  (m1:mg "counts" = some (.ref f1))(G1:FnOk P w K mg base CX0 3 f1 fd1 ["board"] (Zq true Qh7))(b1:Binds K fd1 ["board"] [])(k1:PySem.W.keepIn K (.ref f1)=true) :
  FnOk P w K mg base CX0 4 f fd ["board"] (Zq false Qmb):=by
 refine okQ false F Qnz (λargs R EX h=>?_) (λcdv A outer s H E hr=>?_)
 ·obtain⟨h,w,cs,rfl,_⟩:=h;rfl
 ·have hU:=Room.u60 hr;have hI:=Room.i60 hr;refine⟨_,Jo (Qae (Zc (QmG rfl) Qtn (by rfl) T.max QpP (QbS (Q6 (YQ ["size", "many"] [none,none] (QiJ (by rfl) T.enumerate (Q6 (QaP G1 (hr.mono (by decide)) (by rfl) m1 k1 b1 ZJ (Yr (qv 0) JV)))) (λcl ex s3 H3 C=>⟨(Qbh rfl (Zb 0 (Zb 1 Qbi QgH rfl (Jc rfl) (Q8 rfl)) QgH rfl (Jc rfl) (Q8 rfl))),(Qd1 (QaW QxL QeS (qp 1) (Q4 Jt) (YR _))),(qv 0)⟩))) JG))),λargs R EX h=>?_⟩;obtain⟨h,w,cs,rfl,b,hR⟩:=h;refine⟨_,_,_,rfl,b.1,b.2.1,b.col,Qmz (λd=>match d with | .tuple [.int k,.int n]=>if 0<n then some (.int k) else none | _=>none) (λd hd k1 k2 h1 h2=>?_) ?_⟩
  ·obtain⟨k,hk⟩:=Jn.mp hd;obtain⟨e,he,rfl⟩:=QfP hk;obtain⟨n,rfl⟩:=QoO (Jx he);have h1:(if 0<n then some (Qe (k:Int)) else none)=none->k1:=h1;have h2:∀e,(if 0<n then some (Qe (k:Int)) else none)=some e->k2 e:=h2
   refine⟨rfl,?_⟩;show if decide (0<n)=true then k2 (.int (k:Int)) else k1
   by_cases z:0<n
   ·rw[if_pos (decide_eq_true z)];exact h2 _ (if_pos z)
   ·rw[if_neg (by simpa using z)];exact h1 (if_neg z)
  ·have e:(QgR (Qkn cs h w)).filterMap (λd=>match d with | .tuple [.int k,.int n]=>if 0<n then some (Qe k) else none | _=>none)=(((Je (min h w+1)).filter λk=>decide (0<Wc cs h h 0 k)).map λ(k:Nat)=>(k:Int)).map Qe:=by
    unfold QgR;rw[ZK,QP,QoN];refine QoD λk hk=>?_
    have hk:=Js.mp hk;have e1:(Qkn cs h w).getD k .none=.int (Wc cs h h 0 k):=by
     unfold Qkn;rw[QY,QF,Zf hk];rfl
    show(match Zh [.int (k:Int),(Qkn cs h w).getD k .none] with | .tuple [.int k,.int n]=>if 0<n then some (Qe k) else none | _=>none)=_;rw[e1];show(if 0<Wc cs h h 0 k then some (Qe (k:Int)) else none)=if decide (0<Wc cs h h 0 k)=true then _ else _
    by_cases z:0<Wc cs h h 0 k
    ·rw[if_pos z,if_pos (decide_eq_true z)];rfl
    ·rw[if_neg z,if_neg (by simpa using z)]
   rw[e];have mem:∀{k:Nat},k<=min h w->0<Wc cs h h 0 k->(k:Int)∈((Je (min h w+1)).filter λk=>decide (0<Wc cs h h 0 k)).map λ(k:Nat)=>(k:Int):=λ{k} h1 h2=>Ql.mpr ⟨k,Qu.mpr ⟨Js.mpr (by omega),decide_eq_true h2⟩,rfl⟩
   refine QsO (Qad (mem (Qr _) (by rw[QpV];decide))) λm hm hmx=>?_
   obtain⟨k,hk,rfl⟩:=Ql.mp hm;have hk:=Qu.mp hk;refine hR k ⟨by have:=Js.mp hk.1;omega,of_decide_eq_true hk.2,λj hj hp=>?_⟩;have:=hmx _ (mem hj hp);omega
end
def Qa1(h b:Nat):List Int:=((Je h).filter λk=>decide (Jk ((b:Int) / 2^k) 1=1)).map λ(k:Nat)=>(k:Int)
theorem Qrw:∀h:Fin 7,((Je (2^h.val)).all λb=>decide (Qa1 h.val b∈lotsN h.val))=true:=by decide +kernel
theorem Qnw:∀h:Fin 7,((lotsN h.val).all λr=>(Je (2^h.val)).any λb=>decide (Qa1 h.val b=r))=true:=by decide +kernel
theorem Qs4(h b:Nat):(Qhl 0 ((h:Nat):Int).toNat).filterMap (λd=>match d with | .int k=>if Jk ((b:Int) / 2^k.toNat) 1=1 then some (Qe k) else none | _=>none)=(Qa1 h b).map Qe:=by
 unfold Qhl Qa1;rw[QU,ZK,QP];have key:∀l:List Nat,l.filterMap ((λd=>match d with | .int k=>if Jk ((b:Int) / 2^k.toNat) 1=1 then some (Qe k) else none | _=>none)∘λ(i:Nat)=>Qe (0+(i:Int)))=(l.filter λk=>decide (Jk ((b:Int) / 2^k) 1=1)).map (Qe∘λ(k:Nat)=>(k:Int)):=λl=>by
  induction l with
  |nil=>rfl
  |cons k l ih=>
   have e:((λd=>match d with | .int k=>if Jk ((b:Int) / 2^k.toNat) 1=1 then some (Qe k) else none | _=>none)∘λ(i:Nat)=>Qe (0+(i:Int))) k=if Jk ((b:Int) / 2^k) 1=1 then some (Qe (k:Int)) else none:=by
    show(if Jk ((b:Int) / 2^(0+(k:Int)).toNat) 1=1 then some (Qe (0+(k:Int))) else none)=_;rw[show(0+(k:Int)).toNat=k by omega,show(0:Int)+(k:Int)=(k:Int) by omega]
   rw[Z4,e,ih];by_cases z:Jk ((b:Int) / 2^k) 1=1
   ·rw[if_pos z,Zz (p:=λ(k:Nat)=>decide (Jk ((b:Int) / 2^k) 1=1)) (decide_eq_true z)];rfl
   ·rw[if_neg z,ZA (p:=λ(k:Nat)=>decide (Jk ((b:Int) / 2^k) 1=1)) (by simpa using z)]
 exact key _
def Qmy(cs:List (Int×Int))(r:List Int):List Nat:=(cs.filter λp => !decide (p.1∈r)).map λp=>p.2.toNat
theorem Qtg{cs:List (Int×Int)}(h6:∀p∈cs,0<=p.2/\p.2<6){r:List Int}{ms:List Nat}(pw:ms.Pairwise (· < ·))(h:∀x,x∈ms↔x∈Qmy cs r):ms=colK cs r:=by
 refine Qjf h6 pw λx=>?_
 rw[h x];unfold Qmy;rw[Ql];constructor
 ·rintro⟨p,hp,rfl⟩;obtain⟨a,b⟩:=Qu.mp hp;have:=h6 p a;exact⟨p,a,by simpa using b,by omega⟩
 ·rintro⟨p,hp,h1,h2⟩;exact⟨p,Qu.mpr ⟨hp,by simpa using h1⟩,by omega⟩
def Qnp(cs:List (Int×Int))(r:List Int):Int×List Int×List Int:=(((costN cs r:Nat):Int),r,(colK cs r).map λ(x:Nat)=>(x:Int))
def Qmw:DF:=λargs R _=>∃(h w:Nat)(cs:List (Int×Int)),args=[.v (bdD h w cs)]/\GB h w cs/\∀(r:List Int)(rest:List Qb),r∈lotsN h->(∀q∈lotsN h,costN cs r<=costN cs q)->R (.list (lnK r (colK cs r)::rest))
theorem QoE{cs:List (Int×Int)}(h6:∀p∈cs,0<=p.2/\p.2<6)(r:List Int):(cs.map pairD).filterMap (λd=>if(!decide ((toP d).1∈r))=true then some (Qe (toP d).2) else none)=(Qmy cs r).map λ(n:Nat)=>Qe n:=by
 unfold Qmy;rw[ZK,QP];induction cs with
 |nil=>rfl
 |cons p cs ih=>
  have ih:=ih λq hq=>h6 q (.tail _ hq)
  have hp:=h6 p (.head _);have e:((λd=>if(!decide ((toP d).1∈r))=true then some (Qe (toP d).2) else none)∘pairD) p=if(!decide (p.1∈r))=true then some (Qe p.2) else none:=rfl
  by_cases z:(!decide (p.1∈r))=true
  ·rw[if_pos z] at e;rw[Z4,e,Zz (p:=λp:Int×Int => !decide (p.1∈r)) z,Jh];show Qe p.2::_=Qe ((p.2.toNat:Nat):Int)::_;rw[show((p.2.toNat:Nat):Int)=p.2 by omega,<- ih]
  ·rw[if_neg z] at e;rw[Z4,e,ZA (p:=λp:Int×Int => !decide (p.1∈r)) z];exact ih
theorem Qxa{a b:Int×List Int×List Int}(h:ltD (trD b) (trD a)=false):a.1<=b.1:=by
 refine Int.not_lt.mp λz=>?_
 have:ltD (trD b) (trD a)=true:=by
  show isL (thn (Qeq b.1 a.1) _)=true;unfold Qeq;rw[if_pos z];rfl
 rw[h] at this;cases this
theorem Qln(h:Nat):(1:Int)*2^((h:Nat):Int).toNat=((2^h:Nat):Int):=by rw[QU,Qni];push_cast;rfl
section
variable{P:QB}{w:Ji}{K:PySem.W.Frag}{mg:Str->Option Value}{base:Heap}
theorem QjY:(["_law_row", "_law_bits"]:List Str).Nodup:=by decide +kernel
theorem QeU:(["_law_row", "_law_column", "_law_rows"]:List Str).Nodup:=by decide +kernel
theorem Qc1:(["_law_many", "_law_rows", "_law_columns"]:List Str).Nodup:=by decide +kernel
theorem Qbu:JH ["_law_board_here", "_law_found", "_law_bits", "_law_rows", "_law_columns"] ["_law_board_here"] (Qx Qc4):=⟨rfl,rfl,rfl,by decide +kernel,rfl,by decide +kernel,by decide +kernel⟩
theorem QlL{f   : Addr}{fd  : QR}(F:Fun K "_law_covers" "_law_covers" Qc4 f fd)(T:GlbA mg) :
  FnOk P w K mg base CX0 2 f fd ["_law_board_here"] (Zq false Qmw):=by
 refine okQ false F Qbu (λargs R EX h=>?_) (λcdv A outer s H E hr=>?_)
 ·obtain⟨h,w,cs,rfl,_⟩:=h;rfl
 ·have hU:=Room.u60 hr;have hI:=Room.i60 hr;refine⟨_,Q2 (Qfw 1 (Qgu JG) Qbu.nd)
   (Q2 (Qcv JZ rfl (Qa7 (by rfl) T.range (Q6 (Z7 QgA QhO (Q4 Jt) (Q4 (Y4 Jy J9 (qp 0) (Q4 Jt) (λ_ _=>rfl)))))) (ZT 2 Qbu.nd rfl (by first | exact Jc rfl | exact Q8 rfl))
    (Q2 (ZR 3 (Zw (QdJ QaQ QfW (by rfl) T.tuple Qam (QbS (Q6 (YQ ["_law_row", "_law_bits"] [none,some 2] (Qa7 (by rfl) T.range (Q4 (Y4 Jy J9 (qp 0) (Q4 Jt) (λ_ _=>rfl)))) (λcl ex s3 H3 C=>⟨(ZT 0 QjY rfl (Jc rfl) (Q8 rfl)),(Qd1 (QaW QiO (Qog hU) (Q6 (Z7 Qpt QgF (Q6 (Z7 Qu9 QhO (qp 1) (qp 0))) (Q4 Jt))) (Q4 Jt) (YR _))),(qv 0)⟩))) JG))) Qbu.nd)
   (Q2 (ZR 4 (Zw (Qli (by rfl) T.sorted (by rfl) T.set (Q6 (YQ ["_law_row", "_law_column", "_law_rows"] [none,none,some 3] (Qbx (Q4 (Y4 Jy J9 (qp 0) (Q4 Jt) (λ_ _=>rfl)))) (λcl ex s3 H3 C=>⟨(Qbh rfl (Zb 0 (Zb 1 Qbi QeU rfl (Jc rfl) (Q8 rfl)) QeU rfl (Jc rfl) (Q8 rfl))),(Qd1 (QaW QgC (QlR hI) (qp 0) (qp 2) (by rfl))),(qv 1)⟩))))) Qbu.nd)
   (Jo (Qpj 1 (Zw (Qdv (QcJ (Zw (Z7 ZH Yw (Q6 (Zc Zy QaA (by rfl) T.len YV (QbS (qp 3) JG))) (Q6 (Zc Zy QaA (by rfl) T.len YV (QbS (qp 4) JG))))) (QcJ (qv 3) (QcJ (Zw (QdJ QaQ QfW (by rfl) T.tuple Qam (QbS (qp 4) JG))) JG))))))))))
   (Jo (Qae (YQ ["_law_many", "_law_rows", "_law_columns"] [none,none,none] (Qfx (Q6 (Zc (Qka hU) QoP (by rfl) T.sorted Qg4 (QbS (qp 1) JG)))) (λcl ex s3 H3 C=>⟨(Qbh rfl (Zb 0 (Zb 1 (Zb 2 Qbi Qc1 rfl (Jc rfl) (Q8 rfl)) Qc1 rfl (Jc rfl) (Q8 rfl)) Qc1 rfl (Jc rfl) (Q8 rfl))),YO,(Zw (Qdv (QcJ (qv 1) (QcJ (qv 2) JG))))⟩))))),λargs R EX h=>?_⟩
  obtain⟨h,w,cs,rfl,g,hR⟩:=h;have h6:=g.bds.1;have hc:=QpL g;have hp:=QuL h6;have hp0:0<2^h:=Y7 h;have b0:(0:Int)<=1*2^((h:Nat):Int).toNat/\(1*2^((h:Nat):Int).toNat:Int)<=64:=by rw[Qln];exact⟨Qbf _,Int.ofNat_le.mpr hp⟩
  refine⟨_,Jv (j:=0) rfl,⟨by omega,by omega,by decide⟩,⟨Int.le_trans (by decide) b0.1,Int.le_trans b0.2 (by decide)⟩,Qee (λi δ=>∃x2 x3 x4,δ=[.v (bdD h w cs),.own (((Je i).map λb=>trD (Qnp cs (Qa1 h b)))),x2,x3,x4]) ⟨_,_,_,rfl⟩ ?_ ?_⟩
  ·rintro i δ hi ⟨x2,x3,x4,rfl⟩;rw[Qln,QU] at hi;refine⟨_,Jv (j:=0) rfl,⟨by omega,by omega⟩,Qmz (λd=>match d with | .int k=>if Jk ((i:Int) / 2^k.toNat) 1=1 then some (Qe k) else none | _=>none) (λd hd k1 k2 g1 g2=>?_) ?_⟩
   ·obtain⟨k,hk⟩:=Jn.mp hd;obtain⟨hlt,rfl⟩:=QcW hk;have g1:(if Jk ((i:Int) / 2^(0+(k:Int)).toNat) 1=1 then some (Qe (0+(k:Int))) else none)=none->k1:=g1;have g2:∀e,(if Jk ((i:Int) / 2^(0+(k:Int)).toNat) 1=1 then some (Qe (0+(k:Int))) else none)=some e->k2 e:=g2
    refine⟨by show(0:Int)<=0+(k:Int);omega,?_⟩;show if decide (Jk ((0+(i:Int)) / 2^(0+(k:Int)).toNat) 1=1)=true then _ else _
    rw[show(0:Int)+(i:Int)=(i:Int) by omega];by_cases z:Jk ((i:Int) / 2^(0+(k:Int)).toNat) 1=1
    ·rw[if_pos (decide_eq_true z)];exact g2 _ (if_pos z)
    ·rw[if_neg (by simpa using z)];exact g1 (if_neg z)
   ·rw[Qs4];have ll:(Qa1 h i).length<=6:=by
     unfold Qa1;rw[Qd];have:=Qaq (λk=>decide (Jk ((i:Int) / 2^k) 1=1)) (Je h);rw[Jf] at this;omega
    refine⟨_,Jv (j:=2) rfl,Qmz (λd=>if(!decide ((toP d).1∈Qa1 h i))=true then some (Qe (toP d).2) else none) (λd hd k1 k2 g1 g2=>?_) ?_⟩
    ·obtain⟨q,_,rfl⟩:=Ql.mp hd;refine⟨rfl,⟨QbK _,rfl,by show 0<=_;omega⟩,?_⟩;show if(!((Qa1 h i).map Qe).any λe=>Jj e (.int q.1))=true then _ else k1
     rw[Qil];have g1:(if(!decide (q.1∈Qa1 h i))=true then some (Qe q.2) else none)=none->k1:=g1;have g2:∀e,(if(!decide (q.1∈Qa1 h i))=true then some (Qe q.2) else none)=some e->k2 e:=g2
     by_cases z:(!decide (q.1∈Qa1 h i))=true
     ·rw[if_pos z];exact g2 _ (if_pos z)
     ·rw[if_neg z];exact g1 (if_neg z)
    ·rw[QoE hc];refine QrA (Qmy cs (Qa1 h i)) (λn hn=>by
      obtain⟨p,hp,rfl⟩:=Ql.mp hn;have:=hc p (Qu.mp hp).1;omega) λms pw mem=>?_
     obtain rfl:=Qtg hc pw mem;refine⟨by rw[Qd,Jf];omega,.v (.int (0+(i:Int))),.v (tN (Qa1 h i)),.v (.list ((colK cs (Qa1 h i)).map λ(n:Nat)=>Qe n)),?_⟩;rw[Qcb,Jm];have e:Zh [.int (((Qa1 h i).map Qe).length+((colK cs (Qa1 h i)).map λ(n:Nat)=>Qe n).length:Int),tN (Qa1 h i),.tuple ((colK cs (Qa1 h i)).map λ(n:Nat)=>Qe n)]=trD (Qnp cs (Qa1 h i)):=by
      unfold trD Qnp costN;rw[Qd,Qd,QtR];show _=Zh [_,_,.tuple (((colK cs (Qa1 h i)).map λ(x:Nat)=>(x:Int)).map Qe)];rw[QP];rfl
     rw[<- show[Zh [.int (((Qa1 h i).map Qe).length+((colK cs (Qa1 h i)).map λ(n:Nat)=>Qe n).length:Int),tN (Qa1 h i),.tuple ((colK cs (Qa1 h i)).map λ(n:Nat)=>Qe n)]]=[i].map (λb=>trD (Qnp cs (Qa1 h b))) by rw[e];rfl];rfl
  ·rintro δ ⟨x2,x3,x4,rfl⟩;rw[Qln,QU];have e0:((Je (2^h)).map λb=>trD (Qnp cs (Qa1 h b)))=(((Je (2^h)).map λb=>Qnp cs (Qa1 h b))).map trD:=by rw[QP];rfl
   rw[e0];refine(Qnu (QhC _) λes pm pw=>?_).1;obtain⟨Us,pu,rfl⟩:=Qdi trD pm rfl;refine Qaz Qvt (λd hd k2 hk=>?_) ?_
   ·obtain⟨t,_,rfl⟩:=Ql.mp hd;exact⟨rfl,hk⟩
   ·have si:=Zv.mp (Qrw ⟨h,by omega⟩);have sall:=Zv.mp (Qnw ⟨h,by omega⟩);cases Us with
    |nil=>have:=pu.length_eq;rw[Qd,Jf] at this;have:0=2^h:=this;omega
    |cons u us=>
     obtain⟨b,hb,eb⟩:=Ql.mp (pu.mem_iff.mp (List.Mem.head us));have hd0:=(Qdy.mp pw).1;have min:∀q∈lotsN h,costN cs (Qa1 h b)<=costN cs q:=λq hq=>by
      obtain⟨b2,hb2,e2⟩:=YN.mp (sall q hq);have e2:Qa1 h b2=q:=of_decide_eq_true e2;have m2:Qnp cs (Qa1 h b2)∈u::us:=pu.mem_iff.mpr (Ql.mpr ⟨b2,hb2,rfl⟩);rw[e2,<- eb] at m2;rcases Qy.mp m2 with z | z
      ·have:costN cs q=costN cs (Qa1 h b):=by have:=congrArg Prod.fst z;exact Int.ofNat.inj this
       omega
      ·have:=Qxa (hd0 _ (Ql.mpr ⟨_,z,rfl⟩));rw[<- eb] at this;have:((costN cs (Qa1 h b):Nat):Int)<=((costN cs q:Nat):Int):=this;omega
     have r:=hR (Qa1 h b) ((us.map trD).map Qvt) (of_decide_eq_true (si b hb)) min;rw[<- eb];have e3:Qvt (trD (Qnp cs (Qa1 h b)))=lnK (Qa1 h b) (colK cs (Qa1 h b)):=by
      show Zh [tN (Qa1 h b),.tuple (((colK cs (Qa1 h b)).map λ(x:Nat)=>(x:Int)).map Qe)]=_;rw[QP];rfl
     show R (.list (Qvt (trD (Qnp cs (Qa1 h b)))::(us.map trD).map Qvt));rw[e3];exact r
end
section
variable{P:QB}{w:Ji}{K:PySem.W.Frag}{mg:Str->Option Value}{base:Heap}
theorem QkU:JH ["_law_thing"] ["_law_thing"] (Qx QeY):=⟨rfl,rfl,rfl,by decide +kernel,rfl,by decide +kernel,by decide +kernel⟩
theorem QlE{f   : Addr}{fd  : QR}(F:Fun K "_law_whole" "_law_whole" QeY f fd)(T:GlbA mg) :
  FnOk P w K mg base CX0 1 f fd ["_law_thing"] (Zq false QdV):=by
 refine okQ false F QkU (λargs R EX h=>?_) (λcdv A outer s H E hr=>?_)
 ·obtain⟨d,rfl,_⟩:=h;rfl
 ·have hU:=Room.u60 hr;have hI:=Room.i60 hr;refine⟨_,Jo (YF (Qlk (Q6 (Qcw .int (by rfl) T.isinstance (qp 0) (by rfl) T.int QpQ)) (QjM (QuB (Q6 (Qcw .bool (by rfl) T.isinstance (qp 0) (by rfl) T.bool QmJ)))))),λargs R EX h=>?_⟩;obtain⟨d,rfl,hR⟩:=h;cases d<;>exact hR
theorem Yu:JH ["_law_pot_here", "_law_most", "_law_high", "_law_wide", "_law_way", "_law_thick", "_law_cells", "_law_row", "_law_column", "_law_drawn", "_law_some"] ["_law_pot_here", "_law_most"] (Qx Qe2):=⟨rfl,rfl,rfl,by decide +kernel,rfl,by decide +kernel,by decide +kernel⟩
theorem QlI{f f1  : Addr}{fd fd1:QR}(F:Fun K "_law_board" "_law_board" Qe2 f fd)(T:GlbA mg)
  (m1:mg "_law_take" = some (.ref f1))(G1:FnOk P w K mg base CX0 1 f1 fd1 ["_law_pot_here", "_law_far"] (Zq true Qrj))(b1:Binds K fd1 ["_law_pot_here", "_law_far"] [])(k1:PySem.W.keepIn K (.ref f1)=true) :
  FnOk P w K mg base CX0 2 f fd ["_law_pot_here", "_law_most"] (Zq false Qh0):=by
 refine okQ false F Yu (λargs R EX h=>?_) (λcdv A outer s H E hr=>?_)
 ·obtain⟨m,rfl,_⟩:=h;rfl
 ·have hU:=Room.u60 hr;have hI:=Room.i60 hr;refine⟨_,Q2 (ZR 2 (Zw (Z7 ZH Yw (Q4 Jt) (Q6 (QaP G1 (hr.mono (by decide)) (by rfl) m1 k1 b1 ZJ (QeN 0 (Yr (qv 1) JV)))))) Yu.nd)
   (Q2 (ZR 3 (Zw (Z7 ZH Yw (Q4 Jt) (Q6 (QaP G1 (hr.mono (by decide)) (by rfl) m1 k1 b1 ZJ (QeN 0 (Yr (qv 1) JV)))))) Yu.nd)
   (Q2 (ZR 4 (Zw (QaP G1 (hr.mono (by decide)) (by rfl) m1 k1 b1 ZJ (QeN 0 (Yr Jt JV)))) Yu.nd)
   (Q2 (ZR 5 (Zw (Z7 ZH Yw (Q4 Jt) (Q6 (QaP G1 (hr.mono (by decide)) (by rfl) m1 k1 b1 ZJ (QeN 0 (Yr Jt JV)))))) Yu.nd)
   (Q2 (Qfw 6 (Qgu JG) Yu.nd)
   (Q2 (Qcv JZ rfl (Qa7 (by rfl) T.range (qp 2)) (ZT 7 Yu.nd rfl (by first | exact Jc rfl | exact Q8 rfl))
    (Jo (Qcv JZ rfl (Qa7 (by rfl) T.range (qp 3)) (ZT 8 Yu.nd rfl (by first | exact Jc rfl | exact Q8 rfl))
    (Q2 (ZR 9 (Zw (Qfy QjQ QeS (Q6 (QaP G1 (hr.mono (by decide)) (by rfl) m1 k1 b1 ZJ (QeN 0 (Yr Jt JV)))) (qp 5) (YR _))) Yu.nd)
   (Q2 (ZR 10 (Zw (Z7 ZH Yw (Q6 (Z7 QhL QlQ (Q6 (Qgu (QcJ (qv 9) JG))) (Q4 Jt))) (Q6 (Qgu (QcJ Qkm (QcJ Qkm (QcJ (Zw (Qfy QjQ QeS (qp 8) (qp 7) (YR _))) (QcJ (Zw (Qfy QiO (Qog hU) (Q6 (Z7 QgD QhO (Q6 (Z7 ZH Yw (qp 7) (qp 8))) (Q4 Jt))) (Q4 Jt) (YR _))) (QcJ (Zw (Qfy QjR QeS (qp 7) (qp 8) (YR _))) JG))))))))) Yu.nd)
   (Jo (QcZ (Qlc (Q4 (Y4 Jy J9 (qp 10) (qp 4) (λ_ _=>rfl)))) (Jo (Qpj 6 (Zw (Qdv (QcJ (qv 7) (QcJ (qv 8) JG)))))) YY)))))))
   (Jo (Qae (Qdv (QcJ (qv 2) (QcJ (qv 3) (QcJ (Zw (QdJ QaQ QfW (by rfl) T.tuple Qam (QbS (qp 6) JG))) JG))))))))))),λargs R EX h=>?_⟩
  obtain⟨m,rfl,m1,m6,hR⟩:=h;refine⟨_,rfl,by omega,by omega,λrh rh0 rh1=>⟨_,rfl,by omega,by omega,λrw0 rw1 rw2=>?_⟩⟩;refine⟨_,rfl,by decide,by decide,λway way0 way1=>⟨_,rfl,by decide,by decide,λth th0 th1=>?_⟩⟩;obtain⟨h,hh⟩:∃h:Nat,(h:Int)=1+rh:=⟨(1+rh).toNat,by omega⟩
  obtain⟨w,hw⟩:∃w:Nat,(w:Int)=1+rw0:=⟨(1+rw0).toNat,by omega⟩
  rw[<- hh,<- hw];refine⟨⟨by omega,by omega⟩,Qee (λi δ=>∃f ds x1 x2 x3 x4,δ=[.pot,.v (.int m),.v (.int h),.v (.int w),.v (.int way),.v (.int (1+th)),.own ds,x1,x2,x3,x4]/\ds=(cellsF i w f).map pairD) ⟨λ_ _=>false,_,_,_,_,_,rfl,rfl⟩ ?_ ?_⟩
  ·rintro i δ hi ⟨f,ds,x1,x2,x3,x4,rfl,rfl⟩;refine⟨⟨by omega,by omega⟩,Qee (λj δ=>∃f ds x2 x3 x4,δ=[.pot,.v (.int m),.v (.int h),.v (.int w),.v (.int way),.v (.int (1+th)),.own ds,.v (.int (0+(i:Int))),x2,x3,x4]/\ds=(cellsF i w f++Qdt i j f).map pairD) ⟨f,_,_,_,_,rfl,by rw[show Qdt i 0 f=[] from rfl,Jr]⟩ ?_ ?_⟩
   ·rintro j δ hj ⟨f,ds,x2,x3,x4,rfl,rfl⟩;refine⟨_,rfl,by decide,by decide,λdr dr0 dr1=>?_⟩;refine⟨⟨by decide,by decide,by show 1*5<=_;decide⟩,by show(0:Int)<2;decide,by show 5+5<=_;decide,?_⟩;refine QxS way0 (by show way<10;exact way1) λd hd=>?_
    obtain⟨b,rfl⟩:∃b,d=.bool b:=QaR (p:=λd=>∃b,d=Qbp b) ⟨_,rfl⟩ (QaR ⟨_,rfl⟩ (QaR ⟨_,rfl⟩ (QaR ⟨_,rfl⟩ (QaR ⟨_,rfl⟩ (QaR ⟨_,rfl⟩ (QaR ⟨_,rfl⟩ (QaR ⟨_,rfl⟩ (QaR ⟨_,rfl⟩ (QaR ⟨_,rfl⟩ Qwf))))))))) d hd
    refine⟨trivial,?_⟩;have ec:cellsF i w (Qrh f i j b)++Qdt i (j+1) (Qrh f i j b)=cellsF i w f++Qdt i j f++(if b=true then[((i:Int),(j:Int))] else[]):=by
     rw[Qj8 (Qj _),Qk4,QnC (Qj _),<- QJ,show Qrh f i j b i j=b from if_pos ⟨rfl,rfl⟩]
    cases b with
    |false=>
     refine⟨Qrh f i j false,_,_,_,_,rfl,?_⟩;rw[ec,if_neg (by decide),Jr]
    |true=>
     have l1:=Qe9 w f i;have l2:=Qft i j f;have l3:i*w<=6*6:=Nat.mul_le_mul (by omega) (by omega);refine⟨by rw[Qd,Qo];omega,Qrh f i j true,_,_,_,_,rfl,?_⟩;rw[ec,if_pos rfl,Jm (l₁:=cellsF i w f++Qdt i j f),show(0:Int)+(i:Int)=(i:Int) by omega,show(0:Int)+(j:Int)=(j:Int) by omega];rfl
   ·rintro δ ⟨f,ds,x2,x3,x4,rfl,rfl⟩;exact⟨f,_,_,_,_,_,rfl,by rw[Y0,QU]⟩
  ·rintro δ ⟨f,ds,x1,x2,x3,x4,rfl,rfl⟩;rw[QU];exact hR h w f (by omega) (by omega) (by omega) (by omega)
theorem QkW:JH ["_law_thing", "_law_high", "_law_wide"] ["_law_thing", "_law_high", "_law_wide"] (Qx Qe0):=⟨rfl,rfl,rfl,by decide +kernel,rfl,by decide +kernel,by decide +kernel⟩
theorem QlG{f f1  : Addr}{fd fd1:QR}(F:Fun K "_law_is_place" "_law_is_place" Qe0 f fd)(T:GlbA mg)
  (m1:mg "_law_whole" = some (.ref f1))(G1:FnOk P w K mg base CX0 1 f1 fd1 ["_law_thing"] (Zq false QdV))(b1:Binds K fd1 ["_law_thing"] [])(k1:PySem.W.keepIn K (.ref f1)=true) :
  FnOk P w K mg base CX0 2 f fd ["_law_thing", "_law_high", "_law_wide"] (Zq false QhW):=by
 refine okQ false F QkW (λargs R EX h=>?_) (λcdv A outer s H E hr=>?_)
 ·obtain⟨d,h,w,rfl,_⟩:=h;rfl
 ·have hU:=Room.u60 hr;have hI:=Room.i60 hr;refine⟨_,Q2 (QcZ (Qm6 (Qdu (YU (Y9 (Q6 (Qcw .tuple (by rfl) T.isinstance (qp 0) (by rfl) T.tuple Qam)))) (Qdu (QaW QeP (QjU hU) (Q6 (Zc Zy QaA (by rfl) T.len YV (QbS (qp 0) JG))) (Q4 Jt) (YR _)) (Qdu (YU (Y9 (Q4 (Zx G1 (hr.mono (by decide)) (by rfl) m1 k1 b1 ZJ (Yr (Y4 Jy J9 (qp 0) (Q4 Jt) (λ_ _=>rfl)) JV))))) (Qcu (YU (Y9 (Q4 (Zx G1 (hr.mono (by decide)) (by rfl) m1 k1 b1 ZJ (Yr (Y4 Jy J9 (qp 0) (Q4 Jt) (λ_ _=>rfl)) JV)))))))))) (Jo (YF Qkm)) YY)
   (Jo (YF (Qlk (Q6 (Qwv QjR QjQ (Q4 Jt) (Q4 (Y4 Jy J9 (qp 0) (Q4 Jt) (λ_ _=>rfl))) (qp 1))) (QjM (Zw (Qwv QjR QjQ (Q4 Jt) (Q4 (Y4 Jy J9 (qp 0) (Q4 Jt) (λ_ _=>rfl))) (qp 2))))))),λargs R EX h=>?_⟩
  obtain⟨d,h,w,rfl,hR⟩:=h;cases d with
  |tuple ds=>
   match ds,hR with
   |[a,b],hR=>
    have hR:R (.bool (inW a 0 (h - 1)&&inW b 0 (w - 1))):=hR;rw[<- Qh2,<- Qh2] at hR;refine⟨a,rfl,a,rfl,?_⟩;cases a with
    |int i=>
     refine⟨b,rfl,b,rfl,?_⟩;cases b with
     |int j=>
      refine⟨.int i,rfl,?_⟩;have hR:R (.bool ((decide (0<=i)&&decide (i<h))&&(decide (0<=j)&&decide (j<w)))):=hR;refine ifC (λz1=>?_) λz1=>?_
      ·rw[show decide (0<=i)=true from z1,Zk] at hR;refine ifC (λz2=>?_) λz2=>?_
       ·rw[show decide (i<h)=true from z2,Zk] at hR;refine⟨.int j,rfl,ifC (λz3=>?_) λz3=>?_⟩
        ·rw[show decide (0<=j)=true from z3,Zk] at hR;exact hR
        ·rw[show decide (0<=j)=false from z3,Zl] at hR;exact hR
       ·rw[show decide (i<h)=false from z2,Zl] at hR;exact hR
      ·rw[show decide (0<=i)=false from z1,Zl,Zl] at hR;exact hR
     |_=>simp only[inL,QtT] at hR;exact hR
    |_=>exact hR
   |[],hR=>exact hR
   |[_],hR=>exact hR
   |a::b::c::r,hR=>
    exact hR
  |_=>exact hR
theorem QjV:(["_law_k", "_law_things"]:List Str).Nodup:=by decide +kernel
theorem QkV:JH ["_law_things"] ["_law_things"] (Qx QeZ):=⟨rfl,rfl,rfl,by decide +kernel,rfl,by decide +kernel,by decide +kernel⟩
theorem QlF{f   : Addr}{fd  : QR}(F:Fun K "_law_rises" "_law_rises" QeZ f fd)(T:GlbA mg) :
  FnOk P w K mg base CX0 1 f fd ["_law_things"] (Zq false QfH):=by
 refine okQ false F QkV (λargs R EX h=>?_) (λcdv A outer s H E hr=>?_)
 ·obtain⟨ds,rfl | rfl,_⟩:=h<;>rfl
 ·have hU:=Room.u60 hr;have hI:=Room.i60 hr;refine⟨_,Jo (Qae (Zc QcH (QgY rfl) (by rfl) T.all Qg5 (QbS (Q6 (YQ ["_law_k", "_law_things"] [none,some 0] (Qa7 (by rfl) T.range (Q6 (Z7 Qlz QgF (Q6 (Zc Zy QaA (by rfl) T.len YV (QbS (qp 0) JG))) (Q4 Jt)))) (λcl ex s3 H3 C=>⟨(ZT 0 QjV rfl (Jc rfl) (Q8 rfl)),YO,(Zw (Qfy (Qvd hU) Qvn (Q4 (Y4 Jy J9 (qp 1) (qp 0) (λ_ _=>rfl))) (Q4 (Y4 Jy J9 (qp 1) (Q6 (Z7 ZH Yw (qp 0) (Q4 Jt))) (λ_ _=>rfl))) (YR _)))⟩))) JG))),λargs R EX h=>?_⟩;obtain⟨ds,h,hc,hl,hR⟩:=h;have go:∀(i:Int)(k:Nat),i=k->k<ds.length->atI ds i=some (ds.getD k .none):=λi k e hk=>by rw[e];exact Jv (by rw[Qk hk,QY,Qk hk];rfl)
  have gm:∀k,k<ds.length->ds.getD k .none∈ds:=λk hk=>by rw[QY,Qk hk];exact Z9 hk
  rcases h with rfl | rfl
  ·refine⟨⟨by omega,by omega⟩,Qaz (λd=>.bool (QrD ds d)) (λd hd k2 hk=>?_) (Qdc (items:=Qhl 0 ((ds.length:Int) - 1).toNat) rfl (by rw[Qgr];exact hR))⟩;obtain⟨k,hk'⟩:=Jn.mp hd;obtain⟨hlt,rfl⟩:=QcW hk';have hk:k2 (.bool (ltD (ds.getD (0+(k:Int)).toNat .none) (ds.getD ((0+(k:Int)).toNat+1) .none))):=hk;rw[show(0+(k:Int)).toNat=k by omega] at hk;have m1:=gm k (by omega);have m2:=gm (k+1) (by omega);exact⟨_,go (0+(k:Int)) k (by omega) (by omega),_,go (0+(k:Int)+1) (k+1) (by omega) (by omega),⟨(hc _ m1).1,(hc _ m2).1,(hc _ m1).2.2 _ m2,(hc _ m1).2.1⟩,hk⟩
  ·refine⟨⟨by omega,by omega⟩,Qaz (λd=>.bool (QrD ds d)) (λd hd k2 hk=>?_) (Qdc (items:=Qhl 0 ((ds.length:Int) - 1).toNat) rfl (by rw[Qgr];exact hR))⟩;obtain⟨k,hk'⟩:=Jn.mp hd;obtain⟨hlt,rfl⟩:=QcW hk';have hk:k2 (.bool (ltD (ds.getD (0+(k:Int)).toNat .none) (ds.getD ((0+(k:Int)).toNat+1) .none))):=hk;rw[show(0+(k:Int)).toNat=k by omega] at hk;have m1:=gm k (by omega);have m2:=gm (k+1) (by omega);exact⟨_,go (0+(k:Int)) k (by omega) (by omega),_,go (0+(k:Int)+1) (k+1) (by omega) (by omega),⟨(hc _ m1).1,(hc _ m2).1,(hc _ m1).2.2 _ m2,(hc _ m1).2.1⟩,hk⟩
theorem Qon:(["_law_cell", "_law_board_here"]:List Str).Nodup:=by decide +kernel
theorem Qom:(["_law_cell", "_law_board_here"]:List Str).Nodup:=by decide +kernel
theorem QiU:(["_law_row", "_law_column"]:List Str).Nodup:=by decide +kernel
theorem QiT:(["_law_row", "_law_column"]:List Str).Nodup:=by decide +kernel
theorem QkX:JH ["_law_board_here", "_law_thing", "_law_lines"] ["_law_board_here", "_law_thing"] (Qx lIsS):=⟨rfl,rfl,rfl,by decide +kernel,rfl,by decide +kernel,by decide +kernel⟩
theorem QsF{f f1 f2  : Addr}{fd fd1 fd2:QR}(F:Fun K "_law_is_stand" "_law_is_stand" lIsS f fd)(T:GlbA mg)
  (m1:mg "_law_is_place" = some (.ref f1))(G1:FnOk P w K mg base CX0 2 f1 fd1 ["_law_thing", "_law_high", "_law_wide"] (Zq false QhW))(b1:Binds K fd1 ["_law_thing", "_law_high", "_law_wide"] [])(k1:PySem.W.keepIn K (.ref f1)=true)
  (m2:mg "_law_rises" = some (.ref f2))(G2:FnOk P w K mg base CX0 1 f2 fd2 ["_law_things"] (Zq false QfH))(b2:Binds K fd2 ["_law_things"] [])(k2:PySem.W.keepIn K (.ref f2)=true) :
  FnOk P w K mg base CX0 3 f fd ["_law_board_here", "_law_thing"] (Zq false QhV):=by
 refine okQ false F QkX (λargs R EX h=>?_) (λcdv A outer s H E hr=>?_)
 ·obtain⟨h,w,cs,d,rfl,_⟩:=h;rfl
 ·have hU:=Room.u60 hr;have hI:=Room.i60 hr;refine⟨_,Q2 (QcZ (Qm6 (Qdu (YU (Y9 (Q6 (Qcw .tuple (by rfl) T.isinstance (qp 1) (by rfl) T.tuple Qam)))) (Qcu (YU (Y9 (Q6 (Zc QcH (QgY rfl) (by rfl) T.all Qg5 (QbS (Q6 (YQ ["_law_cell", "_law_board_here"] [none,some 0] (Qbx (qp 1)) (λcl ex s3 H3 C=>⟨(ZT 0 Qon rfl (Jc rfl) (Q8 rfl)),YO,(Zx G1 (hr.mono (by decide)) (by rfl) m1 k1 b1 ZJ (Yr (qv 0) (Yr (Y4 Jy J9 (qp 1) (Q4 Jt) (λ_ _=>rfl)) (Yr (Y4 Jy J9 (qp 1) (Q4 Jt) (λ_ _=>rfl)) JV))))⟩))) JG)))))))) (Jo (YF Qkm)) YY)
   (Q2 (QcZ (Qm6 (Qdu (YU (Y9 (Q6 (Zc QcH (QgY rfl) (by rfl) T.all Qg5 (QbS (Q6 (YQ ["_law_cell", "_law_board_here"] [none,some 0] (Qbx (qp 1)) (λcl ex s3 H3 C=>⟨(ZT 0 Qom rfl (Jc rfl) (Q8 rfl)),YO,(Zw (Qfy QlC (QlR hI) (qp 0) (Q4 (Y4 Jy J9 (qp 1) (Q4 Jt) (λ_ _=>rfl))) (by rfl)))⟩))) JG))))) (Qcu (YU (Y9 (Q4 (Zx G2 (hr.mono (by decide)) (by rfl) m2 k2 b2 ZJ (Yr (qv 1) JV)))))))) (Jo (YF Qkm)) YY)
   (Q2 (ZR 2 (Zw (Z7 ZH Yw (Q6 (YQ ["_law_row", "_law_column"] [none,none] (Qbx (qp 1)) (λcl ex s3 H3 C=>⟨(Qbh rfl (Zb 0 (Zb 1 Qbi QiU rfl (Jc rfl) (Q8 rfl)) QiU rfl (Jc rfl) (Q8 rfl))),YO,(qv 0)⟩))) (Q6 (YQ ["_law_row", "_law_column"] [none,none] (Qbx (qp 1)) (λcl ex s3 H3 C=>⟨(Qbh rfl (Zb 0 (Zb 1 Qbi QiT rfl (Jc rfl) (Q8 rfl)) QiT rfl (Jc rfl) (Q8 rfl))),YO,(Zw (Z7 ZH Yw (Q4 Jt) (qp 1)))⟩))))) QkX.nd)
   (Jo (Qae (Qfy QiO (Qog hU) (Q6 (QnI (by rfl) T.len (by rfl) T.set (qp 2))) (Q6 (Z7 QhL QlQ (Q4 Jt) (Q6 (Zc Zy QaA (by rfl) T.len YV (QbS (qp 1) JG))))) (YR _)))))),λargs R EX h=>?_⟩
  obtain⟨h,w,cs,d,rfl,h6,hs,hR⟩:=h;cases d with
  |tuple ds=>
   have hl:=hs ds rfl;refine Qaz (λd=>.bool (Ql5 h w d)) (λd hd k2 hk=>⟨_,rfl,_,rfl,_,_,_,rfl,hk⟩) (Qdc (items:=ds) rfl ?_);cases ha:ds.all (Ql5 h w) with
   |false=>
    rw[show QvD h w cs (.tuple ds)=false by show((ds.all (Ql5 h w)&&_)&&_)=false;rw[ha];rfl] at hR;exact hR
   |true=>
    obtain⟨L,rfl,hL⟩:=QnL ha;rw[Qd] at hl;rw[show QvD h w cs (.tuple (L.map pairD))=(Qbw (L.map pairD)&&((L.map pairD).all (inC cs)&&apB L)) by show(((L.map pairD).all (Ql5 h w)&&_)&&(_&&apB ((L.map pairD).map toP)))=_;rw[ha,Qgz];rfl] at hR;refine Qaz (λd=>.bool (inC cs d)) (λd hd k2 hk=>?_) (Qdc (items:=L.map pairD) rfl ?_)
    ·obtain⟨p,_,rfl⟩:=Ql.mp hd;exact⟨_,rfl,⟨QgG cs,rfl,by have:=Qj7 p;omega⟩,hk⟩
    ·cases hi:(L.map pairD).all (inC cs) with
     |false=>
      rw[hi,Zl,QtT] at hR;exact hR
     |true=>
      rw[hi,Zk] at hR;refine⟨_,.inl rfl,QgV L,by rw[Qd];omega,?_⟩;cases hr:Qbw (L.map pairD) with
      |false=>
       rw[hr,Zl] at hR;exact hR
      |true=>
       rw[hr,Zk] at hR;have e1:(L.map pairD).map (λd=>Qe (toP d).1)=(L.map (λp=>p.1)).map Qe:=by rw[QP,QP];rfl
       have e2:(L.map pairD).map (λd=>Qe (6+(toP d).2))=(L.map (λp=>6+p.2)).map Qe:=by rw[QP,QP];rfl
       refine Qaz (λd=>.int (toP d).1) (λd hd k2 hk=>?_) (Qaz (λd=>.int (6+(toP d).2)) (λd hd k2 hk=>?_) ?_)
       ·obtain⟨p,_,rfl⟩:=Ql.mp hd;exact⟨rfl,hk⟩
       ·obtain⟨p,_,rfl⟩:=Ql.mp hd;exact⟨rfl,hk⟩
       ·rw[e1,e2];refine⟨by rw[Qd,Qd,Qd,Qd];omega,?_⟩;rw[<- Jm];refine⟨_,Qkc _,by rw[Qo,Qd,Qd];omega,.inl (.inl (by decide)),?_⟩;have c1:decide (((ddI (L.map (λp=>p.1)++L.map (λp=>6+p.2))).length:Int)=2*(((L.map pairD).length:Nat):Int))=apB L:=by
         unfold apB;rw[<- Bool.decide_and];refine decide_eq_decide.mpr ?_
         rw[<- QhY (L:=L) λp hp=>by have:=hL p hp;omega,<- QoI,Qo,Qd,Qd,Qd];omega
        show R (.bool (decide _));rw[c1];exact hR
  |_=>exact hR
theorem QjW:(["_law_one", "_law_many"]:List Str).Nodup:=by decide +kernel
theorem QkZ:JH ["_law_thing", "_law_many"] ["_law_thing", "_law_many"] (Qx Qc3):=⟨rfl,rfl,rfl,by decide +kernel,rfl,by decide +kernel,by decide +kernel⟩
theorem QlJ{f f1 f2  : Addr}{fd fd1 fd2:QR}(F:Fun K "_law_is_some" "_law_is_some" Qc3 f fd)(T:GlbA mg)
  (m1:mg "_law_whole" = some (.ref f1))(G1:FnOk P w K mg base CX0 1 f1 fd1 ["_law_thing"] (Zq false QdV))(b1:Binds K fd1 ["_law_thing"] [])(k1:PySem.W.keepIn K (.ref f1)=true)
  (m2:mg "_law_rises" = some (.ref f2))(G2:FnOk P w K mg base CX0 1 f2 fd2 ["_law_things"] (Zq false QfH))(b2:Binds K fd2 ["_law_things"] [])(k2:PySem.W.keepIn K (.ref f2)=true) :
  FnOk P w K mg base CX0 2 f fd ["_law_thing", "_law_many"] (Zq false lsomeD):=by
 refine okQ false F QkZ (λargs R EX h=>?_) (λcdv A outer s H E hr=>?_)
 ·obtain⟨n,d,rfl,_⟩:=h;rfl
 ·have hU:=Room.u60 hr;have hI:=Room.i60 hr;refine⟨_,Q2 (QcZ (Qm6 (Qdu (YU (Y9 (Q6 (Qcw .tuple (by rfl) T.isinstance (qp 0) (by rfl) T.tuple Qam)))) (Qcu (YU (Y9 (Q6 (Zc QcH (QgY rfl) (by rfl) T.all Qg5 (QbS (Q6 (YQ ["_law_one", "_law_many"] [none,some 1] (Qbx (qp 0)) (λcl ex s3 H3 C=>⟨(ZT 0 QjW rfl (Jc rfl) (Q8 rfl)),YO,(Qlk (Q4 (Zx G1 (hr.mono (by decide)) (by rfl) m1 k1 b1 ZJ (Yr (qv 0) JV))) (QjM (Zw (Qwv QjR QjQ (Q4 Jt) (qp 0) (qp 1)))))⟩))) JG)))))))) (Jo (YF Qkm)) YY)
   (Jo (YF (Zx G2 (hr.mono (by decide)) (by rfl) m2 k2 b2 ZJ (Yr (qv 0) JV)))),λargs R EX h=>?_⟩
  obtain⟨n,d,rfl,hs,hR⟩:=h;cases d with
  |tuple ds=>
   have hR:R (.bool (ds.all (λd=>inW d 0 (n - 1))&&Qbw ds)):=hR;refine Qaz (λd=>.bool (inW d 0 (n - 1))) (λd hd k2 hk=>?_) (Qdc (items:=ds) rfl ?_)
   ·rw[<- Qh2] at hk;refine⟨d,rfl,?_⟩;cases d with
    |int i=>exact QpT (b:=decide (0<=i)) hk
    |_=>exact hk
   ·cases ha:ds.all (λd=>inW d 0 (n - 1)) with
    |false=>rw[ha,Zl] at hR;exact hR
    |true=>
     rw[ha,Zk] at hR;obtain⟨ns,rfl,_⟩:=QhP ha;exact⟨_,.inl rfl,Qia ns,hs _ rfl,hR⟩
  |_=>exact hR
theorem QeT:(["_law_row", "_law_column", "_law_thing"]:List Str).Nodup:=by decide +kernel
theorem QkY:JH ["_law_board_here", "_law_thing"] ["_law_board_here", "_law_thing"] (Qx Qe1):=⟨rfl,rfl,rfl,by decide +kernel,rfl,by decide +kernel,by decide +kernel⟩
theorem QlH{f f1  : Addr}{fd fd1:QR}(F:Fun K "_law_holds" "_law_holds" Qe1 f fd)(T:GlbA mg)
  (m1:mg "_law_is_some" = some (.ref f1))(G1:FnOk P w K mg base CX0 2 f1 fd1 ["_law_thing", "_law_many"] (Zq false lsomeD))(b1:Binds K fd1 ["_law_thing", "_law_many"] [])(k1:PySem.W.keepIn K (.ref f1)=true) :
  FnOk P w K mg base CX0 3 f fd ["_law_board_here", "_law_thing"] (Zq false QhZ):=by
 refine okQ false F QkY (λargs R EX h=>?_) (λcdv A outer s H E hr=>?_)
 ·obtain⟨h,w,cs,d,rfl,_⟩:=h;rfl
 ·have hU:=Room.u60 hr;have hI:=Room.i60 hr;refine⟨_,Q2 (QcZ (Qm6 (Qdu (YU (Y9 (Q6 (Qcw .tuple (by rfl) T.isinstance (qp 1) (by rfl) T.tuple Qam)))) (Qcu (QaW QeP (QjU hU) (Q6 (Zc Zy QaA (by rfl) T.len YV (QbS (qp 1) JG))) (Q4 Jt) (YR _))))) (Jo (YF Qkm)) YY)
   (Q2 (QcZ (Qm6 (Qdu (YU (Y9 (Q4 (Zx G1 (hr.mono (by decide)) (by rfl) m1 k1 b1 ZJ (Yr (Y4 Jy J9 (qp 1) (Q4 Jt) (λ_ _=>rfl)) (Yr (Y4 Jy J9 (qp 0) (Q4 Jt) (λ_ _=>rfl)) JV)))))) (Qcu (YU (Y9 (Q4 (Zx G1 (hr.mono (by decide)) (by rfl) m1 k1 b1 ZJ (Yr (Y4 Jy J9 (qp 1) (Q4 Jt) (λ_ _=>rfl)) (Yr (Y4 Jy J9 (qp 0) (Q4 Jt) (λ_ _=>rfl)) JV))))))))) (Jo (YF Qkm)) YY)
   (Jo (Qae (Zc QcH (QgY rfl) (by rfl) T.all Qg5 (QbS (Q6 (YQ ["_law_row", "_law_column", "_law_thing"] [none,none,some 1] (Qbx (Q4 (Y4 Jy J9 (qp 0) (Q4 Jt) (λ_ _=>rfl)))) (λcl ex s3 H3 C=>⟨(Qbh rfl (Zb 0 (Zb 1 Qbi QeT rfl (Jc rfl) (Q8 rfl)) QeT rfl (Jc rfl) (Q8 rfl))),YO,(Qzm (Q6 (Qfy QlC (QlR hI) (qp 0) (Q4 (Y4 Jy J9 (qp 2) (Q4 Jt) (λ_ _=>rfl))) (by rfl))) (QjM (Zw (Qfy QlC (QlR hI) (qp 1) (Q4 (Y4 Jy J9 (qp 2) (Q4 Jt) (λ_ _=>rfl))) (by rfl)))))⟩))) JG))))),λargs R EX h=>?_⟩
  obtain⟨h,w,cs,d,rfl,hs,hR⟩:=h;cases d with
  |tuple ds=>
   match ds,hs,hR with
   |[a,b],hs,hR=>
    have sa:shortT a:=hs _ rfl a (.head _);have sb:shortT b:=hs _ rfl b (.tail _ (.head _));have hR:R (.bool ((Qj3 h a&&Qj3 w b)&&(cs.map pairD).all λd=>inT (toP d).1 a||inT (toP d).2 b)):=hR;refine⟨a,rfl,_,Jv (j:=0) rfl,_,_,rfl,sa,?_⟩;cases za:Qj3 h a with
    |false=>rw[za,Zl,Zl] at hR;exact hR
    |true=>
     rw[za,Zk] at hR;refine⟨b,rfl,_,Jv (j:=1) rfl,_,_,rfl,sb,?_⟩;cases zb:Qj3 w b with
     |false=>rw[zb,Zl] at hR;exact hR
     |true=>
      rw[zb,Zk] at hR;obtain⟨ns,rfl,_⟩:=QpD za;obtain⟨ms,rfl,_⟩:=QpD zb;refine⟨_,Jv (j:=2) rfl,Qaz (λd=>.bool (inT (toP d).1 (tN ns)||inT (toP d).2 (tN ms))) (λd hd k2 hk=>?_) (Qdc (items:=cs.map pairD) rfl hR)⟩;obtain⟨p,_,rfl⟩:=Ql.mp hd;have hk:k2 (.bool (inT p.1 (tN ns)||inT p.2 (tN ms))):=hk;refine⟨rfl,tN ns,rfl,⟨QbK ns,rfl,by show 0<=_;omega⟩,?_⟩;refine ifC (λz=>?_) λz=>?_
      ·rw[show inT p.1 (tN ns)=true from z,Bool.true_or] at hk;exact hk
      ·rw[show inT p.1 (tN ns)=false from z,Bool.false_or] at hk;exact⟨tN ms,rfl,⟨QbK ms,rfl,by show 0<=_;omega⟩,hk⟩
   |[],_,hR=>exact hR
   |[_],_,hR=>exact hR
   |a::b::c::r,_,hR=>exact hR
  |_=>exact hR
end
def QhD:DF:=λargs R _=>∃(h w m:Nat)(cs L:List (Int×Int)),args=[.v (bdD h w cs)]/\GB h w cs/\Great cs h w m/\(evS cs m)[0]? = some L/\R (.tuple [stT L,lnK (QbX cs h) (colK cs (QbX cs h))])
theorem Qma{cs:List (Int×Int)}{h w m n:Nat}(a:Great cs h w m)(b:Great cs h w n):m=n:=Nat.le_antisymm (b.2.2 m a.1 a.2.1) (a.2.2 n b.1 b.2.1)
theorem Qi3{h w:Nat}{cs:List (Int×Int)}(g:GB h w cs){m:Nat}(gm:Great cs h w m):∃L,(evS cs m)[0]? = some L/\Std cs L/\L.length=m:=by
 have:=gm.2.1;rw[QfN g] at this;have hl:0<(evS cs m).length:=by omega
 have e:(evS cs m)[0]? = some (evS cs m)[0]:=Qk hl;obtain⟨st,lk⟩:=(Qd9 g.r0 m _).mp (Jx e);exact⟨_,e,st,lk⟩
theorem Qpb(P:Nat->Prop):∀n:Nat,(∃k,k<=n/\P k)->∃m,m<=n/\P m/\∀k,k<=n->P k->k<=m
 |0,⟨k,hk,hp⟩=>by
  obtain rfl:k=0:=by omega
  exact⟨0,Qj _,hp,λk hk _=>hk⟩
 |n+1,⟨k,hk,hp⟩=>by
  by_cases z:P (n+1)
  ·exact⟨n+1,Qj _,z,λk hk _=>hk⟩
  ·have hk2:k<=n:=by
    rcases Nat.lt_or_ge k (n+1) with y | y
    ·omega
    ·obtain rfl:k=n+1:=by omega
     exact absurd hp z
   obtain⟨m,h1,h2,h3⟩:=Qpb P n ⟨k,hk2,hp⟩;refine⟨m,by omega,h2,λk hk hp=>?_⟩;rcases Nat.lt_or_ge k (n+1) with y | y
   ·exact h3 k (by omega) hp
   ·obtain rfl:k=n+1:=by omega
    exact absurd hp z
theorem Qh3{h w:Nat}{cs:List (Int×Int)}(g:GB h w cs):∃m,Great cs h w m:=
 let ⟨m,h1,h2,h3⟩:=Qpb (λk=>0<Wc cs h h 0 k) (min h w) ⟨0,Qr _,by rw[QfN g];show(0:Int)<((1:Nat):Int);decide⟩
 ⟨m,h1,h2,h3⟩
theorem Qe7{h w:Nat}{cs:List (Int×Int)}(g:GB h w cs){m:Nat}(gm:Great cs h w m){r:List Int}(hr:r∈lotsN h)(hm:∀q∈lotsN h,costN cs r<=costN cs q):costN cs r=m:=by
 obtain⟨L,_,st,lk⟩:=Qi3 g gm;have a:=Qnt g st hr;obtain⟨M,stM,l⟩:=QoL g hm;have b:M.length<=m:=by
  refine gm.2.2 _ (QkL g stM) ?_
  rw[QfN g];have:=Qad ((Qd9 g.r0 M.length M).mpr ⟨stM,rfl⟩);omega
 omega
theorem QvK(cs:List (Int×Int))(h:Nat):QbX cs h∈lotsN h/\∀q∈lotsN h,costN cs (QbX cs h)<=costN cs q:=by
 have l0:0<(lotsN h).length:=by rw[QcB];exact Y7 h
 obtain⟨a,b⟩:=argBest_lt (λi=>((costN cs ((lotsN h).getD i []):Nat):Int)) ((lotsN h).length - 1);have a:Qs5 cs h<=(lotsN h).length - 1:=a;have hl:Qs5 cs h<(lotsN h).length:=by omega
 refine⟨?_,λq hq=>?_⟩
 ·unfold QbX;rw[QY,Qk hl];exact Z9 hl
 ·obtain⟨j,hj⟩:=Jn.mp hq;have:=b j (by have:=(QQ.mp hj).1;omega);have this:((costN cs ((lotsN h).getD (Qs5 cs h) []):Nat):Int)<=((costN cs ((lotsN h).getD j []):Nat):Int):=this;rw[show(lotsN h).getD j []=q by rw[QY,hj];rfl] at this;unfold QbX;omega
theorem QiF:∀{ns:List Int},ns.Pairwise (· < ·)->Qbw (ns.map Qe)=true
 |[],_=>rfl
 |[_],_=>rfl
 |x::y::r,h=>by
  have h:=Qdy.mp h;show(ltD (.int x) (.int y)&&Qbw ((y::r).map Qe))=true;rw[QiF h.2,QdC];have:x<y:=h.1 y (.head _);show isL (Qeq x y)=true;unfold Qeq;rw[if_pos this];rfl
theorem Qvp{n:Int}{ns:List Int}(pw:ns.Pairwise (· < ·))(b:∀x∈ns,0<=x/\x<n):Qj3 n (tN ns)=true:=by
 show((ns.map Qe).all (λd=>inW d 0 (n - 1))&&Qbw (ns.map Qe))=true;rw[QiF pw,QdC];refine Zv.mpr λd hd=>?_
 obtain⟨x,hx,rfl⟩:=Ql.mp hd;have:=b x hx;exact Ql7 (by omega) (by omega)
theorem QdL(ms:List Nat):(ms.map λ(x:Nat)=>Qe x)=(ms.map λ(x:Nat)=>(x:Int)).map Qe:=by rw[QP];rfl
theorem Ql8(x:Int)(ns:List Int):inT x (tN ns)=decide (x∈ns):=Qil ns x
theorem Qx2{h w:Nat}{cs:List (Int×Int)}(g:GB h w cs){r:List Int}(hr:r∈lotsN h):QyO h w cs (lnK r (colK cs r))=true:=by
 obtain⟨pw,b,_⟩:=QcC hr;have cw:∀x∈(colK cs r).map (λ(x:Nat)=>(x:Int)),0<=x/\x<(w:Int):=λx hx=>by
  obtain⟨y,hy,rfl⟩:=Ql.mp hx;obtain⟨p,hp,_,e⟩:=(QcA (QpL g) y).mp hy;have:=g.bds.2.2 p hp;omega
 have cpw:((colK cs r).map λ(x:Nat)=>(x:Int)).Pairwise (· < ·):=JA.mpr ((QfT cs r).imp λ{a b}(z:a<b)=>by show(a:Int)<(b:Int);omega);have e:lnK r (colK cs r)=.tuple [tN r,tN ((colK cs r).map λ(x:Nat)=>(x:Int))]:=by unfold lnK;rw[QdL];rfl
 rw[e];show((Qj3 h (tN r)&&Qj3 w (tN ((colK cs r).map λ(x:Nat)=>(x:Int))))&&(cs.map pairD).all λd=>inT (toP d).1 (tN r)||inT (toP d).2 (tN ((colK cs r).map λ(x:Nat)=>(x:Int))))=true;rw[Qvp pw b,Qvp cpw cw,Zk,Zk];refine Zv.mpr λd hd=>?_
 obtain⟨p,hp,rfl⟩:=Ql.mp hd;show(inT p.1 (tN r)||inT p.2 (tN ((colK cs r).map λ(x:Nat)=>(x:Int))))=true;rw[Ql8,Ql8];by_cases z:p.1∈r
 ·rw[decide_eq_true z];rfl
 ·have c:=QpL g p hp;rw[decide_eq_true (p:=p.2∈(colK cs r).map λ(x:Nat)=>(x:Int)) (Ql.mpr ⟨p.2.toNat,(QcA (QpL g) _).mpr ⟨p,hp,z,by omega⟩,by omega⟩),Bool.or_true]
theorem Qru{r:List Int}{ms:List Nat}{h:Nat}(a:r.length<=h)(b:ms.length<=6)(h6:h<=6):Qpg (lnK r ms):=λds e d hd=>by
 cases e;rcases Qy.mp hd with z | z
 ·subst z;intro ds e;cases e;rw[Qd];omega
 ·rw[QC.mp z];intro ds e;cases e;rw[Qd];omega
theorem QxQ(ms:List Nat):nds (ms.map λ(x:Nat)=>Qe x)=true:=by rw[QdL];exact QbK _
theorem QyK(L:List (Int×Int))(r:List Int)(ms:List Nat):nd (.tuple [stT L,lnK r ms])=true:=by
 show(nds (L.map pairD)&&((nds (r.map Qe)&&(nds (ms.map λ(x:Nat)=>Qe x)&&true))&&true))=true;rw[QgG,QbK,QxQ];rfl
theorem QxP(L:List (Int×Int))(r:List Int)(ms:List Nat):okK (.tuple [stT L,lnK r ms])=true:=by
 have a:Qd5 (L.map pairD)=true:=Qd4 λd hd=>by obtain⟨p,_,rfl⟩:=Ql.mp hd;rfl
 have b:∀ns:List Int,Qd5 (ns.map Qe)=true:=λns=>Qd4 λd hd=>by obtain⟨p,_,rfl⟩:=Ql.mp hd;rfl
 show(Qd5 (L.map pairD)&&((Qd5 (r.map Qe)&&(Qd5 (ms.map λ(x:Nat)=>Qe x)&&true))&&true))=true;rw[QdL,a,b,b];rfl
theorem Ql0(L:List (Int×Int))(r:List Int)(ms:List Nat):Qcm (.tuple [stT L,lnK r ms])=true:=Qb4 _ (QxP L r ms)
theorem Qyb(L:List (Int×Int))(r:List Int)(ms:List Nat):(Zh [stT L,lnK r ms]).depth<=50:=by
 have a:=Qh5 L;have b:∀ns:List Int,(Zh (ns.map Qe)).depth<=1:=λns=>QcE ns
 have c:(lnK r ms).depth<=2:=by
  unfold lnK;rw[QdL];show QN [tN r,tN (ms.map λ(x:Nat)=>(x:Int))]+1<=2;have:=YZ (n:=1) (ds:=[tN r,tN (ms.map λ(x:Nat)=>(x:Int))]) λd hd=>by
   rcases Qy.mp hd with z | z
   ·subst z;exact QcE _
   ·rw[QC.mp z];exact QcE _
  omega
 show QN [stT L,lnK r ms]+1<=50;have:=YZ (n:=2) (ds:=[stT L,lnK r ms]) λd hd=>by
  rcases Qy.mp hd with z | z
  ·subst z;exact a
  ·rw[QC.mp z];exact c
 omega
theorem Qot(cs:List (Int×Int))(r:List Int):(colK cs r).length<=6:=by
 have:=Qaq (λ(x:Nat)=>cs.any λp => !decide (p.1∈r)&&decide (p.2=(x:Int))) (Je 6);rw[Jf] at this;exact this
section
variable{P:QB}{w:Ji}{K:PySem.W.Frag}{mg:Str->Option Value}{base:Heap}
theorem Qrx:JH ["board"] ["board"] (Qx QjI):=⟨rfl,rfl,rfl,by decide +kernel,rfl,by decide +kernel,by decide +kernel⟩
theorem QsB{f f1 f2 f3  : Addr}{fd fd1 fd2 fd3:QR}(F:Fun K "showing" "showing" QjI f fd)(T:GlbA mg)
  (m1:mg "stand_at" = some (.ref f1))(G1:FnOk P w K mg base CX0 4 f1 fd1 ["board", "size", "number"] (Zq false Qfo))(b1:Binds K fd1 ["board", "size", "number"] [])(k1:PySem.W.keepIn K (.ref f1)=true)
  (m2:mg "greatest_size" = some (.ref f2))(G2:FnOk P w K mg base CX0 4 f2 fd2 ["board"] (Zq false Qmb))(b2:Binds K fd2 ["board"] [])(k2:PySem.W.keepIn K (.ref f2)=true)
  (m3:mg "fewest_lines" = some (.ref f3))(G3:FnOk P w K mg base CX0 3 f3 fd3 ["board"] (Zq false Qmf))(b3:Binds K fd3 ["board"] [])(k3:PySem.W.keepIn K (.ref f3)=true) :
  FnOk P w K mg base CX0 5 f fd ["board"] (Zq false QhD):=by
 refine okQ false F Qrx (λargs R EX h=>?_) (λcdv A outer s H E hr=>?_)
 ·obtain⟨h,w,m,cs,L,rfl,_⟩:=h;rfl
 ·have hU:=Room.u60 hr;have hI:=Room.i60 hr;refine⟨_,Jo (Qae (Qdv (QcJ (Zx G1 (hr.mono (by decide)) (by rfl) m1 k1 b1 ZJ (Yr (qv 0) (Yr (Zx G2 (hr.mono (by decide)) (by rfl) m2 k2 b2 ZJ (Yr (qv 0) JV)) (Yr Jt JV)))) (QcJ (Zx G3 (hr.mono (by decide)) (by rfl) m3 k3 b3 ZJ (Yr (qv 0) JV)) JG)))),λargs R EX h=>?_⟩;obtain⟨h,w,m,cs,L,rfl,g,gm,eL,hR⟩:=h;refine⟨_,_,_,rfl,g.bds,λm2 gm2=>?_⟩;obtain rfl:=Qma gm gm2;refine⟨h,w,cs,m,0,L,rfl,g,gm.1,eL,?_⟩;exact⟨_,_,_,rfl,g,hR⟩
theorem Qd0:JH ["_law_script", "_law_k", "_law_pot_here", "_law_board_here", "_law_rows", "_law_columns", "_law_found"] ["_law_script"] (Qx sLaw):=⟨rfl,rfl,rfl,by decide +kernel,rfl,by decide +kernel,by decide +kernel⟩
theorem Qvk{f f1 f2 f3 f4 f5 f6 f7  : Addr}{fd fd1 fd2 fd3 fd4 fd5 fd6 fd7:QR}(F:Fun K "law" "law" sLaw f fd)(T:GlbA mg)
  (m1:mg "_law_cell_at" = some (.ref f1))(G1:FnOk P w K mg base CX0 1 f1 fd1 ["_law_script", "_law_k"] (Qcs K))(b1:Binds K fd1 ["_law_script", "_law_k"] [])(k1:PySem.W.keepIn K (.ref f1)=true)
  (m2:mg "_law_pot" = some (.ref f2))(G2:FnOk P w K mg base CX0 1 f2 fd2 ["_law_cell"] (Zq true Qxy))(b2:Binds K fd2 ["_law_cell"] [])(k2:PySem.W.keepIn K (.ref f2)=true)
  (m3:mg "_law_board" = some (.ref f3))(G3:FnOk P w K mg base CX0 2 f3 fd3 ["_law_pot_here", "_law_most"] (Zq false Qh0))(b3:Binds K fd3 ["_law_pot_here", "_law_most"] [])(k3:PySem.W.keepIn K (.ref f3)=true)
  (m4:mg "_law_covers" = some (.ref f4))(G4:FnOk P w K mg base CX0 2 f4 fd4 ["_law_board_here"] (Zq false Qmw))(b4:Binds K fd4 ["_law_board_here"] [])(k4:PySem.W.keepIn K (.ref f4)=true)
  (m5:mg "showing" = some (.ref f5))(G5:FnOk P w K mg base CX0 5 f5 fd5 ["board"] (Zq false QhD))(b5:Binds K fd5 ["board"] [])(k5:PySem.W.keepIn K (.ref f5)=true)
  (m6:mg "_law_is_stand" = some (.ref f6))(G6:FnOk P w K mg base CX0 3 f6 fd6 ["_law_board_here", "_law_thing"] (Zq false QhV))(b6:Binds K fd6 ["_law_board_here", "_law_thing"] [])(k6:PySem.W.keepIn K (.ref f6)=true)
  (m7:mg "_law_holds" = some (.ref f7))(G7:FnOk P w K mg base CX0 3 f7 fd7 ["_law_board_here", "_law_thing"] (Zq false QhZ))(b7:Binds K fd7 ["_law_board_here", "_law_thing"] [])(k7:PySem.W.keepIn K (.ref f7)=true) :
  FnOk P w K mg base CX0 8 f fd ["_law_script"] (QeH K):=by
 refine Qzn F Qd0 (λcdv A outer s H E hr=>?_);have hU:=Room.u60 hr;have hI:=Room.i60 hr;refine⟨_,Q2 (Qcv JZ rfl (Qa7 (by rfl) T.range (Q6 (Zc (QmH rfl) Qto (by rfl) T.max QpP (QbS (Q4 Jt) (QbS (Q6 (Zc (Qg2 rfl) QmC (by rfl) T.min QpO (QbS (Q6 (QuE 0 (by rfl) T.len)) (QbS (Q4 Jt) JG)))) JG))))) (ZT 1 Qd0.nd rfl (by first | exact Jc rfl | exact Q8 rfl))
    (Q2 (QrK 2 (QaP G2 (hr.mono (by decide)) (by rfl) m2 k2 b2 ZJ (Yr (Zw (QuF 0 G1 (hr.mono (by decide)) (by rfl) m1 k1 b1 (qp 1))) JV)) Qd0.nd)
   (Q2 (ZR 3 (Zx G3 (hr.mono (by decide)) (by rfl) m3 k3 b3 ZJ (QeN 2 (Yr Jt JV))) Qd0.nd)
   (Q2 (Qle (Y4 Jy J9 (Q4 (Zx G4 (hr.mono (by decide)) (by rfl) m4 k4 b4 ZJ (Yr (qv 3) JV))) (Q4 Jt) (λ_ _=>rfl)) (Qbh rfl (Zb 4 (Zb 5 Qbi Qd0.nd rfl (by first | exact Jc rfl | exact Q8 rfl)) Qd0.nd rfl (by first | exact Jc rfl | exact Q8 rfl))))
   (Q2 (ZR 6 (Zx G5 (hr.mono (by decide)) (by rfl) m5 k5 b5 ZJ (Yr (qv 3) JV)) Qd0.nd)
   (Q2 (QcZ (Qm6 (Qdu (YU (Y9 (Q6 (Qcw .tuple (by rfl) T.isinstance (qp 6) (by rfl) T.tuple Qam)))) (Qdu (QaW QeP (QjU hU) (Q6 (Zc Zy QaA (by rfl) T.len YV (QbS (qp 6) JG))) (Q4 Jt) (YR _)) (Qcu (YU (Y9 (Q4 (Zx G6 (hr.mono (by decide)) (by rfl) m6 k6 b6 ZJ (Yr (qv 3) (Yr (Y4 Jy J9 (qp 6) (Q4 Jt) (λ_ _=>rfl)) JV)))))))))) (Jo (YF Qkm)) YY)
   (Q2 (QcZ (Qm6 (Qdu (YU (Y9 (Q4 (Zx G7 (hr.mono (by decide)) (by rfl) m7 k7 b7 ZJ (Yr (qv 3) (Yr (Y4 Jy J9 (qp 6) (Q4 Jt) (λ_ _=>rfl)) JV)))))) (Qcu (QaW QeP (QjU hU) (Q6 (Zc Zy QaA (by rfl) T.len YV (QbS (Q4 (Y4 Jy J9 (qp 6) (Q4 Jt) (λ_ _=>rfl))) JG))) (Q6 (Z7 ZH Yw (Q6 (Zc Zy QaA (by rfl) T.len YV (QbS (Q4 (Y4 Jy J9 (Q4 (Y4 Jy J9 (qp 6) (Q4 Jt) (λ_ _=>rfl))) (Q4 Jt) (λ_ _=>rfl))) JG))) (Q6 (Zc Zy QaA (by rfl) T.len YV (QbS (Q4 (Y4 Jy J9 (Q4 (Y4 Jy J9 (qp 6) (Q4 Jt) (λ_ _=>rfl))) (Q4 Jt) (λ_ _=>rfl))) JG))))) (YR _))))) (Jo (YF Qkm)) YY)
   (Jo (QcZ (Qm6 (Qdu (QaW QeP (QjU hU) (Q6 (Zc Zy QaA (by rfl) T.len YV (QbS (Q4 (Y4 Jy J9 (qp 6) (Q4 Jt) (λ_ _=>rfl))) JG))) (Q6 (Z7 ZH Yw (Q6 (Zc Zy QaA (by rfl) T.len YV (QbS (qp 4) JG))) (Q6 (Zc Zy QaA (by rfl) T.len YV (QbS (qp 5) JG))))) (YR _)) (Qcu (QaW QeP (QjU hU) (Q4 (Zx G5 (hr.mono (by decide)) (by rfl) m5 k5 b5 ZJ (Yr (qv 3) JV))) (qp 6) (YR _))))) (Jo (YF Qkm)) YY)))))))))
   (Jo (YF Qkm)),?_⟩
 intro n0 n63;refine⟨⟨by split<;>split<;>omega,by split<;>split<;>omega⟩,Qee (λi δ=>∃x1 x2 x3 x4 x5 x6,δ=[.scr,x1,x2,x3,x4,x5,x6]) ⟨_,_,_,_,_,_,rfl⟩ ?_ ?_⟩
 ·rintro i δ hi ⟨x1,x2,x3,x4,x5,x6,rfl⟩;refine⟨by omega,λc=>⟨c,rfl,λn1=>?_⟩⟩;refine⟨6,rfl,by decide,by decide,λh w f h1 hm w1 wm=>?_⟩;have h6:h<=6:=by omega
  have w6:w<=6:=by omega
  have g:GB h w (cellsF h w f):=Qzv f h6 w6;generalize cellsF h w f=cs at g ⊢;refine⟨h,w,cs,rfl,g,λr rest hr hmin=>?_⟩;obtain⟨m,gm⟩:=Qh3 g;obtain⟨L,eL,st,lk⟩:=Qi3 g gm;obtain⟨fi,fm⟩:=QvK cs h;have c1:=Qe7 g gm hr hmin;have c2:=Qe7 g gm fi fm;have ml:=gm.1;have lc:=Qot cs (QbX cs h);have lf:=(QcC fi).2.2;refine⟨lnK r (colK cs r),Jv (j:=0) rfl,rfl,?_⟩;refine⟨h,w,m,cs,L,rfl,g,gm,eL,?_⟩;have ls:((L.map pairD).length:Int)=(m:Int):=by rw[Qd];omega
  have lr:(((QbX cs h).map Qe).length:Int)+(((colK cs (QbX cs h)).map λ(x:Nat)=>Qe x).length:Int)=(m:Int):=by
   rw[Qd,Qd];unfold costN at c2;omega
  have lq:((r.map Qe).length:Int)+(((colK cs r).map λ(x:Nat)=>Qe x).length:Int)=(m:Int):=by
   rw[Qd,Qd];unfold costN at c1;omega
  refine⟨stT L,Jv (j:=0) rfl,?_⟩;refine⟨_,_,_,_,rfl,by omega,(λds e=>by cases e;rw[Qd];omega),?_⟩;rw[Qug g st];refine ifF rfl ?_
  refine⟨lnK (QbX cs h) (colK cs (QbX cs h)),Jv (j:=1) rfl,?_⟩;refine⟨_,_,_,_,rfl,Qru lf lc h6,?_⟩;rw[Qx2 g fi];refine ifF rfl ?_
  refine⟨stT L,Jv (j:=0) rfl,?_⟩;refine⟨lnK (QbX cs h) (colK cs (QbX cs h)),Jv (j:=1) rfl,tN (QbX cs h),Jv (j:=0) rfl,?_⟩;refine⟨lnK (QbX cs h) (colK cs (QbX cs h)),Jv (j:=1) rfl,.tuple ((colK cs (QbX cs h)).map λ(x:Nat)=>Qe x),Jv (j:=1) rfl,?_⟩;refine ifF ?_ ?_
  ·show(!decide (((L.map pairD).length:Int)=((QbX cs h).map Qe).length+((colK cs (QbX cs h)).map λ(x:Nat)=>Qe x).length))=false;rw[ls,lr,decide_eq_true rfl];rfl
  refine⟨stT L,Jv (j:=0) rfl,?_⟩;refine ifF ?_ ?_
  ·show(!decide (((L.map pairD).length:Int)=(r.map Qe).length+((colK cs r).map λ(x:Nat)=>Qe x).length))=false;rw[ls,lq,decide_eq_true rfl];rfl
  refine⟨h,w,m,cs,L,rfl,g,gm,eL,?_⟩;refine⟨⟨QyK _ _ _,QyK _ _ _,.inl (Qyb _ _ _)⟩,ifF ?_ ⟨_,_,_,_,_,_,rfl⟩⟩;show(!Jj (.tuple [stT L,lnK (QbX cs h) (colK cs (QbX cs h))]) (.tuple [stT L,lnK (QbX cs h) (colK cs (QbX cs h))]))=false;rw[show Jj (.tuple [stT L,lnK (QbX cs h) (colK cs (QbX cs h))]) (.tuple [stT L,lnK (QbX cs h) (colK cs (QbX cs h))])=true from by first | exact PySem.eqv_refl _ (Ql0 _ _ _) | exact SeqAt.eqv_refl _ (Ql0 _ _ _) | exact PyProof.eqv_refl _ (Ql0 _ _ _) | exact PySem.SeqAt.eqv_refl _ (Ql0 _ _ _) | exact PyProof.Rows.eqv_refl _ (Ql0 _ _ _)];rfl
 ·rintro δ ⟨x1,x2,x3,x4,x5,x6,rfl⟩;rfl
end
end Rk
def PySem.W.Fast.tw15626084527521038444:Nat:=0
def PySem.W.Fast.tw14191600083439046653:Nat:=0
def PySem.W.Fast.tw3478738494124020497:Nat:=0
def PySem.W.Fast.tw5129553842675106533:Nat:=0
def PySem.W.Fast.tw4810484708920620906:Nat:=0
def PySem.W.Fast.tw11577866275659998282:Nat:=0
def PySem.W.Fast.tw12188413313817777938:Nat:=0
def PySem.W.Fast.tw3992789491204441894:Nat:=0
def PySem.W.Fast.tw1477334361970160463:Nat:=0
def PySem.W.Fast.tw12226886366086927599:Nat:=0
def PySem.W.Fast.tw12119134815263116935:Nat:=0
def PySem.W.Fast.tw7818893565368701084:Nat:=0
def PySem.W.Fast.tw1424884924758598179:Nat:=0
def PySem.W.Fast.tw14445578749342715906:Nat:=0
def PySem.W.Fast.tw5679752654919771229:Nat:=0
def PySem.W.Fast.tw16100055844117278451:Nat:=0
def PySem.W.Fast.tw15560042007244154081:Nat:=0
def PySem.W.Fast.tw10928023089301086417:Nat:=0
def PySem.W.Fast.tw10254134812187864315:Nat:=0
def PySem.W.Fast.tw7008864183018159630:Nat:=0
def PySem.W.Fast.tw7032924165671695301:Nat:=0
def PySem.W.Fast.tw11008356433651423374:Nat:=0
def PySem.W.Fast.tw12471277817250840263:Nat:=0
def PySem.W.Fast.tw16959205705409395532:Nat:=0
def PySem.W.Fast.tw6479924318831184233:Nat:=0
def PySem.W.Fast.tw1952121607926086112:Nat:=0
def PySem.W.Fast.tw8436810984976388398:Nat:=0
def PySem.W.Fast.tw12356029247795191007:Nat:=0
def PySem.W.Fast.tw4747857428041107674:Nat:=0
def PySem.W.Fast.tw13579530251438444743:Nat:=0
def PySem.W.Fast.tw11036821999210739799:Nat:=0
def PySem.W.Fast.tw17160937046031886726:Nat:=0
def PySem.W.Fast.tw2016965482621837104:Nat:=0
def PySem.W.Fast.tw17022884760841778372:Nat:=0
def PySem.W.Fast.tw10342747332391260928:Nat:=0
def PySem.W.Fast.tw46535444677090082:Nat:=0
def PySem.W.Fast.tw2330168395438854953:Nat:=0
def PySem.W.Fast.tw9733958492899865670:Nat:=0
def PySem.W.Fast.tw12991284688248025977:Nat:=0
def PySem.W.Fast.tw849487948033967330:Nat:=0
def PySem.W.Fast.tw11615208231936559860:Nat:=0
def PySem.W.Fast.tw13528020058542019174:Nat:=0
def PySem.W.Fast.tw17585259202582551277:Nat:=0
def PySem.W.Fast.tw9450550616794905090:Nat:=0
def PySem.W.Fast.tw15628467064832976807:Nat:=0
def PySem.W.Fast.tw17215386121935234509:Nat:=0
def PySem.W.Fast.tw5687618593103589819:Nat:=0
def PySem.W.Fast.tw6801865149920530982:Nat:=0
def PySem.W.Fast.tw12282713021104416043:Nat:=0
def PySem.W.Fast.tw15916764704558081828:Nat:=0
def PySem.W.Fast.tw14706994145751780167:Nat:=0
def PySem.W.Fast.tw8594672236103876301:Nat:=0
def PySem.W.Fast.tw14385093225182023298:Nat:=0
def PySem.W.Fast.tw4781105380364526920:Nat:=0
def PySem.W.Fast.tw13920591318884380540:Nat:=0
def PySem.W.Fast.tw9687160583235961325:Nat:=0
def PySem.W.Fast.tw18211116549240182008:Nat:=0
def PySem.W.Fast.tw16015148122253081856:Nat:=0
def PySem.W.Fast.tw8373771566579012092:Nat:=0
def PySem.W.Fast.tw14759776198461894861:Nat:=0
def PySem.W.Fast.tw8284243423934236059:Nat:=0
def PySem.W.Fast.tw1164824843545948246:Nat:=0
def PySem.W.Fast.tw6327119620288413736:Nat:=0
def PySem.W.Fast.tw833474453168050048:Nat:=0
def PySem.W.Fast.tw8773037491723833351:Nat:=0
def PySem.W.Fast.tw15171813495533180907:Nat:=0
def PySem.W.Fast.tw16880527793803654643:Nat:=0
def PySem.W.Fast.tw4483909475250377144:Nat:=0
def PySem.W.Fast.tw9606621650989075315:Nat:=0
def PySem.W.Fast.tw2076742859069693423:Nat:=0
def PySem.W.Fast.tw2459177003555473342:Nat:=0
def PySem.W.Fast.tw5694360647426777975:Nat:=0
def PySem.W.Fast.tw5278872226193427809:Nat:=0
def PySem.W.Fast.tw4272153961461794073:Nat:=0
def PySem.W.Fast.tw15992691492193836327:Nat:=0
def PySem.W.Fast.tw13782033522207132824:Nat:=0
def PySem.W.Fast.tw2521001083209202570:Nat:=0
def PySem.W.Fast.tw18007786166930534788:Nat:=0
def PySem.W.Fast.tw14506716969244923571:Nat:=0
def PySem.W.Fast.tw2083358538379043081:Nat:=0
def PySem.W.Fast.tw14766027017283996212:Nat:=0
def PySem.W.Fast.tw3985361143911059508:Nat:=0
def PySem.W.Fast.tw2506490664902071743:Nat:=0
def PySem.W.Fast.tw12496723919394820551:Nat:=0
def PySem.W.Fast.tw1177974053244341488:Nat:=0
def PySem.W.Fast.tw18343599962132423097:Nat:=0
def PySem.W.Fast.tw4441969071493928496:Nat:=0
def PySem.W.Fast.tw14931307414558589941:Nat:=0
def PySem.W.Fast.tw3645686900344393565:Nat:=0
def PySem.W.Fast.tw7935467701413216433:Nat:=0
def PySem.W.Fast.tw563857185500958999:Nat:=0
def PySem.W.Fast.tw16598266758758505133:Nat:=0
def PySem.W.Fast.tw961375177194373972:Nat:=0
def PySem.W.Fast.tw16049134012574197153:Nat:=0
def PySem.W.Fast.tw17613072770031335437:Nat:=0
def PySem.W.Fast.tw2051088074752174624:Nat:=0
def PySem.W.Fast.tw1458192542424155479:Nat:=0
def PySem.W.Fast.tw13363378313957079964:Nat:=0
def PySem.W.Fast.tw2192220169460864922:Nat:=0
def PySem.W.Fast.tw5670607275433507650:Nat:=0
def PySem.W.Fast.tw18233311211388940547:Nat:=0
def PySem.W.Fast.tw13612169322162732220:Nat:=0
def PySem.W.Fast.tw4795341106988890498:Nat:=0
def PySem.W.Fast.tw11941599140503826256:Nat:=0
def PySem.W.Fast.tw1469165106853247318:Nat:=0
def PySem.W.Fast.tw8884471484897008688:Nat:=0
def PySem.W.Fast.tw15419798824499509670:Nat:=0
def PySem.W.Fast.tw17812929107628162078:Nat:=0
def PySem.W.Fast.tw6984266778164000311:Nat:=0
def PySem.W.Fast.tw4489258366862843913:Nat:=0
def PySem.W.Fast.tw5571083688293758890:Nat:=0
def PySem.W.Fast.tw15254253402970110082:Nat:=0
def PySem.W.Fast.tw3892652637205671516:Nat:=0
def PySem.W.Fast.tw12721046738333946020:Nat:=0
def PySem.W.Fast.tw4728187893198938:Nat:=0
def PySem.W.Fast.tw12646443774943954817:Nat:=0
def PySem.W.Fast.tw2667713144989657848:Nat:=0
def PySem.W.Fast.tw3389354619604052187:Nat:=0
def PySem.W.Fast.tw7771676498499946105:Nat:=0
def PySem.W.Fast.tw14617642995669118305:Nat:=0
def PySem.W.Fast.tw6099971174157609369:Nat:=0
def PySem.W.Fast.tw152083737335716888:Nat:=0
def PySem.W.Fast.tw1606058540262618562:Nat:=0
def PySem.W.Fast.tw13752847597080447853:Nat:=0
def PySem.W.Fast.tw6664535641582869011:Nat:=0
def PySem.W.Fast.tw3970552483965304809:Nat:=0
def PySem.W.Fast.tw9797199661269534227:Nat:=0
def PySem.W.Fast.tw12001686546139992739:Nat:=0
def PySem.W.Fast.tw3897470135296308717:Nat:=0
def PySem.W.Fast.tw16026707948926262718:Nat:=0
def PySem.W.Fast.tw7959777098963351263:Nat:=0
def PySem.W.Fast.tw14378096587279516084:Nat:=0
def PySem.W.Fast.tw13135741605842519612:Nat:=0
def PySem.W.Fast.tw15286459557662175596:Nat:=0
namespace Rk
open L2
theorem Qwe{l:PySem.W.OpenLaw}{w:Ji}{K:PySem.W.Frag}{h:Heap}{mg:Str->Option Value}{fa f1 f2 f3 f4 f5 f6 f7 f8 f9 f10 f11 f12 f13 f14 f15 f16 f17 f18 f19 f20 f21 f22 f23 f24 f25 f26 f27 f28 f29 f30:Addr}(X:K.In h)(G:h.Ns mainGlobals mg)(hfa:mg "law" = some (.ref fa))
  {od1 an1 od2 an2 od3 an3 od4 an4 od5 an5 od6 an6 od7 an7 od8 an8 od9 an9 od10 an10 od11 an11 od12 an12 od13 an13 od14 an14 od15 an15 od16 an16 od17 an17 od18 an18 od19 an19 od20 an20 od21 an21 od22 an22 od23 an23 od24 an24 od25 an25 od26 an26 od27 an27 od28 an28 od29 an29 od30 an30:Option Addr} {sl1 sl2 sl3 sl4 sl5 sl6 sl7 sl8 sl9 sl10 sl11 sl12 sl13 sl14 sl15 sl16 sl17 sl18 sl19 sl20 sl21 sl22 sl23 sl24 sl25 sl26 sl27 sl28 sl29 sl30:Array (Option Value)} {oc1 kV1 dc1 pm1 cd1 ct1 oc2 kV2 dc2 pm2 cd2 ct2 oc3 kV3 dc3 pm3 cd3 ct3 oc4 kV4 dc4 pm4 cd4 ct4 oc5 kV5 dc5 pm5 cd5 ct5 oc6 kV6 dc6 pm6 cd6 ct6 oc7 kV7 dc7 pm7 cd7 ct7 oc8 kV8 dc8 pm8 cd8 ct8 oc9 kV9 dc9 pm9 cd9 ct9 oc10 kV10 dc10 pm10 cd10 ct10 oc11 kV11 dc11 pm11 cd11 ct11 oc12 kV12 dc12 pm12 cd12 ct12 oc13 kV13 dc13 pm13 cd13 ct13 oc14 kV14 dc14 pm14 cd14 ct14 oc15 kV15 dc15 pm15 cd15 ct15 oc16 kV16 dc16 pm16 cd16 ct16 oc17 kV17 dc17 pm17 cd17 ct17 oc18 kV18 dc18 pm18 cd18 ct18 oc19 kV19 dc19 pm19 cd19 ct19 oc20 kV20 dc20 pm20 cd20 ct20 oc21 kV21 dc21 pm21 cd21 ct21 oc22 kV22 dc22 pm22 cd22 ct22 oc23 kV23 dc23 pm23 cd23 ct23 oc24 kV24 dc24 pm24 cd24 ct24 oc25 kV25 dc25 pm25 cd25 ct25 oc26 kV26 dc26 pm26 cd26 ct26 oc27 kV27 dc27 pm27 cd27 ct27 oc28 kV28 dc28 pm28 cd28 ct28 oc29 kV29 dc29 pm29 cd29 ct29 oc30 kV30 dc30 pm30 cd30 ct30:Value}
  (a1:PySem.W.nsIn K mainGlobals "is_whole" = some (some (.ref f1))) (l1:K.lookup f1=some ⟨oc1,od1,.func (PySem.W.fnOf "is_whole" "is_whole" (JM QeJ) (Jz QeJ) (Qx QeJ) .none kV1 dc1 pm1 an1 cd1 ct1),sl1⟩) (c1:PySem.W.codeIn K cd1 "is_whole" = true) (k1:PySem.W.keepIn K (.ref f1)=true)
  (a2:PySem.W.nsIn K mainGlobals "is_whole_within" = some (some (.ref f2)))(l2:K.lookup f2=some ⟨oc2,od2,.func (PySem.W.fnOf "is_whole_within" "is_whole_within" (JM QcS) (Jz QcS) (Qx QcS) .none kV2 dc2 pm2 an2 cd2 ct2),sl2⟩)(c2:PySem.W.codeIn K cd2 "is_whole_within" = true)(k2:PySem.W.keepIn K (.ref f2)=true)
  (a3:PySem.W.nsIn K mainGlobals "stand_at" = some (some (.ref f3)))(l3:K.lookup f3=some ⟨oc3,od3,.func (PySem.W.fnOf "stand_at" "stand_at" (JM QbH) (Jz QbH) (Qx QbH) .none kV3 dc3 pm3 an3 cd3 ct3),sl3⟩)(c3:PySem.W.codeIn K cd3 "stand_at" = true)(k3:PySem.W.keepIn K (.ref f3)=true)
  (a4:PySem.W.nsIn K mainGlobals "counts" = some (some (.ref f4)))(l4:K.lookup f4=some ⟨oc4,od4,.func (PySem.W.fnOf "counts" "counts" (JM QcT) (Jz QcT) (Qx QcT) .none kV4 dc4 pm4 an4 cd4 ct4),sl4⟩)(c4:PySem.W.codeIn K cd4 "counts" = true)(k4:PySem.W.keepIn K (.ref f4)=true)
  (a5:PySem.W.nsIn K mainGlobals "most_size" = some (some (.ref f5)))(l5:K.lookup f5=some ⟨oc5,od5,.func (PySem.W.fnOf "most_size" "most_size" (JM QjK) (Jz QjK) (Qx QjK) .none kV5 dc5 pm5 an5 cd5 ct5),sl5⟩)(c5:PySem.W.codeIn K cd5 "most_size" = true)(k5:PySem.W.keepIn K (.ref f5)=true)
  (a6:PySem.W.nsIn K mainGlobals "refuse_no_size" = some (some (.ref f6)))(l6:K.lookup f6=some ⟨oc6,od6,.func (PySem.W.fnOf "refuse_no_size" "refuse_no_size" (JM QeK) (Jz QeK) (Qx QeK) .none kV6 dc6 pm6 an6 cd6 ct6),sl6⟩)(c6:PySem.W.codeIn K cd6 "refuse_no_size" = true)(k6:PySem.W.keepIn K (.ref f6)=true)
  (a7:PySem.W.nsIn K mainGlobals "followers" = some (some (.ref f7)))(l7:K.lookup f7=some ⟨oc7,od7,.func (PySem.W.fnOf "followers" "followers" (JM sFol) (Jz sFol) (Qx sFol) .none kV7 dc7 pm7 an7 cd7 ct7),sl7⟩)(c7:PySem.W.codeIn K cd7 "followers" = true)(k7:PySem.W.keepIn K (.ref f7)=true)
  (a8:PySem.W.nsIn K mainGlobals "row_behind" = some (some (.ref f8)))(l8:K.lookup f8=some ⟨oc8,od8,.func (PySem.W.fnOf "row_behind" "row_behind" (JM QjJ) (Jz QjJ) (Qx QjJ) .none kV8 dc8 pm8 an8 cd8 ct8),sl8⟩)(c8:PySem.W.codeIn K cd8 "row_behind" = true)(k8:PySem.W.keepIn K (.ref f8)=true)
  (a9:PySem.W.nsIn K mainGlobals "cell_at" = some (some (.ref f9)))(l9:K.lookup f9=some ⟨oc9,od9,.func (PySem.W.fnOf "cell_at" "cell_at" (JM QcU) (Jz QcU) (Qx QcU) .none kV9 dc9 pm9 an9 cd9 ct9),sl9⟩)(c9:PySem.W.codeIn K cd9 "cell_at" = true)(k9:PySem.W.keepIn K (.ref f9)=true)
  (a10:PySem.W.nsIn K mainGlobals "ways_behind" = some (some (.ref f10)))(l10:K.lookup f10=some ⟨oc10,od10,.func (PySem.W.fnOf "ways_behind" "ways_behind" (JM QjH) (Jz QjH) (Qx QjH) .none kV10 dc10 pm10 an10 cd10 ct10),sl10⟩)(c10:PySem.W.codeIn K cd10 "ways_behind" = true)(k10:PySem.W.keepIn K (.ref f10)=true)
  (a11:PySem.W.nsIn K mainGlobals "ways_to_go_on" = some (some (.ref f11)))(l11:K.lookup f11=some ⟨oc11,od11,.func (PySem.W.fnOf "ways_to_go_on" "ways_to_go_on" (JM QjG) (Jz QjG) (Qx QjG) .none kV11 dc11 pm11 an11 cd11 ct11),sl11⟩)(c11:PySem.W.codeIn K cd11 "ways_to_go_on" = true)(k11:PySem.W.keepIn K (.ref f11)=true)
  (a12:PySem.W.nsIn K mainGlobals "ways_with_row" = some (some (.ref f12)))(l12:K.lookup f12=some ⟨oc12,od12,.func (PySem.W.fnOf "ways_with_row" "ways_with_row" (JM sRow) (Jz sRow) (Qx sRow) .none kV12 dc12 pm12 an12 cd12 ct12),sl12⟩)(c12:PySem.W.codeIn K cd12 "ways_with_row" = true)(k12:PySem.W.keepIn K (.ref f12)=true)
  (a13:PySem.W.nsIn K mainGlobals "how_many_lines" = some (some (.ref f13)))(l13:K.lookup f13=some ⟨oc13,od13,.func (PySem.W.fnOf "how_many_lines" "how_many_lines" (JM sHow) (Jz sHow) (Qx sHow) .none kV13 dc13 pm13 an13 cd13 ct13),sl13⟩)(c13:PySem.W.codeIn K cd13 "how_many_lines" = true)(k13:PySem.W.keepIn K (.ref f13)=true)
  (a14:PySem.W.nsIn K mainGlobals "showing" = some (some (.ref f14)))(l14:K.lookup f14=some ⟨oc14,od14,.func (PySem.W.fnOf "showing" "showing" (JM QjI) (Jz QjI) (Qx QjI) .none kV14 dc14 pm14 an14 cd14 ct14),sl14⟩)(c14:PySem.W.codeIn K cd14 "showing" = true)(k14:PySem.W.keepIn K (.ref f14)=true)
  (a15:PySem.W.nsIn K mainGlobals "greatest_size" = some (some (.ref f15)))(l15:K.lookup f15=some ⟨oc15,od15,.func (PySem.W.fnOf "greatest_size" "greatest_size" (JM QeL) (Jz QeL) (Qx QeL) .none kV15 dc15 pm15 an15 cd15 ct15),sl15⟩)(c15:PySem.W.codeIn K cd15 "greatest_size" = true)(k15:PySem.W.keepIn K (.ref f15)=true)
  (a16:PySem.W.nsIn K mainGlobals "fewest_lines" = some (some (.ref f16)))(l16:K.lookup f16=some ⟨oc16,od16,.func (PySem.W.fnOf "fewest_lines" "fewest_lines" (JM sFew) (Jz sFew) (Qx sFew) .none kV16 dc16 pm16 an16 cd16 ct16),sl16⟩)(c16:PySem.W.codeIn K cd16 "fewest_lines" = true)(k16:PySem.W.keepIn K (.ref f16)=true)
  (a17:PySem.W.nsIn K mainGlobals "lots_of_rows" = some (some (.ref f17)))(l17:K.lookup f17=some ⟨oc17,od17,.func (PySem.W.fnOf "lots_of_rows" "lots_of_rows" (JM QjL) (Jz QjL) (Qx QjL) .none kV17 dc17 pm17 an17 cd17 ct17),sl17⟩)(c17:PySem.W.codeIn K cd17 "lots_of_rows" = true)(k17:PySem.W.keepIn K (.ref f17)=true)
  (a18:PySem.W.nsIn K mainGlobals "lines_with" = some (some (.ref f18)))(l18:K.lookup f18=some ⟨oc18,od18,.func (PySem.W.fnOf "lines_with" "lines_with" (JM sLW) (Jz sLW) (Qx sLW) .none kV18 dc18 pm18 an18 cd18 ct18),sl18⟩)(c18:PySem.W.codeIn K cd18 "lines_with" = true)(k18:PySem.W.keepIn K (.ref f18)=true)
  (a19:PySem.W.nsIn K mainGlobals "_law_cell_at" = some (some (.ref f19)))(l19:K.lookup f19=some ⟨oc19,od19,.func (PySem.W.fnOf "_law_cell_at" "_law_cell_at" (JM Qc5) (Jz Qc5) (Qx Qc5) .none kV19 dc19 pm19 an19 cd19 ct19),sl19⟩)(c19:PySem.W.codeIn K cd19 "_law_cell_at" = true)(k19:PySem.W.keepIn K (.ref f19)=true)
  (a20:PySem.W.nsIn K mainGlobals "_law_pot" = some (some (.ref f20)))(l20:K.lookup f20=some ⟨oc20,od20,.func (PySem.W.fnOf "_law_pot" "_law_pot" (JM lPot) (Jz lPot) (Qx lPot) .none kV20 dc20 pm20 an20 cd20 ct20),sl20⟩)(c20:PySem.W.codeIn K cd20 "_law_pot" = true)(k20:PySem.W.keepIn K (.ref f20)=true)
  (a21:PySem.W.nsIn K mainGlobals "_law_take" = some (some (.ref f21)))(l21:K.lookup f21=some ⟨oc21,od21,.func (PySem.W.fnOf "_law_take" "_law_take" (JM Qj2) (Jz Qj2) (Qx Qj2) .none kV21 dc21 pm21 an21 cd21 ct21),sl21⟩)(c21:PySem.W.codeIn K cd21 "_law_take" = true)(k21:PySem.W.keepIn K (.ref f21)=true)
  (a22:PySem.W.nsIn K mainGlobals "_law_board" = some (some (.ref f22)))(l22:K.lookup f22=some ⟨oc22,od22,.func (PySem.W.fnOf "_law_board" "_law_board" (JM Qe2) (Jz Qe2) (Qx Qe2) .none kV22 dc22 pm22 an22 cd22 ct22),sl22⟩)(c22:PySem.W.codeIn K cd22 "_law_board" = true)(k22:PySem.W.keepIn K (.ref f22)=true)
  (a23:PySem.W.nsIn K mainGlobals "_law_whole" = some (some (.ref f23)))(l23:K.lookup f23=some ⟨oc23,od23,.func (PySem.W.fnOf "_law_whole" "_law_whole" (JM QeY) (Jz QeY) (Qx QeY) .none kV23 dc23 pm23 an23 cd23 ct23),sl23⟩)(c23:PySem.W.codeIn K cd23 "_law_whole" = true)(k23:PySem.W.keepIn K (.ref f23)=true)
  (a24:PySem.W.nsIn K mainGlobals "_law_is_place" = some (some (.ref f24)))(l24:K.lookup f24=some ⟨oc24,od24,.func (PySem.W.fnOf "_law_is_place" "_law_is_place" (JM Qe0) (Jz Qe0) (Qx Qe0) .none kV24 dc24 pm24 an24 cd24 ct24),sl24⟩)(c24:PySem.W.codeIn K cd24 "_law_is_place" = true)(k24:PySem.W.keepIn K (.ref f24)=true)
  (a25:PySem.W.nsIn K mainGlobals "_law_rises" = some (some (.ref f25)))(l25:K.lookup f25=some ⟨oc25,od25,.func (PySem.W.fnOf "_law_rises" "_law_rises" (JM QeZ) (Jz QeZ) (Qx QeZ) .none kV25 dc25 pm25 an25 cd25 ct25),sl25⟩)(c25:PySem.W.codeIn K cd25 "_law_rises" = true)(k25:PySem.W.keepIn K (.ref f25)=true)
  (a26:PySem.W.nsIn K mainGlobals "_law_is_stand" = some (some (.ref f26)))(l26:K.lookup f26=some ⟨oc26,od26,.func (PySem.W.fnOf "_law_is_stand" "_law_is_stand" (JM lIsS) (Jz lIsS) (Qx lIsS) .none kV26 dc26 pm26 an26 cd26 ct26),sl26⟩)(c26:PySem.W.codeIn K cd26 "_law_is_stand" = true)(k26:PySem.W.keepIn K (.ref f26)=true)
  (a27:PySem.W.nsIn K mainGlobals "_law_is_some" = some (some (.ref f27)))(l27:K.lookup f27=some ⟨oc27,od27,.func (PySem.W.fnOf "_law_is_some" "_law_is_some" (JM Qc3) (Jz Qc3) (Qx Qc3) .none kV27 dc27 pm27 an27 cd27 ct27),sl27⟩)(c27:PySem.W.codeIn K cd27 "_law_is_some" = true)(k27:PySem.W.keepIn K (.ref f27)=true)
  (a28:PySem.W.nsIn K mainGlobals "_law_holds" = some (some (.ref f28)))(l28:K.lookup f28=some ⟨oc28,od28,.func (PySem.W.fnOf "_law_holds" "_law_holds" (JM Qe1) (Jz Qe1) (Qx Qe1) .none kV28 dc28 pm28 an28 cd28 ct28),sl28⟩)(c28:PySem.W.codeIn K cd28 "_law_holds" = true)(k28:PySem.W.keepIn K (.ref f28)=true)
  (a29:PySem.W.nsIn K mainGlobals "_law_covers" = some (some (.ref f29)))(l29:K.lookup f29=some ⟨oc29,od29,.func (PySem.W.fnOf "_law_covers" "_law_covers" (JM Qc4) (Jz Qc4) (Qx Qc4) .none kV29 dc29 pm29 an29 cd29 ct29),sl29⟩)(c29:PySem.W.codeIn K cd29 "_law_covers" = true)(k29:PySem.W.keepIn K (.ref f29)=true)
  (a30:PySem.W.nsIn K mainGlobals "law" = some (some (.ref f30)))(l30:K.lookup f30=some ⟨oc30,od30,.func (PySem.W.fnOf "law" "law" (JM sLaw) (Jz sLaw) (Qx sLaw) .none kV30 dc30 pm30 an30 cd30 ct30),sl30⟩)(c30:PySem.W.codeIn K cd30 "law" = true)(k30:PySem.W.keepIn K (.ref f30)=true)
  (z1:PySem.W.nsIn K mainGlobals "isinstance" = some none)
  (z2:PySem.W.nsIn K mainGlobals "int" = some none)
  (z3:PySem.W.nsIn K mainGlobals "bool" = some none)
  (z4:PySem.W.nsIn K mainGlobals "str" = some none)
  (z5:PySem.W.nsIn K mainGlobals "tuple" = some none)
  (z6:PySem.W.nsIn K mainGlobals "list" = some none)
  (z7:PySem.W.nsIn K mainGlobals "all" = some none)
  (z8:PySem.W.nsIn K mainGlobals "len" = some none)
  (z9:PySem.W.nsIn K mainGlobals "zip" = some none)
  (z10:PySem.W.nsIn K mainGlobals "enumerate" = some none)
  (z11:PySem.W.nsIn K mainGlobals "range" = some none)
  (z12:PySem.W.nsIn K mainGlobals "max" = some none)
  (z13:PySem.W.nsIn K mainGlobals "min" = some none)
  (z14:PySem.W.nsIn K mainGlobals "sorted" = some none)
  (z15:PySem.W.nsIn K mainGlobals "sum" = some none)
  (z16:PySem.W.nsIn K mainGlobals "set" = some none)
  (z17:PySem.W.nsIn K mainGlobals "any" = some none)
  (z18:PySem.W.nsIn K mainGlobals "reversed" = some none)
  (z19:PySem.W.nsIn K mainGlobals "divmod" = some none)
  :
  ∃fd:QR,(∀(s:Shared)(v:Value),Qnj s fd ⟨[v],[]⟩ [("_law_script",v)])/\∀base:Heap,K.In base->base.Ns mainGlobals mg->FnOk l.prog w K mg base CX0 8 fa fd ["_law_script"] (Dl.QeH K):=by
 have e:=hfa.symm.trans (PySem.W.mg_of X G a30);cases e;have T:=(⟨(PySem.W.mg_none_of X G z1),(PySem.W.mg_none_of X G z2),(PySem.W.mg_none_of X G z3),(PySem.W.mg_none_of X G z4),(PySem.W.mg_none_of X G z5),(PySem.W.mg_none_of X G z6),(PySem.W.mg_none_of X G z7),(PySem.W.mg_none_of X G z8),(PySem.W.mg_none_of X G z9),(PySem.W.mg_none_of X G z10),(PySem.W.mg_none_of X G z11),(PySem.W.mg_none_of X G z12),(PySem.W.mg_none_of X G z13),(PySem.W.mg_none_of X G z14),(PySem.W.mg_none_of X G z15),(PySem.W.mg_none_of X G z16),(PySem.W.mg_none_of X G z17),(PySem.W.mg_none_of X G z18),(PySem.W.mg_none_of X G z19)⟩:GlbA mg);have F1:=ZC (st:=QeJ) l1 c1 k1;have b1:=F1.binds (ps:=["thing"]) λ_ _ _ _ _ _ us hl=>match us,hl with | [_],_=>rfl
 have m1:=PySem.W.mg_of X G a1;have F2:=ZC (st:=QcS) l2 c2 k2;have b2:=F2.binds (ps:=["thing", "least", "most"]) λ_ _ _ _ _ _ us hl=>match us,hl with | [_,_,_],_=>rfl
 have m2:=PySem.W.mg_of X G a2;have F3:=ZC (st:=QbH) l3 c3 k3;have b3:=F3.binds (ps:=["board", "size", "number"]) λ_ _ _ _ _ _ us hl=>match us,hl with | [_,_,_],_=>rfl
 have m3:=PySem.W.mg_of X G a3;have F4:=ZC (st:=QcT) l4 c4 k4;have b4:=F4.binds (ps:=["board"]) λ_ _ _ _ _ _ us hl=>match us,hl with | [_],_=>rfl
 have m4:=PySem.W.mg_of X G a4;have F5:=ZC (st:=QjK) l5 c5 k5;have b5:=F5.binds (ps:=["board"]) λ_ _ _ _ _ _ us hl=>match us,hl with | [_],_=>rfl
 have m5:=PySem.W.mg_of X G a5;have F6:=ZC (st:=QeK) l6 c6 k6;have b6:=F6.binds (ps:=["board", "size"]) λ_ _ _ _ _ _ us hl=>match us,hl with | [_,_],_=>rfl
 have m6:=PySem.W.mg_of X G a6;have F7:=ZC (st:=sFol) l7 c7 k7;have b7:=F7.binds (ps:=["board", "start"]) λ_ _ _ _ _ _ us hl=>match us,hl with | [_,_],_=>rfl
 have m7:=PySem.W.mg_of X G a7;have F8:=ZC (st:=QjJ) l8 c8 k8;have b8:=F8.binds (ps:=["start"]) λ_ _ _ _ _ _ us hl=>match us,hl with | [_],_=>rfl
 have m8:=PySem.W.mg_of X G a8;have F9:=ZC (st:=QcU) l9 c9 k9;have b9:=F9.binds (ps:=["board", "table", "start", "more", "number"]) λ_ _ _ _ _ _ us hl=>match us,hl with | [_,_,_,_,_],_=>rfl
 have m9:=PySem.W.mg_of X G a9;have F10:=ZC (st:=QjH) l10 c10 k10;have b10:=F10.binds (ps:=["table", "start", "more"]) λ_ _ _ _ _ _ us hl=>match us,hl with | [_,_,_],_=>rfl
 have m10:=PySem.W.mg_of X G a10;have F11:=ZC (st:=QjG) l11 c11 k11;have b11:=F11.binds (ps:=["board"]) λ_ _ _ _ _ _ us hl=>match us,hl with | [_],_=>rfl
 have m11:=PySem.W.mg_of X G a11;have F12:=ZC (st:=sRow) l12 c12 k12;have b12:=F12.binds (ps:=["below", "columns", "taken"]) λ_ _ _ _ _ _ us hl=>match us,hl with | [_,_,_],_=>rfl
 have m12:=PySem.W.mg_of X G a12;have F13:=ZC (st:=sHow) l13 c13 k13;have b13:=F13.binds (ps:=["lines"]) λ_ _ _ _ _ _ us hl=>match us,hl with | [_],_=>rfl
 have m13:=PySem.W.mg_of X G a13;have F14:=ZC (st:=QjI) l14 c14 k14;have b14:=F14.binds (ps:=["board"]) λ_ _ _ _ _ _ us hl=>match us,hl with | [_],_=>rfl
 have m14:=PySem.W.mg_of X G a14;have F15:=ZC (st:=QeL) l15 c15 k15;have b15:=F15.binds (ps:=["board"]) λ_ _ _ _ _ _ us hl=>match us,hl with | [_],_=>rfl
 have m15:=PySem.W.mg_of X G a15;have F16:=ZC (st:=sFew) l16 c16 k16;have b16:=F16.binds (ps:=["board"]) λ_ _ _ _ _ _ us hl=>match us,hl with | [_],_=>rfl
 have m16:=PySem.W.mg_of X G a16;have F17:=ZC (st:=QjL) l17 c17 k17;have b17:=F17.binds (ps:=["high"]) λ_ _ _ _ _ _ us hl=>match us,hl with | [_],_=>rfl
 have m17:=PySem.W.mg_of X G a17;have F18:=ZC (st:=sLW) l18 c18 k18;have b18:=F18.binds (ps:=["board", "rows"]) λ_ _ _ _ _ _ us hl=>match us,hl with | [_,_],_=>rfl
 have m18:=PySem.W.mg_of X G a18;have F19:=ZC (st:=Qc5) l19 c19 k19;have b19:=F19.binds (ps:=["_law_script", "_law_k"]) λ_ _ _ _ _ _ us hl=>match us,hl with | [_,_],_=>rfl
 have m19:=PySem.W.mg_of X G a19;have F20:=ZC (st:=lPot) l20 c20 k20;have b20:=F20.binds (ps:=["_law_cell"]) λ_ _ _ _ _ _ us hl=>match us,hl with | [_],_=>rfl
 have m20:=PySem.W.mg_of X G a20;have F21:=ZC (st:=Qj2) l21 c21 k21;have b21:=F21.binds (ps:=["_law_pot_here", "_law_far"]) λ_ _ _ _ _ _ us hl=>match us,hl with | [_,_],_=>rfl
 have m21:=PySem.W.mg_of X G a21;have F22:=ZC (st:=Qe2) l22 c22 k22;have b22:=F22.binds (ps:=["_law_pot_here", "_law_most"]) λ_ _ _ _ _ _ us hl=>match us,hl with | [_,_],_=>rfl
 have m22:=PySem.W.mg_of X G a22;have F23:=ZC (st:=QeY) l23 c23 k23;have b23:=F23.binds (ps:=["_law_thing"]) λ_ _ _ _ _ _ us hl=>match us,hl with | [_],_=>rfl
 have m23:=PySem.W.mg_of X G a23;have F24:=ZC (st:=Qe0) l24 c24 k24;have b24:=F24.binds (ps:=["_law_thing", "_law_high", "_law_wide"]) λ_ _ _ _ _ _ us hl=>match us,hl with | [_,_,_],_=>rfl
 have m24:=PySem.W.mg_of X G a24;have F25:=ZC (st:=QeZ) l25 c25 k25;have b25:=F25.binds (ps:=["_law_things"]) λ_ _ _ _ _ _ us hl=>match us,hl with | [_],_=>rfl
 have m25:=PySem.W.mg_of X G a25;have F26:=ZC (st:=lIsS) l26 c26 k26;have b26:=F26.binds (ps:=["_law_board_here", "_law_thing"]) λ_ _ _ _ _ _ us hl=>match us,hl with | [_,_],_=>rfl
 have m26:=PySem.W.mg_of X G a26;have F27:=ZC (st:=Qc3) l27 c27 k27;have b27:=F27.binds (ps:=["_law_thing", "_law_many"]) λ_ _ _ _ _ _ us hl=>match us,hl with | [_,_],_=>rfl
 have m27:=PySem.W.mg_of X G a27;have F28:=ZC (st:=Qe1) l28 c28 k28;have b28:=F28.binds (ps:=["_law_board_here", "_law_thing"]) λ_ _ _ _ _ _ us hl=>match us,hl with | [_,_],_=>rfl
 have m28:=PySem.W.mg_of X G a28;have F29:=ZC (st:=Qc4) l29 c29 k29;have b29:=F29.binds (ps:=["_law_board_here"]) λ_ _ _ _ _ _ us hl=>match us,hl with | [_],_=>rfl
 have m29:=PySem.W.mg_of X G a29;have F30:=ZC (st:=sLaw) l30 c30 k30;refine⟨PySem.W.fnOf "law" "law" (JM sLaw) (Jz sLaw) (Qx sLaw) .none kV30 dc30 pm30 an30 cd30 ct30,λs v=>.of_eq rfl,λbase _ _=>?_⟩;have G1:FnOk l.prog w K mg base CX0 1 f1 _ ["thing"] (Dl.Zq false Dl.QdV):=Qod F1 T ;have G2:FnOk l.prog w K mg base CX0 2 f2 _ ["thing", "least", "most"] (Dl.Zq false Qfj):=QlD F2 T m1 G1 b1 k1;have G5:FnOk l.prog w K mg base CX0 1 f5 _ ["board"] (Dl.Zq false Qoo):=QsD F5 T ;have G12:FnOk l.prog w K mg base CX0 1 f12 _ ["below", "columns", "taken"] (Dl.Zq true Qrb):=Qsx F12 T ;have G11:FnOk l.prog w K mg base CX0 2 f11 _ ["board"] (Dl.Zq true Qnk):=Qsz F11 T m12 G12 b12 k12;have G4:FnOk l.prog w K mg base CX0 3 f4 _ ["board"] (Dl.Zq true Qh7):=QlM F4 T m11 G11 b11 k11 m5 G5 b5 k5;have G8:FnOk l.prog w K mg base CX0 1 f8 _ ["start"] (Dl.Zq false QnB):=QsC F8 T ;have G7:FnOk l.prog w K mg base CX0 2 f7 _ ["board", "start"] (Dl.Zq false Qx6):=Qvm F7 T m8 G8 b8 k8;have G6:FnOk l.prog w K mg base CX0 3 f6 _ ["board", "size"] (Dl.Zq false Qk6):=Qoe F6 T m2 G2 b2 k2 m5 G5 b5 k5;have G10:FnOk l.prog w K mg base CX0 2 f10 _ ["table", "start", "more"] (Dl.Zq false Qre):=Qsy F10 T m8 G8 b8 k8;have G9:FnOk l.prog w K mg base CX0 3 f9 _ ["board", "table", "start", "more", "number"] (Dl.Zq false Qid):=QlN F9 T m7 G7 b7 k7 m10 G10 b10 k10;have G3:FnOk l.prog w K mg base CX0 4 f3 _ ["board", "size", "number"] (Dl.Zq false Qfo):=QjT F3 T m6 G6 b6 k6 m11 G11 b11 k11 m2 G2 b2 k2 m9 G9 b9 k9;have G15:FnOk l.prog w K mg base CX0 4 f15 _ ["board"] (Dl.Zq false Qmb):=Qof F15 T m4 G4 b4 k4;have G18:FnOk l.prog w K mg base CX0 1 f18 _ ["board", "rows"] (Dl.Zq false lwD):=(QxN F18 T).imp λ_ _ _ _ h=>Qzq h
 have G13:FnOk l.prog w K mg base CX0 1 f13 _ ["lines"] (Dl.Zq false Qx1):=Qvl F13 T ;have G17:FnOk l.prog w K mg base CX0 1 f17 _ ["high"] (Dl.Zq false QhX):=QsE F17 T ;have G16:FnOk l.prog w K mg base CX0 3 f16 _ ["board"] (Dl.Zq false Qmf):=QlK F16 T m18 G18 b18 k18 m17 G17 b17 k17 m13 G13 b13 k13;have G14:FnOk l.prog w K mg base CX0 5 f14 _ ["board"] (Dl.Zq false QhD):=QsB F14 T m3 G3 b3 k3 m15 G15 b15 k15 m16 G16 b16 k16;have G19:FnOk l.prog w K mg base CX0 1 f19 _ ["_law_script", "_law_k"] (Qcs K):=QlO F19 T ;have G20:FnOk l.prog w K mg base CX0 1 f20 _ ["_law_cell"] (Dl.Zq true Dl.Qxy):=(Qvj F20 T).imp λ_ _ _ _ h=>Dl.Qxx h
 have G21:FnOk l.prog w K mg base CX0 1 f21 _ ["_law_pot_here", "_law_far"] (Dl.Zq true Dl.Qrj):=(QsA F21 T).imp λ_ _ _ _ h=>Dl.Qt4 h
 have G22:FnOk l.prog w K mg base CX0 2 f22 _ ["_law_pot_here", "_law_most"] (Dl.Zq false Qh0):=QlI F22 T m21 G21 b21 k21;have G23:FnOk l.prog w K mg base CX0 1 f23 _ ["_law_thing"] (Dl.Zq false Dl.QdV):=QlE F23 T ;have G24:FnOk l.prog w K mg base CX0 2 f24 _ ["_law_thing", "_law_high", "_law_wide"] (Dl.Zq false QhW):=QlG F24 T m23 G23 b23 k23;have G25:FnOk l.prog w K mg base CX0 1 f25 _ ["_law_things"] (Dl.Zq false QfH):=QlF F25 T ;have G26:FnOk l.prog w K mg base CX0 3 f26 _ ["_law_board_here", "_law_thing"] (Dl.Zq false QhV):=QsF F26 T m24 G24 b24 k24 m25 G25 b25 k25;have G27:FnOk l.prog w K mg base CX0 2 f27 _ ["_law_thing", "_law_many"] (Dl.Zq false lsomeD):=QlJ F27 T m23 G23 b23 k23 m25 G25 b25 k25;have G28:FnOk l.prog w K mg base CX0 3 f28 _ ["_law_board_here", "_law_thing"] (Dl.Zq false QhZ):=QlH F28 T m27 G27 b27 k27;have G29:FnOk l.prog w K mg base CX0 2 f29 _ ["_law_board_here"] (Dl.Zq false Qmw):=QlL F29 T ;exact Qvk F30 T m19 G19 b19 k19 m20 G20 b20 k20 m22 G22 b22 k22 m29 G29 b29 k29 m14 G14 b14 k14 m26 G26 b26 k26 m28 G28 b28 k28
theorem Qy9{l:PySem.W.OpenLaw}{q:QB}{loose:List Str}{XP:(Str->Option Value)->Heap->Prop}{YP:Ji->Heap->Prop}{d:DefRec}{K:Params->PySem.W.Frag}(hn:l.most=some 63)(hdf:d.params.defaults=[])
  (hY:∀(w:Ji)(h:Heap),YP w h->(K w.params).In h)
  (F:∀(w:Ji)(mg:Str->Option Value)(fa:Addr)(h:Heap),(K w.params).In h->h.Ns mainGlobals mg->mg d.name=some (.ref fa) ->
   ∃fd:QR,(∀(s:Shared)(u:Value),Qnj s fd ⟨[u],[]⟩ [("_law_script",u)])/\∀base:Heap,(K w.params).In base->base.Ns mainGlobals mg->FnOk l.prog w (K w.params) mg base CX0 8 fa fd ["_law_script"] (Dl.QeH (K w.params))) :
  PySem.W.WalkO q loose XP YP l.row.toRowW d [] (λf vs=>PySem.call f vs):=
 L2.Qrg (n:=63) (k:=8) (x := "_law_script") (CX:=λ_=>CX0) (sp:=λw=>(Dl.QeH (K w.params))) hn (by decide) hdf ⟨rfl,by decide,by decide⟩ hY F (λ_ _ a ns hl _ hS=>⟨a,ns,rfl,hS,hl,λ_=>rfl⟩) λ_ _ _ _ _ z=>z
end Rk
open PySem.W
set_option maxRecDepth 100000 in
set_option maxHeartbeats 0 in
theorem PySem.Challenge.cw_rooklands_k23_showings_told_holds : PySem.Challenge.rw_rooklands_k23_showings_told.Holds := by
 w_on;o_law;k_head;(case hw=>w_witness2)
 k_fill
 refine Rk.Qy9 (l:=PySem.Challenge.rw_rooklands_k23_showings_told) rfl rfl (λw h Y=>PySem.W.kIn_of Y) ?F
 case F=>
  intro w mg fa h KX G hmg;refine' Rk.Qwe KX G hmg ?a1 ?l1 ?c1 ?k1 ?a2 ?l2 ?c2 ?k2 ?a3 ?l3 ?c3 ?k3 ?a4 ?l4 ?c4 ?k4 ?a5 ?l5 ?c5 ?k5 ?a6 ?l6 ?c6 ?k6 ?a7 ?l7 ?c7 ?k7 ?a8 ?l8 ?c8 ?k8 ?a9 ?l9 ?c9 ?k9 ?a10 ?l10 ?c10 ?k10 ?a11 ?l11 ?c11 ?k11 ?a12 ?l12 ?c12 ?k12 ?a13 ?l13 ?c13 ?k13 ?a14 ?l14 ?c14 ?k14 ?a15 ?l15 ?c15 ?k15 ?a16 ?l16 ?c16 ?k16 ?a17 ?l17 ?c17 ?k17 ?a18 ?l18 ?c18 ?k18 ?a19 ?l19 ?c19 ?k19 ?a20 ?l20 ?c20 ?k20 ?a21 ?l21 ?c21 ?k21 ?a22 ?l22 ?c22 ?k22 ?a23 ?l23 ?c23 ?k23 ?a24 ?l24 ?c24 ?k24 ?a25 ?l25 ?c25 ?k25 ?a26 ?l26 ?c26 ?k26 ?a27 ?l27 ?c27 ?k27 ?a28 ?l28 ?c28 ?k28 ?a29 ?l29 ?c29 ?k29 ?a30 ?l30 ?c30 ?k30 ?z1 ?z2 ?z3 ?z4 ?z5 ?z6 ?z7 ?z8 ?z9 ?z10 ?z11 ?z12 ?z13 ?z14 ?z15 ?z16 ?z17 ?z18 ?z19
  (case a1=>k_is)
  (case l1=>k_is)
  (case c1=>k_is)
  (case k1=>k_is)
  (case a2=>k_is)
  (case l2=>k_is)
  (case c2=>k_is)
  (case k2=>k_is)
  (case a3=>k_is)
  (case l3=>k_is)
  (case c3=>k_is)
  (case k3=>k_is)
  (case a4=>k_is)
  (case l4=>k_is)
  (case c4=>k_is)
  (case k4=>k_is)
  (case a5=>k_is)
  (case l5=>k_is)
  (case c5=>k_is)
  (case k5=>k_is)
  (case a6=>k_is)
  (case l6=>k_is)
  (case c6=>k_is)
  (case k6=>k_is)
  (case a7=>k_is)
  (case l7=>k_is)
  (case c7=>k_is)
  (case k7=>k_is)
  (case a8=>k_is)
  (case l8=>k_is)
  (case c8=>k_is)
  (case k8=>k_is)
  (case a9=>k_is)
  (case l9=>k_is)
  (case c9=>k_is)
  (case k9=>k_is)
  (case a10=>k_is)
  (case l10=>k_is)
  (case c10=>k_is)
  (case k10=>k_is)
  (case a11=>k_is)
  (case l11=>k_is)
  (case c11=>k_is)
  (case k11=>k_is)
  (case a12=>k_is)
  (case l12=>k_is)
  (case c12=>k_is)
  (case k12=>k_is)
  (case a13=>k_is)
  (case l13=>k_is)
  (case c13=>k_is)
  (case k13=>k_is)
  (case a14=>k_is)
  (case l14=>k_is)
  (case c14=>k_is)
  (case k14=>k_is)
  (case a15=>k_is)
  (case l15=>k_is)
  (case c15=>k_is)
  (case k15=>k_is)
  (case a16=>k_is)
  (case l16=>k_is)
  (case c16=>k_is)
  (case k16=>k_is)
  (case a17=>k_is)
  (case l17=>k_is)
  (case c17=>k_is)
  (case k17=>k_is)
  (case a18=>k_is)
  (case l18=>k_is)
  (case c18=>k_is)
  (case k18=>k_is)
  (case a19=>k_is)
  (case l19=>k_is)
  (case c19=>k_is)
  (case k19=>k_is)
  (case a20=>k_is)
  (case l20=>k_is)
  (case c20=>k_is)
  (case k20=>k_is)
  (case a21=>k_is)
  (case l21=>k_is)
  (case c21=>k_is)
  (case k21=>k_is)
  (case a22=>k_is)
  (case l22=>k_is)
  (case c22=>k_is)
  (case k22=>k_is)
  (case a23=>k_is)
  (case l23=>k_is)
  (case c23=>k_is)
  (case k23=>k_is)
  (case a24=>k_is)
  (case l24=>k_is)
  (case c24=>k_is)
  (case k24=>k_is)
  (case a25=>k_is)
  (case l25=>k_is)
  (case c25=>k_is)
  (case k25=>k_is)
  (case a26=>k_is)
  (case l26=>k_is)
  (case c26=>k_is)
  (case k26=>k_is)
  (case a27=>k_is)
  (case l27=>k_is)
  (case c27=>k_is)
  (case k27=>k_is)
  (case a28=>k_is)
  (case l28=>k_is)
  (case c28=>k_is)
  (case k28=>k_is)
  (case a29=>k_is)
  (case l29=>k_is)
  (case c29=>k_is)
  (case k29=>k_is)
  (case a30=>k_is)
  (case l30=>k_is)
  (case c30=>k_is)
  (case k30=>k_is)
  (case z1=>k_is)
  (case z2=>k_is)
  (case z3=>k_is)
  (case z4=>k_is)
  (case z5=>k_is)
  (case z6=>k_is)
  (case z7=>k_is)
  (case z8=>k_is)
  (case z9=>k_is)
  (case z10=>k_is)
  (case z11=>k_is)
  (case z12=>k_is)
  (case z13=>k_is)
  (case z14=>k_is)
  (case z15=>k_is)
  (case z16=>k_is)
  (case z17=>k_is)
  (case z18=>k_is)
  (case z19=>k_is)
